import PyProof.Rows.All
import Wide.All
import OpenK.AllK
import Wide.FinOn
import Lean
import PyProof.EqAt
import PyProof.EqKinds
import PyProof.TupleCall
import PyProof.NeKinds
import PyProof.WalksEnum
import PyProof.StrWalks
import PyProof.ExcAttrAll.ValueError
import PyProof.ZipIter
import KE.KRevIter
import PyProof.ListNew
import PyProof.WalksMore
import PyProof.ReprLoop
import PyProof.FactsAll.list
import PyProof.CollectIter
import PyProof.TupleOfGen
import PyProof.Draws
import PyProof.EnumMake
import PyProof.SeqI3
import KE.KMinBuiltin
import PyProof.SetRoads
import PyProof.CollectWalk
import KE.KDictSum
import PyProof.AttrMiss
import PyProof.IsiH_tuple
import KE.KDictOf
import PyProof.FitsBits
import PyProof.SliceList
import PyProof.InstFacts
import PyProof.Rows.StrNews2
import PyProof.StrBlockH
import PyProof.CallStr
import KE.KIntText
import PyProof.Rows.RuleB_pow
import KE.KSortTup
import PyProof.ReprRoads
import KE.KLam
import PySem.Challenge.RW_worthkinds_k88_whole_best_rules
open PySem renaming wpAny_bind->a7,wpAny_pure->aq,wpAny_truthy_bool->aY,wpAny_newObj_type->aZ,wpAny_field->b9,wpAny_callSpecial?_slot->bn,wpAny_seqItems->bq,wpAny_setField_rec->br,codeAny_builtin->bv,mem_of_lookup->bz,wpAny_call_entry->bH,plainId_quiet->bJ,sizeLine_eq->bP,wpAny_holding->bQ,wpAny_of_eq->bR,wpAny_Call_Name_kw->bU,wpAny_passesOwn->bW,wpAny_pyIter_list->c8,wpAny_typeOf->cM,wpAny_rule->c_,wpAny_letGo->d6,codeAny_mono->d9,wpAny_mono->dq,call_meets->du,Within->e_,seqSlot_of->iy,call->iS
open List renaming mem_cons_of_mem->a8,mem_cons_self->ab,length_map->ac,getElem?_eq_getElem->ae,replicate->ah,getElem?_eq_some_iff->ai,mem_cons->ak,length_cons->am,getElem?_map->ar,getElem?_append_right->av,lookup_cons->aw,getElem?_append_left->ax,getElem?_set_ne->ay,length_append->az,size_toArray->aC,length_set->aE,map_cons->aF,mem_map->aI,length_singleton->aK,mem_singleton->aM,getElem?_replicate->aO,length_replicate->aP,all_eq_true->aR,getElem?_set_self->aT,getElem?_eq_none->aU,append_nil->aW,range->a_,map_replicate->b6,mem_append_right->b7,map_map->b8,append_assoc->ba,mem_range->bf,length_nil->bh,map_append->bj,length_range->bA,replicate_succ->bG,not_mem_nil->bI,eq_of_mem_replicate->bK,flatMap_cons->bM,length_reverse->bO,nil_append->bX,mem_of_getElem?->b_,reverse_cons->c9,map_congr_left->cf,prefix_refl->cg,getElem?_cons_succ->ck,range_succ_eq_map->cx,map_nil->cy,pairwise_cons->cB,mem_filter->cD,ext_getElem?->cI,length_take->cL,mem_flatMap->cO,drop_eq_getElem_cons->cQ,filterMap_cons->cR,getElem?_range->cS,all_cons->cV,mem_append->cW,nodup_cons->cX,of_mem_zip->cY,zip_cons_cons->d3,lookup->d4,drop_zero->dg,cons_append->dv,filter_cons->dy,sum_cons->dz,mem_append_left->dA,mem_iff_getElem->dC,foldl->dU,pairwise_iff_getElem->d_,flatten_cons->eB,set_comm->eC,any_cons->eD,length_drop->eO,length_eq_zero_iff->eQ,drop_length->eT,getElem_map->eW,any_eq_true->eY,take_of_length_le->fk,filter_eq_nil_iff->fr,range_succ->fw,length_zip->fy,getElem?_reverse->fE,length_filter_le->fF,contains_iff_mem->fG,length->fH,range'->fJ,getElem_toArray->fL,reverse_reverse->fO,drop_succ_cons->fW,mem_filterMap->fZ,length_zipIdx->hJ,map_singleton->hV,any_eq_false->hW,all_map->ib,getElem_inj->io,getElem_mem->iB,map_reverse->iE,forIn_cons->iK,find?_cons->iN,getD->iY
open PySem.Heap renaming get?_push_of_some->a9,get?_push_size->af,lt_size->ao,size_push->bg,get?_update_other->bE,SameBut->bZ,ExtBut->fK,IsTuple->ie
open PySem.W renaming Frag->aa,findIn->bo,kitOne->bp,kia_one->bu,fnOf->bw,keepIn->bC,kia_tup->bY,instObj->cC,emptyDict->cH,kitx_list->d8,codeIn->db,kitAny->dj,methodCall_KW->dn,plainGet->dr,plainGet_of->dJ,lookIn->dP,callWith_K->dR,hasDictIn->eA,isFn->f7,cellsFrom_some->f8,nsIn->fu,takerIn->fv,kitx_tuple->f_,plainOver->hZ,kitx_none->i4,kitx_bool->i5,kitx_dict->i6,handedIn->ip,kitx_int->iq,kitx_str->ir,makesIn->iH
open Bool renaming and_eq_true->ag,false_ne_true->aG,false_eq_true->aN,not_true->eH,eq_iff_iff->fA,or_eq_false_iff->fP,true_and->fY,or_eq_true->iL
open Nat renaming le_refl->aj,le_trans->aA,ne_of_lt->aD,le_add_right->aJ,lt_of_lt_of_le->aL,zero_le->aQ,lt_irrefl->aX,mul_le_mul->bb,lt_of_le_of_lt->be,pow_le_pow_right->bB,lt_succ_of_lt->bF,one_mul->bS,lt_succ_self->bT,le_mul_of_pos_right->cn,mul_pos->cq,mul_comm->cu,mul_assoc->cF,le_of_succ_le->cJ,sub_self->cN,ne_of_gt->d7,le_succ->dB,add_mul->dD,mul_le_mul_right->dE,pow_add->dF,add_le_add_left->dL,lt_trans->dM,add_sub_cancel_left->eZ,le_of_lt->f6,succ_mul->ff,pow_succ->fq,not_lt_zero->fx,pow_lt_pow_right->fR,gcd->fS,le_of_eq->h_,add_comm->i9,lt_succ_of_le->ij,zero_add->ik,gcd_comm->il,gcd_one_right->im,succ_ne_self->iA,succ_ne_zero->iC,min_eq_left->iP,div_le_self->iQ,not_lt->iU,mod_lt->iW
open Option.some renaming inj->aB
open PySem.Str renaming ofString->aH
open Ne renaming symm->aS
open PyProof.Rows renaming callWith_type1->aV,slot_tuple_getitem->bc
open Int renaming toNat_natCast->bm,eq_ofNat_of_zero_le->bL,le_trans->di,natCast_mul->dH,fdiv_eq_ediv_of_nonneg->dO,natAbs_mul->fQ,emod_lt_of_pos->h9,natAbs_natCast->hU,zero_add->ii,le_refl->iG,le_antisymm->iM,emod_nonneg->iO
open PySem.F renaming plain_min_loop->bx,slot_tuple_getattribute->bV,plainAttrs_list->ci,called_set->cA,slot_zip_next->cG,args_tuple_add_2->cT,entry_tuple_add->d5,slot_tuple_add->de,slot_tuple_iterator_next->dh,entry_min_loop->dm,slot_int_rmul->dG,slot_list_append->eF,type_list_append->eG,slot_dict_values->eK,slot_tuple_mul->eP,args_zip_next_1->eV,slot_list_index->eX,entry_zip_next->fj,called_tuple->fM,args_object_init_2->fN,args_int_rmul_2->ia,slot_tuple_rmul->ic,plain_tuple_new->ig,slot_int_index->iw,entry_int_rmul->ix,fills_int_mul->iI
open False renaming elim->bN
open PySem.SeqAt renaming EqAt->cb,RcNeAt->df,RcAt->fg
open PyProof.Rows.KeyOrd renaming klt_of_klt_of_kle->ce,kle_of_klt->dk
open PySem.AutoSeq1 renaming wpAny_loadPart'->cj
open Array renaming getElem?_eq_none->cz,length_toList->dI,perm_iff_toList_perm->dY,getD->iT
open PySem.Around renaming under_plainId->cK
open PySem.Builtin.Slice renaming slicePlaces->cP,sliceAdjust->dZ
open PySem.Builtin.List renaming listTooLong->cU,listSameRef->eI
open PySem.Calls renaming Name_function_global->dN,spliced_cons->dQ,callWith_builtin->f9,spliced_nil->i8
open PySem.Builtin.Tuple renaming tupleItemsOf->dS,tupleTooMany->dW,tupleExact->eJ
open PySem.Walks renaming list->dX
open Rat renaming num_mkRat->eL,den_mkRat->eM
open PySem.Builtin.Range renaming rangeSize->eN
open PyProof.Rows.F renaming entry_set_update_loop->eU
open PySem.PassesOwn renaming never->fB
open PySem.Heap.SameBut renaming update->fT
open PySem.Builtin.Int renaming intBits->fU
open Option renaming some_ne_none->fV,getD_none->iu,map->iV
open PySem.Shared renaming TypeIs->fX,heap->iF
open PySem.SeqAt.EqAt renaming of_refs->g7,same->iJ
open PySem.Obj renaming data_mapFields->g_,mapSeq->iR
open PySem.Code renaming isFrame->i7
open PySem.WalksT renaming enumerate->iz
open Classical renaming skolem->iD
open PyProof.Rows.IsTup renaming new->iX
noncomputable section
set_option maxHeartbeats 4000000
set_option Elab.async false
set_option linter.all false
set_option compiler.extract_closed false
set_option maxRecDepth 100000
namespace L2
open PySem PySem.Spec PyProof.Rows
noncomputable abbrev Key:=Sum Int Str
def vk:Key->Value->Bool
 | .inl k,v=>Value.isInt k v
 | .inr x,v=>Value.isStrOf x v
def keyH (w:World):Key->Int
 | .inl k=>hashInt k
 | .inr x=>hashStr w x
theorem zZ:∀{k:Key} {v:Value},vk k v=true->(∃i t,k=Sum.inl i/\v=Value.int i t)\/(∃x t,k=Sum.inr x/\v=Value.str x t)
 | .inl i,v,h=>by
  obtain⟨t,e⟩:=Value.isInt_shape h;exact .inl ⟨i,t,rfl,e⟩
 | .inr x,v,h=>by
  obtain⟨t,e⟩:=Value.isStrOf_shape h;exact .inr ⟨x,t,rfl,e⟩
theorem yV (x:Str)(t:Tok):vk (.inr x) (.str x t)=true:=by simp[vk,Value.isStrOf]
theorem K8 (a b:Int):decide ((Sum.inl a:Key)=Sum.inl b)=(a == b):=by
 by_cases e:a=b
 ·subst e;simp
 ·have h:¬ (Sum.inl a:Key)=Sum.inl b:=λq=>e (Sum.inl.inj q);rw[decide_eq_false h];exact(beq_eq_false_iff_ne.mpr e).symm
theorem K9 (a b:Str):decide ((Sum.inr a:Key)=Sum.inr b)=decide (a=b):=by
 by_cases e:a=b
 ·simp
 ·have h:¬ (Sum.inr a:Key)=Sum.inr b:=λq=>e (Sum.inr.inj q);rw[decide_eq_false h,decide_eq_false e]
theorem Ka (a:Int)(b:Str):decide ((Sum.inl a:Key)=Sum.inr b)=false:=decide_eq_false (λq=>nomatch q)
theorem Kb (a:Str)(b:Int):decide ((Sum.inr a:Key)=Sum.inl b)=false:=decide_eq_false (λq=>nomatch q)
def ZW (prog:Program)(w:World):PySem.KeyKind prog w Key where
 is:=vk
 hash:=keyH w
 inj:=λv a b ha hb=>by
  rcases zZ ha with ⟨i,t,rfl,rfl⟩ | ⟨x,t,rfl,rfl⟩
  ·rcases zZ hb with ⟨j,u,rfl,e⟩ | ⟨y,u,rfl,e⟩
   ·injection e with e1 _;rw[e1]
   ·exact nomatch e
  ·rcases zZ hb with ⟨j,u,rfl,e⟩ | ⟨y,u,rfl,e⟩
   ·exact nomatch e
   ·injection e with e1 _;rw[e1]
 byValue:=λk v h=>by
  rcases zZ h with ⟨i,t,rfl,rfl⟩ | ⟨x,t,rfl,rfl⟩ <;> rfl
 pyHash:=λhv h=>by
  rcases zZ hv with ⟨i,t,rfl,rfl⟩ | ⟨x,t,rfl,rfl⟩
  ·exact wpAny_pyHash_int h
  ·exact wpAny_pyHash_str h
 eqBool:=λhu hv h=>by
  rcases zZ hu with ⟨i,t,rfl,rfl⟩ | ⟨x,t,rfl,rfl⟩
  ·rcases zZ hv with ⟨j,u,rfl,rfl⟩ | ⟨y,u,rfl,rfl⟩
   ·rw[K8]at h;exact wpAny_eqBool_int h
   ·rw[Ka]at h;exact cb.int_str i t y u _ _ _ _ h
  ·rcases zZ hv with ⟨j,u,rfl,rfl⟩ | ⟨y,u,rfl,rfl⟩
   ·rw[Kb]at h;exact cb.str_int x t j u _ _ _ _ h
   ·rw[K9]at h;exact wpAny_eqBool_str h
 «strs»:=λk x t v h=>by
  rcases zZ h with ⟨i,u,rfl,e⟩ | ⟨y,u,rfl,e⟩
  ·exact nomatch e
  ·injection e with e1 _;subst e1;cases v <;> rfl
theorem JA (prog:Program)(w:World)(x:Str)(t:Tok):(ZW prog w).is (.inr x) (.str x t)=true:=yV x t
end L2
namespace L2
open PySem PySem.Spec PyProof.Rows
inductive V where
 | non | bl (b:Bool) | int (i:Int) | str (x:Str) | byt (b:Array UInt8) | flt (b:UInt64) | ref (a:Addr) | ty (n:String)
 deriving DecidableEq
noncomputable def Z4:V->Value->Prop
 | .non,u=>u=Value.none
 | .bl b,u=>u=Value.bool b
 | .int i,u=>∃t,u=Value.int i t
 | .str x,u=>∃t,u=Value.str x t
 | .byt b,u=>∃t,u=Value.bytes b t
 | .flt b,u=>∃t,u=Value.float b t
 | .ref a,u=>u=Value.ref a
 | .ty n,u=>u=Value.type n
abbrev zX:List V->List Value->Prop:=Paired Z4
theorem zX.length (r:zX xs us):xs.length=us.length:=Paired.length r
theorem zX.get:∀{xs:List V} {us:List Value} {i:Nat} {x:V},zX xs us->xs[i]? =some x->∃u,us[i]? =some u/\Z4 x u
 | _,_,_,_,.nil,e=>by simp at e
 | _,_,0,_,.cons r _,e=>by simp at e;subst e;exact⟨_,rfl,r⟩
 | _,_,i+1,x,.cons _ t,e=>by
  obtain⟨u,h1,h2⟩:=zX.get t (by simpa using e)
  exact⟨u,by simpa using h1,h2⟩
theorem zX.append:∀{xs ys:List V} {us ws:List Value},zX xs us->zX ys ws->zX (xs++ys) (us++ws)
 | _,_,_,_,.nil,s=>s
 | _,_,_,_,.cons r t,s=> .cons r (zX.append t s)
theorem zX.take:∀{xs:List V} {us:List Value} (n:Nat),zX xs us->zX (xs.take n) (us.take n)
 | _,_,0,_=> .nil
 | _,_,_+1,.nil=> .nil
 | _,_,n+1,.cons r t=> .cons r (zX.take n t)
theorem zX.drop:∀{xs:List V} {us:List Value} (n:Nat),zX xs us->zX (xs.drop n) (us.drop n)
 | _,_,0,r=>r
 | _,_,_+1,.nil=> .nil
 | _,_,n+1,.cons _ t=>zX.drop n t
def vm:Option V->Option Value->Prop
 | some v,some u=>Z4 v u
 | none,none=>True
 | _,_=>False
def KV {κ:Type}:List (κ×V)->List (κ×Value)->Prop:=Paired λ(p:κ×V) (q:κ×Value)=>p.1=q.1/\Z4 p.2 q.2
def kV:Key->V
 | .inl i=> .int i
 | .inr x=> .str x
inductive HO where
 | lst (xs:List V)
 | tup (xs:List V)
 | dK (kvs:List (Key×V)) | dT (kvs:List (List Key×V))
 | set (S:Int->Bool) (n:Nat)
 | ins (C dx:Addr) (fs:List (Str×V))
 | own (x:Addr)
 | xd (fs:List (Str×V))
 | met (f x:Addr)
 | rng (lo hi:Int)
 | frz (o:Obj) (u:HO)
 | tbl (ps:Array Value) (q:Str)
 | ext (φ:Heap->Prop)
noncomputable abbrev Hp:=Addr->Option HO
def upd (H:Hp)(a:Addr)(o:HO):Hp:=λb=>if b=a then some o else H b
theorem zA:upd H a o a=some o:=by unfold upd;rw[if_pos rfl]
theorem zv (h:b ≠ a):upd H a o b=H b:=by unfold upd;rw[if_neg h]
theorem zL {H:Hp}{a b:Addr}{o:HO}(h:H a=some o)(h' :H b=none):a ≠ b:=by
 intro e;subst e;rw[h]at h';cases h'
noncomputable def ITN (h:Heap)(a:Addr)(its:Array Value):Prop:=IsTup h a its/\((∃i t,its[0]? =some (Value.int i t))\/∃o,h.get? a=some o/\o.dict=none)
theorem ITN.new (h:Heap)(its:Array Value):ITN (h.push { cls:= .type "tuple",data:= .seq its }) h.objs.size its:=⟨iX h its,.inr ⟨_,af _ rfl,rfl⟩⟩
section
variable (P:Program)(w:World)
def Z5 (H:Hp)(h:Heap)(a:Addr):HO->Prop
 | .lst xs=>xs.length<=sizeLine/\∃(its:List Value) (n:Nat),zX xs its/\h.get? a=some { cls:= .type "list",data:= .seq its.toArray n }
 | .tup xs=>xs.length<=sizeLine/\∃its:List Value,zX xs its/\ITN h a its.toArray
 | .dK kvs=>kvs.length<=sizeLine/\(a == sysModules)=false/\∃vs,KV kvs vs/\h.DictOf (ZW P w) a vs
 | .dT kvs=>kvs.length<=sizeLine/\(a == sysModules)=false/\∃xs:List (List Key×Addr×Value),
   Paired (λ(p:List Key×V) (q:List Key×Addr×Value)=>p.1=q.1/\H q.2.1=some (.tup (p.1.map kV))/\Z4 p.2 q.2.2) kvs xs/\
   ∃o es ep,h.get? a=some o/\o.ExactDict/\o.data= .dict es ep/\es.toList=xs.map (entryOfKey (tupleKind (ZW P w)))/\(xs.map (·.1)).Nodup
 | .set S n=>h.SetOf (intKind P w) a S n
 | .ins C dx fs=>H dx=some (.own a)/\fs.length<=1000/\dx ≠ a/\h.get? a=some (cC C dx)/\
   ∃mA,h.Ns1 dx mA/\(∀f,vm (fs.lookup f) (mA f))/\e_ mA (fs.map (·.1))
 | .own _=>∃o,h.get? a=some o
 | .xd fs=>∃mA,h.Ns1 a mA/\∀f,vm (fs.lookup f) (mA f)
 | .rng lo hi=>∃t u v,h.get? a=some { cls:= .type "range",data:= .fields #[.int lo t,.int hi u,.int 1 v] }
 | .frz o u=>h.get? a=some o/\Z5 H h a u
 | .tbl ps q=>∃more:Array Value,h.get? a=some { cls:= .none,data:= .fields (ps++more) }/\TriplesOk (ps++more).toList/\∀p cv,codeAmong p (ps++more).toList=some cv->∃c oc vs t,cv= .ref c/\H c=some (.frz oc (.own c))/\oc.data= .fields vs/\vs[1]? =some (.str q t)
 | .met f x=>h.get? a=some (PySem.W.methodObj (.ref f) (.ref x))
 | .ext φ=>φ h/\(∃o,h.get? a=some o)/\∀h1 h2:Heap,φ h1->(∀o,h1.get? a=some o->h2.get? a=some o)->φ h2
def HOk (H:Hp)(h:Heap):Prop:=∀a o,H a=some o->Z5 P w H h a o
end
section
variable {P:Program}{w:World}{H H' :Hp}{h h' :Heap}{a:Addr}{o:HO}
theorem Z5.lt (x:Z5 P w H h a o):a < h.objs.size:=by
 cases o with
 | lst xs=>obtain⟨_,_,_,_,e⟩:=x;exact ao e
 | tup xs=>obtain⟨_,_,_,p,_⟩:=x;exact p.lt
 | dK kvs=>obtain⟨_,_,_,_,o,_,_,e,_⟩:=x;exact ao e
 | dT kvs=>obtain⟨_,_,_,_,o,_,_,e,_⟩:=x;exact ao e
 | set S n=>obtain⟨o,_,_,_,e,_⟩:=x;exact ao e
 | ins C dx fs=>obtain⟨_,_,_,e,_⟩:=x;exact ao e
 | own y=>obtain⟨_,e⟩:=x;exact ao e
 | xd fs=>obtain⟨_,⟨_,_,_,e,_⟩,_⟩:=x;exact ao e
 | rng lo hi=>obtain⟨_,_,_,e⟩:=x;exact ao e
 | frz ob u=>obtain⟨e,_⟩:=x;exact ao e
 | tbl ps q=>obtain⟨_,e,_⟩:=x;exact ao e
 | met f y=>exact ao (x)
 | ext φ=>obtain⟨_,⟨_,e⟩,_⟩:=x;exact ao e
theorem Paired.mapP {α β:Type}{F G:α->β->Prop}:∀{l₁:List α} {l₂:List β},Paired F l₁ l₂->(∀a b,F a b->G a b)->Paired G l₁ l₂
 | _,_,.nil,_=> .nil
 | _,_,.cons r t,f=> .cons (f _ _ r) (Paired.mapP t f)
theorem Z5.stay (x:Z5 P w H h a o)(k:∀b u,(b=a\/H b=some (.own a))->h.get? b=some u->h'.get? b=some u)
  (ho:∀b,H b=some (.own a)->H' b=some (.own a)) (ht:∀b xs,H b=some (.tup xs)->H' b=some (.tup xs)) (hf:∀b o u,H b=some (.frz o u)->H' b=some (.frz o u):=by exact λ_ _ _ q=>q):Z5 P w H' h' a o:=by
 induction o with
 | lst xs=>obtain⟨z,its,n,r,e⟩:=x;exact⟨z,its,n,r,k _ _ (.inl rfl) e⟩
 | tup xs=>obtain⟨z,its,r,⟨ob,e,c⟩,q⟩:=x;exact⟨z,its,r,⟨ob,k _ _ (.inl rfl) e,c⟩,q.imp id λ⟨o2,e2,d2⟩=>⟨o2,k _ _ (.inl rfl) e2,d2⟩⟩
 | dK kvs=>obtain⟨z,y,vs,r,ob,es,ep,e,c⟩:=x;exact⟨z,y,vs,r,ob,es,ep,k _ _ (.inl rfl) e,c⟩
 | dT kvs=>
  obtain⟨z,y,xs,r,ob,es,ep,e,c⟩:=x;exact⟨z,y,xs,Paired.mapP r λp q z=>⟨z.1,ht _ _ z.2.1,z.2.2⟩,ob,es,ep,k _ _ (.inl rfl) e,c⟩
 | set S n=>obtain⟨ob,es,ep,t,e,c⟩:=x;exact⟨ob,es,ep,t,k _ _ (.inl rfl) e,c⟩
 | ins C dx fs=>
  obtain⟨d,z,ne,e,mA,⟨od,es,ep,e2,c⟩,r⟩:=x;exact⟨ho _ d,z,ne,k _ _ (.inl rfl) e,mA,⟨od,es,ep,k _ _ (.inr d) e2,c⟩,r⟩
 | own y=>obtain⟨ob,e⟩:=x;exact⟨ob,k _ _ (.inl rfl) e⟩
 | xd fs=>obtain⟨mA,⟨od,es,ep,e,c⟩,r⟩:=x;exact⟨mA,⟨od,es,ep,k _ _ (.inl rfl) e,c⟩,r⟩
 | rng lo hi=>obtain⟨t,u,v,e⟩:=x;exact⟨t,u,v,k _ _ (.inl rfl) e⟩
 | frz ob u ih=>obtain⟨e,q⟩:=x;exact⟨k _ _ (.inl rfl) e,ih q⟩
 | tbl ps q=>
  obtain⟨m,e,tr,al⟩:=x;exact⟨m,k a _ (.inl rfl) e,tr,λp cv z=>let ⟨c,oc,vs,t,e1,e2,e3⟩:=al p cv z;⟨c,oc,vs,t,e1,hf _ _ _ e2,e3⟩⟩
 | met f y=>
  have e:=x;exact k a _ (.inl rfl) e
 | ext φ=>obtain⟨p,⟨o,e⟩,st⟩:=x;exact⟨st _ _ p λo q=>k _ _ (.inl rfl) q,⟨o,k _ _ (.inl rfl) e⟩,st⟩
theorem HOk.lt (x:HOk P w H h)(e:H a=some o):a < h.objs.size:=(x a o e).lt
theorem HOk.fresh (x:HOk P w H h)(e:h.objs.size<=a):H a=none:=by
 cases q:H a with
 | none=>rfl
 | some u=>exact absurd (aL (x.lt q) e) (aX _)
theorem HOk.kept (x:HOk P w H h)(k:∀b u,h.get? b=some u->h'.get? b=some u):HOk P w H h' :=λa o e=>
 (x a o e).stay (λb u _ q=>k b u q) (λ_ q=>q) λ_ _ q=>q
theorem HOk.laid (x:HOk P w H h)(k:∀b u,h.get? b=some u->h'.get? b=some u)(hp:h.objs.size<=a)(new:Z5 P w (upd H a o) h' a o):HOk P w (upd H a o) h' :=λb u e=>by
 have hn:=x.fresh hp
 by_cases hb:b=a
 ·subst hb;rw[zA]at e;cases e;exact new
 ·rw[zv hb]at e;exact(x b u e).stay (λc v _ q=>k c v q) (λc q=>by rw[zv (zL q hn)];exact q) (λc xs q=>by rw[zv (zL q hn)];exact q) λc o u q=>by rw[zv (zL q hn)];exact q
end
def Rd (H:Hp)(a:Addr)(u:HO):Prop:=H a=some u\/∃o,H a=some (.frz o u)
theorem Rd.ok (r:Rd H a u)(x:HOk P w H h):Z5 P w H h a u:=by
 rcases r with r | ⟨o,r⟩
 ·exact x a u r
 ·obtain⟨_,q⟩:=x a _ r;exact q
noncomputable def Mut:Option HO->Prop
 | some (.lst _)=>True
 | some (.dK _)=>True
 | some (.dT _)=>True
 | some (.set _ _)=>True
 | some (.ins _ _ _)=>True
 | some (.ext _)=>True
 | _=>False
section
theorem HOk.write (ok:HOk P w H h)(mu:Mut (H x))(he:e=x\/H e=some (.own x))(k:∀b u,b ≠ e->h.get? b=some u->h'.get? b=some u)(heo:∃u,h'.get? e=some u)
  (new:Z5 P w (upd H x o') h' x o'):HOk P w (upd H x o') h' :=λb u q=>by
 have nown:∀c y,H c=some (.own y)->c ≠ x:=λc y r z=>by subst z;rw[r]at mu;exact mu
 have ntup:∀c xs,H c=some (.tup xs)->c ≠ x:=λc xs r z=>by subst z;rw[r]at mu;exact mu
 by_cases hb:b=x
 ·subst hb;rw[zA]at q;cases q;exact new
 ·rw[zv hb]at q
  by_cases hbe:b=e
  ·have q' :H b=some (.own x):=by
    rcases he with z | z
    ·exact absurd (hbe.trans z) hb
    ·rw[hbe];exact z
   rw[q]at q';cases q';obtain⟨v,hv⟩:=heo;exact⟨v,by rw[hbe];exact hv⟩
  ·refine(ok b u q).stay (λc v hc r=>k c v ?_ r) (λc r=>by rw[zv (nown c b r)];exact r) (λc xs r=>by rw[zv (ntup c xs r)];exact r) λc o u r=>by rw[zv (λz=>by subst z;rw[r]at mu;exact mu)];exact r
   rcases hc with rfl | hc
   ·exact hbe
   ·rintro rfl
    rcases he with z | z
    ·exact nown c b hc z
    ·rw[hc]at z;cases z;exact hb rfl
end
structure Un (fs ex:List Addr) (H H' :Hp) (h h' :Heap):Prop where
 keep:∀b o,h.get? b=some o->H b=none->b ∉ fs->b ∉ ex->h'.get? b=some o
 slot:∀b o,h.get? b=some o->H b=none->b∈fs->b ∉ ex->∃sl,h'.get? b=some { o with slots:=sl }
 free:∀b o,h.get? b=some o->H b=none->b ∉ ex->H' b=none
 there:∀b o,h.get? b=some o->b ∉ ex->∃o',h'.get? b=some o'
 tups:∀b xs,H b=some (.tup xs)->H' b=some (.tup xs)
 frzs:∀b o u,H b=some (.frz o u)->H' b=some (.frz o u)
 tbls:∀b ps q,H b=some (.tbl ps q)->H' b=some (.tbl ps q)
section
variable {fs fs' ex ex' :List Addr}{H H1 H2:Hp}{h h1 h2 h' :Heap}{a x e:Addr}{o:HO}
theorem Un.any (u:Un fs ex H H1 h h1)(q:h.get? b=some ob)(n:H b=none)(hx:b ∉ ex):∃sl,h1.get? b=some { ob with slots:=sl }:=by
 by_cases hb:b∈fs
 ·exact u.slot b ob q n hb hx
 ·exact⟨ob.slots,u.keep b ob q n hb hx⟩
theorem Un.kept (k:∀b u,h.get? b=some u->h'.get? b=some u):Un fs ex H H h h' :=
 ⟨λb ob q _ _ _=>k b ob q,λb ob q _ _ _=>⟨ob.slots,k b ob q⟩,λ_ _ _ n _=>n,λb ob q _=>⟨ob,k b ob q⟩,λ_ _ q=>q,λ_ _ _ q=>q,λ_ _ _ q=>q⟩
theorem Un.refl:Un fs ex H H h h:=Un.kept λ_ _ q=>q
theorem Un.laid (k:∀b u,h.get? b=some u->h'.get? b=some u)(hp:h.objs.size<=a)(hn:H a=none):Un fs ex H (upd H a o) h h' where
 keep:=λb u q _ _ _=>k b u q
 slot:=λb u q _ _ _=>⟨u.slots,k b u q⟩
 free:=λb u q n _=>by rw[zv (aD (aL (ao q) hp))];exact n
 there:=λb u q _=>⟨u,k b u q⟩
 tups:=λb xs q=>by rw[zv (zL q hn)];exact q
 frzs:=λb u xs q=>by rw[zv (zL q hn)];exact q
 tbls:=λb ps q e=>by rw[zv (zL e hn)];exact e
theorem Un.write (mu:Mut (H x))(he:e=x\/H e=some (.own x))(k:∀b u,b ≠ e->h.get? b=some u->h'.get? b=some u)(heo:∃u,h'.get? e=some u):Un fs ex H (upd H x o) h h' :=by
 have hx:∀b,H b=none->b ≠ x:=λb n z=>by subst z;rw[n]at mu;exact mu
 have hb:∀b,H b=none->b ≠ e:=λb n z=>by
  subst z;rcases he with r | r
  ·exact hx b n r
  ·rw[n]at r;cases r
 have hm:∀b u,H b=some u->¬ Mut (some u)->b ≠ x:=λb u q nm z=>by subst z;rw[q]at mu;exact nm mu
 refine⟨λb u q n _ _=>k b u (hb b n) q,λb u q n _ _=>⟨u.slots,k b u (hb b n) q⟩,λb u q n _=>by rw[zv (hx b n)];exact n,λb u q _=> ?_,
  λb xs q=>by rw[zv (hm b _ q λz=>z)];exact q,λb u xs q=>by rw[zv (hm b _ q λz=>z)];exact q,λb ps q e=>by rw[zv (hm b _ e λz=>z)];exact e⟩
 by_cases hbe:b=e
 ·subst hbe;exact heo
 ·exact⟨u,k b u hbe q⟩
end
def trk (h:Heap)(H:Hp):List Addr:=(a_ h.objs.size).filter λa=>(H a).isSome
def kT (h:Heap)(H:Hp):Heap:=PySem.W.hideAll h (trk h H)
theorem yW (h:Heap)(H:Hp):(kT h H).objs.size=h.objs.size:=PySem.W.hideAll_size _ _
theorem vn (e:h.get? b=some o)(n:H b=none):(kT h H).get? b=some o:=
 PySem.W.hideAll_get _ e λhm=>by
  have q:=(cD.mp hm).2;rw[n]at q;simp at q
theorem xD (e:(kT h H).get? b=some o):h.get? b=some o/\H b=none:=by
 have e' :=PySem.W.of_hideAll _ e;refine⟨e', ?_⟩;cases q:H b with
 | none=>rfl
 | some x=>
  have hm:b∈trk h H:=cD.mpr ⟨bf.mpr (ao e'),by simp[q]⟩
  have z:(kT h H).get? b=none:=PySem.W.hideAll_none _ hm;rw[z]at e;cases e
end L2
namespace L2
open PySem PySem.Spec PyProof.Rows
structure Mod (K:aa) (mg:Str->Option Value) (base:Heap):Prop where
 kin:K.In base
 glob:base.Ns mainGlobals mg
 blt:∃mb,base.Ns builtinsNs mb/\∀x:Str,x ≠ "__name__"->mb x=bootBuiltins x
 nolimit:base.NoLimit
structure Cx where
 prog:Program
 w:World
 K:aa
 mg:Str->Option Value
 base:Heap
 A:Around
 N:List Str
 s₀:Shared
 H₀:Hp
 env:Env
 outer:List Env
 stack:List Env
 ex:List Addr
 fn:Str->Bool
 calm:Bool
 pn:List (Addr×Obj)
 xe:Value->Shared->Prop
noncomputable def frs (l:List Env):List Addr:=l.filterMap (·.frame)
abbrev Cx.fs (X:Cx):List Addr:=frs X.outer
noncomputable def Vis (sc:Scope)(x:Str):Prop:=sc.names.lookup x=some .local\/sc.names.lookup x=some .cell\/sc.names.lookup x=some .free
noncomputable def Loc (sc:Scope)(x:Str):Prop:=sc.names.lookup x=some .local\/sc.names.lookup x=some .cell
noncomputable def Look (env:Env)(h:Heap)(m:Str->Option Value)(x:Str)(u:Value):Prop:=
 (env.kindOf x=some .local/\m x=some u)\/((env.kindOf x=some .cell\/env.kindOf x=some .free)/\∃c,env.cells.lookup x=some c/\h.IsCell c (some u))
structure Cx.Ok (X:Cx):Prop where
 mod:Mod X.K X.mg X.base
 kind:X.env.scope.kind= .function
 glob:X.env.globals=mainGlobals
 blt:X.env.builtins=builtinsNs
 above:X.s₀.heap.objs.size<=X.env.locals
 inj:∀x y c,X.env.cells.lookup x=some c->X.env.cells.lookup y=some c->x=y
 has:∀x,(X.env.kindOf x=some .cell\/X.env.kindOf x=some .free)->∃c,X.env.cells.lookup x=some c
 cab:∀x c,X.fn x=true->X.env.cells.lookup x=some c->X.s₀.heap.objs.size<=c
 hd:X.calm=true->X.A.handled=none
 frames:X.A.frames=some X.stack
 stk:X.stack=X.outer\/(X.stack=X.env :: X.outer/\X.env.frame=some X.env.locals)
 exf:∀b∈X.ex,b ≠ X.env.locals/\∀x c,X.env.cells.lookup x=some c->c ≠ b
 bs:∀b o,X.base.get? b=some o->X.s₀.heap.get? b=some o/\X.H₀ b=none
 bsz:X.base.objs.size<=X.s₀.heap.objs.size
 noex:∀b o,X.base.get? b=some o->b ∉ X.ex
 exfs:∀b∈X.ex,b ∉ X.fs
 funs:X.s₀.heap.FunFrames X.base X.outer
 frf:∀b∈X.fs,X.H₀ b=none
structure Inv (X:Cx) (pins:List (Addr×Obj)) (σ:List (Option V)) (H:Hp) (s:Shared):Prop where
 ok:X.Ok
 os:s.os=X.s₀.os
 bare:AllBare s.gens
 base:Un X.fs X.ex X.H₀ H X.s₀.heap s.heap
 loc:∃m,s.heap.Ns X.env.locals m/\∀(i:Nat) (x:Str) (v:V),X.N[i]? =some x->σ[i]? =some (some v)->Vis X.env.scope x->∃u,Z4 v u/\Look X.env s.heap m x u
 cell:∀x c,X.env.cells.lookup x=some c->∃v,s.heap.IsCell c v
 free:H X.env.locals=none
 freeC:∀x c,X.env.cells.lookup x=some c->H c=none
 pin:∀p∈X.pn++pins,s.heap.get? p.1=some p.2/\H p.1=none/\p.1 ≠ X.env.locals/\p.1 ∉ X.fs/\∀v,p.2.data ≠ .cell v
 hok:HOk X.prog X.w H s.heap
 len:σ.length=X.N.length
section
variable {X:Cx}{pins:List (Addr×Obj)}{σ:List (Option V)}{H H' :Hp}{s:Shared}{h' :Heap}
theorem Cx.Ok.nofr (ok:X.Ok){b:Addr}{o:Obj}(e:X.base.get? b=some o):b ∉ X.fs:=λhb=>by
 have:=(ok.funs.mem hb).1;rw[e]at this;cases this
theorem Inv.bs (I:Inv X pins σ H s):∀b o,X.base.get? b=some o->s.heap.get? b=some o/\H b=none:=λb o e=>
 ⟨I.base.keep b o (I.ok.bs b o e).1 (I.ok.bs b o e).2 (I.ok.nofr e) (I.ok.noex b o e),I.base.free b o (I.ok.bs b o e).1 (I.ok.bs b o e).2 (I.ok.noex b o e)⟩
theorem Inv.bk (I:Inv X pins σ H s):∀b o,X.base.get? b=some o->s.heap.get? b=some o:=λb o e=>(I.bs b o e).1
theorem Inv.mod (I:Inv X pins σ H s):Mod X.K X.mg X.base:=I.ok.mod
theorem Inv.kIn (I:Inv X pins σ H s):X.K.In s.heap:=I.ok.mod.kin.keeps I.bk
theorem Inv.lt (I:Inv X pins σ H s):X.env.locals < s.heap.objs.size:=let ⟨_,hn,_⟩:=I.loc;hn.lt
theorem Inv.sz (I:Inv X pins σ H s):X.s₀.heap.objs.size<=s.heap.objs.size:=aA I.ok.above (f6 I.lt)
theorem Inv.nofs (I:Inv X pins σ H s)(h:s.heap.objs.size<=a):a ∉ X.fs:=λhb=>by
 obtain⟨_,o,ho,_⟩:=I.ok.funs.mem hb;exact absurd (aL (ao ho) (aA I.sz h)) (aX _)
theorem Inv.cne (I:Inv X pins σ H s):∀x c,X.env.cells.lookup x=some c->c ≠ X.env.locals:=λx c e z=>by
 obtain⟨v,o,ho,hd⟩:=I.cell x c e;obtain⟨m,⟨o',es,ep,ho',hd',_⟩,_⟩:=I.loc;rw[z,ho']at ho;cases ho;rw[hd']at hd;cases hd
theorem Inv.funs (I:Inv X pins σ H s):s.heap.FunFrames X.base X.outer:=by
 have all:∀(l:List Env),(∀b∈frs l,b∈X.fs)->X.s₀.heap.FunFrames X.base l->s.heap.FunFrames X.base l:=by
  intro l
  induction l with
  | nil=>intro _ _;trivial
  | cons env r ih=>
   intro hs hl;obtain⟨hk,⟨L,o,hf,hn,ho,hd⟩,hr⟩:=hl;have hL:=hs L (by unfold frs;rw[cR,hf];exact ab)
   obtain⟨sl,e⟩:=I.base.slot L o ho (I.ok.frf L hL) hL λz=>I.ok.exfs L z hL;exact⟨hk,⟨L,_,hf,hn,e,hd⟩,ih (λb hb=>hs b (by unfold frs;rw[cR,hf];exact a8 _ hb)) hr⟩
 exact all _ (λ_ hb=>hb) I.ok.funs
theorem Inv.stack (I:Inv X pins σ H s):s.heap.FunFrames X.base X.stack:=by
 rcases I.ok.stk with e | ⟨e,hf⟩
 ·rw[e];exact I.funs
 ·rw[e];obtain⟨m,hn,_⟩:=I.loc;refine .cons (by rw[I.ok.kind];decide) hf hn ?_ I.funs
  exact Heap.get?_none_of_le (aA I.ok.bsz I.ok.above)
theorem Inv.stkSub (I:Inv X pins σ H s):∀b∈frs X.stack,b∈X.env.locals :: X.fs:=λb hb=>by
 rcases I.ok.stk with e | ⟨e,hf⟩
 ·rw[e]at hb;exact a8 _ hb
 ·rw[e]at hb;unfold frs at hb;rw[cR,hf]at hb;exact hb
theorem Inv.stkFree (I:Inv X pins σ H s):∀b∈frs X.stack,H b=none:=λb hb=>by
 rcases ak.mp (I.stkSub b hb) with e | hb
 ·rw[e];exact I.free
 ·obtain⟨_,o,ho,_⟩:=I.ok.funs.mem hb;exact I.base.free b o ho (I.ok.frf b hb) λz=>I.ok.exfs b z hb
theorem Inv.step {g' :Array GenState}{t' :Nat}{d' :Drawn}{ch:List Addr}(I:Inv X pins σ H s)
  (hch:∀b∈ch,(b∈X.ex\/X.s₀.heap.objs.size<=b)/\b ≠ X.env.locals/\(∀x c,X.env.cells.lookup x=some c->c ≠ b)/\∀p∈X.pn++pins,p.1 ≠ b)
  (keep:∀b o,b ≠ X.env.locals->b ∉ X.fs->b ∉ ch->s.heap.get? b=some o->H b=none->h'.get? b=some o)
  (slot:∀b o,b ≠ X.env.locals->b∈X.fs->b ∉ ch->s.heap.get? b=some o->H b=none->∃sl,h'.get? b=some { o with slots:=sl }) (free:∀b o,b ∉ ch->s.heap.get? b=some o->H b=none->H' b=none)
  (there:∀b o,b ∉ ch->s.heap.get? b=some o->∃o',h'.get? b=some o')
  (tups:∀b xs,H b=some (.tup xs)->H' b=some (.tup xs)) (frzs:∀b o u,H b=some (.frz o u)->H' b=some (.frz o u)) (tbls:∀b ps q,H b=some (.tbl ps q)->H' b=some (.tbl ps q))
  (ns:∀m,s.heap.Ns X.env.locals m->h'.Ns X.env.locals m) (hok:HOk X.prog X.w H' h') (hg:AllBare g'):
  Inv X pins σ H' { s with heap:=h',gens:=g',drawn:=d',toks:=t' }:=by
 have neL:∀b o,X.s₀.heap.get? b=some o->b ≠ X.env.locals:=λb o e=>aD (aL (ao e) I.ok.above);have neC:∀b o,X.s₀.heap.get? b=some o->b ∉ X.ex->b ∉ ch:=λb o e hx hb=>by
  rcases(hch b hb).1 with z | z
  ·exact hx z
  ·exact absurd (aL (ao e) z) (aX _)
 have cellK:∀x c,X.env.cells.lookup x=some c->∀v,s.heap.IsCell c v->h'.IsCell c v:=λx c e v ⟨o,ho,hd⟩=>by
  have nch:=λz=>(hch c z).2.2.1 x c e rfl
  by_cases hc:c∈X.fs
  ·obtain⟨sl,q⟩:=slot c o (I.cne x c e) hc nch ho (I.freeC x c e);exact⟨_,q,hd⟩
  ·exact⟨o,keep c o (I.cne x c e) hc nch ho (I.freeC x c e),hd⟩
 refine⟨I.ok,I.os,hg,⟨λb o e n hb hx=> ?_,λb o e n hb hx=> ?_,λb o e n hx=> ?_,λb o e hx=> ?_,λb xs e=>tups b xs (I.base.tups b xs e),λb o xs e=>frzs b o xs (I.base.frzs b o xs e),λb ps q e=>tbls b ps q (I.base.tbls b ps q e)⟩, ?_,λx c e=> ?_, ?_,λx c e=> ?_,λp hp=> ?_,hok,I.len⟩
 ·exact keep b o (neL b o e) hb (neC b o e hx) (I.base.keep b o e n hb hx) (I.base.free b o e n hx)
 ·obtain⟨sl,e1⟩:=I.base.slot b o e n hb hx;obtain⟨sl',e2⟩:=slot b _ (neL b o e) hb (neC b o e hx) e1 (I.base.free b o e n hx);exact⟨sl',e2⟩
 ·obtain⟨o',e1⟩:=I.base.there b o e hx;exact free b o' (neC b o e hx) e1 (I.base.free b o e n hx)
 ·obtain⟨o',e1⟩:=I.base.there b o e hx;exact there b o' (neC b o e hx) e1
 ·obtain⟨m,hn,hl⟩:=I.loc;refine⟨m,ns m hn,λi x v e1 e2 e3=> ?_⟩;obtain⟨u,r,l⟩:=hl i x v e1 e2 e3;refine⟨u,r, ?_⟩;rcases l with l | ⟨k,c,e,z⟩
  ·exact .inl l
  ·exact .inr ⟨k,c,e,cellK x c e _ z⟩
 ·obtain⟨v,z⟩:=I.cell x c e;exact⟨v,cellK x c e v z⟩
 ·obtain⟨m,⟨o,_,_,ho,_⟩,_⟩:=I.loc;exact free _ o (λz=>(hch _ z).2.1 rfl) ho I.free
 ·obtain⟨v,o,ho,hd⟩:=I.cell x c e;exact free c o (λz=>(hch c z).2.2.1 x c e rfl) ho (I.freeC x c e)
 ·obtain⟨e,n,ne,nf,d⟩:=I.pin p hp;have nch:=λz=>(hch p.1 z).2.2.2 p hp rfl;exact⟨keep p.1 p.2 ne nf nch e n,free p.1 p.2 nch e n,ne,nf,d⟩
theorem Inv.un {t' :Nat}(I:Inv X pins σ H s)(u:Un X.fs [] H H' s.heap h')(hok:HOk X.prog X.w H' h'):Inv X pins σ H' { s with heap:=h',toks:=t' }:=by
 obtain⟨m,⟨o,es,ep,ho,r⟩,_⟩:=id I.loc;obtain⟨sl,hL⟩:=u.any ho I.free (by simp)
 exact I.step (ch:=[]) (λ_ z=>nomatch z) (λb o _ hb _ e n=>u.keep b o e n hb (by simp)) (λb o _ hb _ e n=>u.slot b o e n hb (by simp)) (λb o _ e n=>u.free b o e n (by simp)) (λb o _ e=>u.there b o e (by simp)) u.tups u.frzs u.tbls (λm' hm=>by
  obtain⟨o',es',ep',ho',r'⟩:=hm;rw[ho]at ho';cases ho';exact⟨_,es',ep',hL,r'⟩) hok I.bare
theorem Inv.call {g' :Array GenState}{t' :Nat}{d' :Drawn}{ch:List Addr}(I:Inv X pins σ H s)(u:Un (frs X.stack) ch H H' s.heap h')(hok:HOk X.prog X.w H' h')(hg:AllBare g')
  (hch:∀b∈ch,(b∈X.ex\/X.s₀.heap.objs.size<=b)/\b ≠ X.env.locals/\(∀x c,X.env.cells.lookup x=some c->c ≠ b)/\∀p∈X.pn++pins,p.1 ≠ b):
  Inv X pins σ H' { s with heap:=h',gens:=g',drawn:=d',toks:=t' }:=by
 obtain⟨m,⟨o,es,ep,ho,r⟩,_⟩:=id I.loc;obtain⟨sl,hL⟩:=u.any ho I.free λz=>(hch _ z).2.1 rfl;exact I.step hch (λb o hL hb hc e n=>u.keep b o e n (λz=>(ak.mp (I.stkSub b z)).elim hL hb) hc) (λb o _ _ hc e n=>u.any e n hc) (λb o hc e n=>u.free b o e n hc) (λb o hc e=>u.there b o e hc) u.tups u.frzs u.tbls (λm' hm=>by
  obtain⟨o',es',ep',ho',r'⟩:=hm;rw[ho]at ho';cases ho';exact⟨_,es',ep',hL,r'⟩) hok hg
theorem Inv.turned {t' :Nat}{it:Addr}(I:Inv X pins σ H s)(k:∀b o,b ≠ it->s.heap.get? b=some o->h'.get? b=some o)(hn:H it=none)(hL:it ≠ X.env.locals)
  (h1:it∈X.ex\/X.s₀.heap.objs.size<=it) (h2:∀x c,X.env.cells.lookup x=some c->c ≠ it) (h3:∀p∈X.pn++pins,p.1 ≠ it):Inv X pins σ H { s with heap:=h',toks:=t' }:=by
 have nit:∀b u,H b=some u->b ≠ it:=λb u e z=>by rw[z,hn]at e;cases e
 refine I.step (ch:=[it]) (λb hb=> ?_) (λb o _ _ hc e _=>k b o (λz=>hc (by simp[z])) e) (λb o _ _ hc e _=>⟨o.slots,k b o (λz=>hc (by simp[z])) e⟩) (λ_ _ _ _ n=>n)
  (λb o hc e=>⟨o,k b o (λz=>hc (by simp[z])) e⟩) (λ_ _ e=>e) (λ_ _ _ e=>e) (λ_ _ _ e=>e) (λm hm=> ?_) (λb u e=> ?_) I.bare
 ·have e:=by simpa using hb
  subst e;exact⟨h1,hL,h2,h3⟩
 ·obtain⟨o,es,ep,ho,r⟩:=hm;exact⟨o,es,ep,k _ o (aS hL) ho,r⟩
 ·refine(I.hok b u e).stay (λc v hc q=>k c v ?_ q) (λ_ q=>q) λ_ _ q=>q;rcases hc with z | z
  ·rw[z];exact nit b u e
  ·exact nit c _ z
theorem Inv.tok (I:Inv X pins σ H s)(t:Nat):Inv X pins σ H { s with toks:=t }:=I.un Un.refl I.hok
theorem Inv.kept (I:Inv X pins σ H s)(k:∀b u,s.heap.get? b=some u->h'.get? b=some u):Inv X pins σ H { s with heap:=h',toks:=t' }:=I.un (Un.kept k) (I.hok.kept k)
theorem Inv.laid (I:Inv X pins σ H s)(k:∀b u,s.heap.get? b=some u->h'.get? b=some u)(hp:s.heap.objs.size<=a)(new:Z5 X.prog X.w (upd H a o) h' a o):
  Inv X pins σ (upd H a o) { s with heap:=h',toks:=t' }:=I.un (Un.laid k hp (I.hok.fresh hp)) (I.hok.laid k hp new)
theorem Inv.write (I:Inv X pins σ H s)(mu:Mut (H x))(he:e=x\/H e=some (.own x))(k:∀b u,b ≠ e->s.heap.get? b=some u->h'.get? b=some u)(heo:∃u,h'.get? e=some u)
  (new:Z5 X.prog X.w (upd H x o) h' x o):Inv X pins σ (upd H x o) { s with heap:=h',toks:=t' }:=I.un (Un.write mu he k heo) (I.hok.write mu he k heo new)
theorem Inv.pins_of (I:Inv X pins σ H s)(h:∀p∈pins',s.heap.get? p.1=some p.2/\H p.1=none/\p.1 ≠ X.env.locals/\p.1 ∉ X.fs/\∀v,p.2.data ≠ .cell v):Inv X pins' σ H s:=
 ⟨I.ok,I.os,I.bare,I.base,I.loc,I.cell,I.free,I.freeC,λp hp=>(cW.mp hp).elim (λz=>I.pin p (dA _ z)) (h p),I.hok,I.len⟩
theorem U3 {N:List Str}(hN:N.Nodup){i j:Nat}{x:Str}(a:N[i]? =some x)(b:N[j]? =some x):i=j:=by
 obtain⟨h1,e1⟩:=ai.mp a;obtain⟨h2,e2⟩:=ai.mp b;exact(io hN).mp (e1.trans e2.symm)
theorem Wn {M:Model}{A:Around}{E:Value->Shared->Prop}{i:Nat}{x:Str}{v:V}{u:Value}{Q:Unit->Shared->Prop}(I:Inv X pins σ H s)(hN:X.N.Nodup)(hi:X.N[i]? =some x)(hx:Loc X.env.scope x)(r:Z4 v u)
  (h:∀s',Inv X pins (σ.set i (some v)) H s' ->(∃a,bZ a s.heap s'.heap/\(a=X.env.locals\/X.env.cells.lookup x=some a))->Q () s') (hf:X.fn x=true\/X.env.scope.names.lookup x=some .local:=by first | exact .inl rfl | exact .inr rfl | assumption):wpAny M A (storeName X.env x u) Q E s:=by
 obtain⟨m,hn,hl⟩:=id I.loc;have hcls:(X.env.scope.kind == .class || (X.env.scope.kind == .module && X.env.locals != X.env.globals))=false:=by rw[I.ok.kind];rfl
 have hiσ:i < σ.length:=by rw[I.len];exact(ai.mp hi).1
 have cne:=I.cne;have tracked:∀{a:Addr} {h' :Heap},(∃o,s.heap.get? a=some o/\H a=none)->bZ a _ h' ->HOk _ X.w H h' :=λ{a h'} ha hs b ob e=>by
  obtain⟨_,_,hfree⟩:=ha;refine(I.hok b ob e).stay (λc w' hc q=>(hs.2 c ?_).trans q) (λ_ q=>q) λ_ _ q=>q
  rintro rfl
  rcases hc with rfl | hc
  ·rw[hfree]at e;cases e
  ·rw[hfree]at hc;cases hc
 rcases hx with hk | hk
 ·refine wpAny_storeName_local hk hn (λh' hn' hs=> ?_) hcls;obtain⟨oL,_,_,hoL,_⟩:=id hn;refine h _ ⟨I.ok,I.os,I.bare,⟨λb o e n hb hx=> ?_,λb o e n hb hx=> ?_,I.base.free,λb o e hx=> ?_,I.base.tups,I.base.frzs,I.base.tbls⟩,⟨_,hn',λj y v' e1 e2 e3=> ?_⟩,λy c e=> ?_,I.free,I.freeC,λp hp=> ?_,tracked ⟨oL,hoL,I.free⟩ hs,by simpa using I.len⟩ ⟨_,hs,.inl rfl⟩
  ·exact(hs.2 b (aD (aL (ao e) I.ok.above))).trans (I.base.keep b o e n hb hx)
  ·obtain⟨sl,e1⟩:=I.base.slot b o e n hb hx;exact⟨sl,(hs.2 b (aD (aL (ao e) I.ok.above))).trans e1⟩
  ·obtain⟨o',e1⟩:=I.base.there b o e hx;exact⟨o',(hs.2 b (aD (aL (ao e) I.ok.above))).trans e1⟩
  ·by_cases hj:j=i
   ·subst hj;rw[hi]at e1;cases e1;rw[aT hiσ]at e2;cases e2;exact⟨u,r,.inl ⟨hk,by simp⟩⟩
   ·rw[ay (aS hj)]at e2;obtain⟨u',r',q⟩:=hl j y v' e1 e2 e3;refine⟨u',r', ?_⟩;rcases q with ⟨k,e⟩ | ⟨k,c,e,z⟩
    ·refine .inl ⟨k, ?_⟩;have:y ≠ x:=λe=>hj (U3 hN e1 (e ▸ hi));simp[this,e]
    ·exact .inr ⟨k,c,e,z.sameBut hs (cne y c e)⟩
  ·obtain⟨w',z⟩:=I.cell y c e;exact⟨w',z.sameBut hs (cne y c e)⟩
  ·obtain⟨e,n,ne,nf,d⟩:=I.pin p hp;exact⟨(hs.2 p.1 ne).trans e,n,ne,nf,d⟩
 ·have hfn:X.fn x=true:=by
   rcases hf with z | z
   ·exact z
   ·rw[z]at hk;cases hk
  obtain⟨c,hc⟩:=I.ok.has x (.inl hk);obtain⟨w',z⟩:=I.cell x c hc;refine wpAny_storeName_cell I.ok.kind hk hc z (λh' hc' hs=> ?_);obtain⟨oc,hoc,hocd⟩:=id z;refine h _ ⟨I.ok,I.os,I.bare,⟨λb o e n hb hx=> ?_,λb o e n hb hx=> ?_,I.base.free,λb o e hx=> ?_,I.base.tups,I.base.frzs,I.base.tbls⟩,⟨m,hn.sameBut hs (aS (cne x c hc)),λj y v' e1 e2 e3=> ?_⟩,λy c' e=> ?_,I.free,I.freeC,λp hp=> ?_,tracked ⟨oc,hoc,I.freeC x c hc⟩ hs,by simpa using I.len⟩ ⟨c,hs,.inr hc⟩
  ·exact(hs.2 b (aD (aL (ao e) (I.ok.cab x c hfn hc)))).trans (I.base.keep b o e n hb hx)
  ·obtain⟨sl,e1⟩:=I.base.slot b o e n hb hx;exact⟨sl,(hs.2 b (aD (aL (ao e) (I.ok.cab x c hfn hc)))).trans e1⟩
  ·obtain⟨o',e1⟩:=I.base.there b o e hx;exact⟨o',(hs.2 b (aD (aL (ao e) (I.ok.cab x c hfn hc)))).trans e1⟩
  ·by_cases hj:j=i
   ·subst hj;rw[hi]at e1;cases e1;rw[aT hiσ]at e2;cases e2;exact⟨u,r,.inr ⟨.inl hk,c,hc,hc'⟩⟩
   ·rw[ay (aS hj)]at e2;obtain⟨u',r',q⟩:=hl j y v' e1 e2 e3;refine⟨u',r', ?_⟩;rcases q with q | ⟨k,c',e,z'⟩
    ·exact .inl q
    ·refine .inr ⟨k,c',e,z'.sameBut hs ?_⟩
     rintro rfl
     exact hj (U3 hN e1 (I.ok.inj _ _ _ e hc ▸ hi))
  ·by_cases hcc:c' =c
   ·subst hcc;exact⟨_,hc'⟩
   ·obtain⟨w2,z2⟩:=I.cell y c' e;exact⟨w2,z2.sameBut hs hcc⟩
  ·obtain⟨e,n,ne,nf,d⟩:=I.pin p hp;refine⟨(hs.2 p.1 ?_).trans e,n,ne,nf,d⟩;intro q;rw[q,hoc]at e;have q' :=aB e;exact d w' (by rw[← q'];exact hocd)
theorem ZX {Q:Unit->Shared->Prop}(I:Inv X pins σ H s)(hN:X.N.Nodup)(hi:X.N[i]? =some x)(hx:Loc X.env.scope x)(r:Z4 v u)
  (h:∀s',Inv X pins (σ.set i (some v)) H s' ->Q () s') (hf:X.fn x=true\/X.env.scope.names.lookup x=some .local:=by first | exact .inl rfl | exact .inr rfl | assumption):wpAny M A (storeName X.env x u) Q E s:=
 Wn I hN hi hx r (λs' I' _=>h s' I') hf
theorem Inv.call' (I:Inv X pins σ H s)(ho:s'.os=s.os)(u:Un (frs X.stack) ch H H' s.heap s'.heap)(hok:HOk X.prog X.w H' s'.heap)(hg:AllBare s'.gens)
  (hch:∀b∈ch,(b∈X.ex\/X.s₀.heap.objs.size<=b)/\b ≠ X.env.locals/\(∀x c,X.env.cells.lookup x=some c->c ≠ b)/\∀p∈X.pn++pins,p.1 ≠ b):Inv X pins σ H' s' :=by
 obtain⟨h',g',d',t',o'⟩:=s';have e:=ho;subst e;exact I.call u hok hg hch
end
abbrev XK:=Value->Option Addr->Hp->Prop
noncomputable abbrev St:=List (Option V)
abbrev VK:=V->Hp->Prop
abbrev TE:=St->Hp->VK->Prop
abbrev TT:=St->Hp->(Bool->Hp->Prop)->Prop
abbrev TA:=St->Hp->(List V->Hp->Prop)->Prop
structure va where
 nx:St->Hp->Prop
 rt:VK
 bk:St->Hp->Prop:=λ_ _=>False
 ct:St->Hp->Prop:=λ_ _=>False
abbrev TS:=va->St->Hp->Prop
def EP (X:Cx)(pins:List (Addr×Obj))(σ:St)(Q:VK)(u:Value)(s' :Shared):Prop:=∃v H',Inv X pins σ H' s' /\Z4 v u/\Q v H'
def TP (X:Cx)(pins:List (Addr×Obj))(σ:St)(Q:Bool->Hp->Prop)(b:Bool)(s' :Shared):Prop:=∃H',Inv X pins σ H' s' /\Q b H'
def AP (X:Cx)(pins:List (Addr×Obj))(σ:St)(Q:List V->Hp->Prop)(us:List Value)(s' :Shared):Prop:=∃vs H',Inv X pins σ H' s' /\zX vs us/\Q vs H'
def SP (X:Cx)(pins:List (Addr×Obj))(D:va)(f:Flow)(s' :Shared):Prop:=
 match f with
 | .next=>∃σ' H',Inv X pins σ' H' s' /\D.nx σ' H'
 | .brk=>∃σ' H',Inv X pins σ' H' s' /\D.bk σ' H'
 | .cont=>∃σ' H',Inv X pins σ' H' s' /\D.ct σ' H'
 | .ret u=>∃v σ' H',Inv X pins σ' H' s' /\Z4 v u/\D.rt v H'
def PE (X:Cx)(e:Expr)(t:TE):Prop:=
 ∀(pins:List (Addr×Obj)) (s:Shared) (σ:St) (H:Hp) (Q:VK),Inv X pins σ H s->t σ H Q->wpAny (model X.prog X.w) X.A (eval e X.env) (EP X pins σ Q) X.xe s
def PT (X:Cx)(e:Expr)(t:TT):Prop:=
 ∀(pins:List (Addr×Obj)) (s:Shared) (σ:St) (H:Hp) (Q:Bool->Hp->Prop),Inv X pins σ H s->t σ H Q->wpAny (model X.prog X.w) X.A (isTrue e X.env (eval e X.env)) (TP X pins σ Q) X.xe s
def PW (X:Cx)(e:Expr)(t:TT):Prop:=
 ∀(whole:Sem Value) (pins:List (Addr×Obj)) (s:Shared) (σ:St) (H:Hp) (Q:Bool->Hp->Prop),Inv X pins σ H s->t σ H Q->wpAny (model X.prog X.w) X.A (isTrue e X.env whole) (TP X pins σ Q) X.xe s
theorem PW.pt (h:PW X e t):PT X e t:=h _
def PA (X:Cx)(es:List Expr)(t:TA):Prop:=
 ∀(pos:Pos) (pins:List _) (s:Shared) (σ:St) (H:Hp) (Q:List V->Hp->Prop),Inv X pins σ H s->t σ H Q->wpAny (model X.prog X.w) X.A (spliced (backTo pos (starEach es X.env))) (AP X pins σ Q) X.xe s
def PS (X:Cx)(st:Stmt)(t:TS):Prop:=
 ∀(pins:List (Addr×Obj)) (s:Shared) (σ:St) (H:Hp) (D:va),Inv X pins σ H s->t D σ H->wpAny (model X.prog X.w) X.A (exec st X.env) (SP X pins D) X.xe s
def PSs (X:Cx)(st:List Stmt)(t:TS):Prop:=
 ∀(pins:List (Addr×Obj)) (s:Shared) (σ:St) (H:Hp) (D:va),Inv X pins σ H s->t D σ H->wpAny (model X.prog X.w) X.A (execs st X.env) (SP X pins D) X.xe s
theorem thn {α:Type}{t:Sem α}{Q Q' :α->Shared->Prop}(h:wpAny M A t Q E s)(hQ:∀a s,Q a s->Q' a s):wpAny M A t Q' E s:=dq h hQ λ_ _ x=>x
end L2
namespace L2
open PySem PySem.Spec PyProof.Rows
section
theorem bin (ha:PE X a ta)(hb:PE X b tb){R:V->V->Hp->Prop}(I:Inv X pins σ H s)(h:ta σ H λx H1=>tb σ H1 λy H2=>R x y H2)
  {α:Type} {Q:α->Shared->Prop} {f:Value->Value->Sem α}
  (hf:∀v u s2 x y H2,Inv X pins σ H2 s2->Z4 x v->Z4 y u->R x y H2->wpAny (model X.prog X.w) X.A (f v u) Q X.xe s2):
  wpAny (model X.prog X.w) X.A (eval a X.env) (λv s₁=>wpAny (model X.prog X.w) X.A (eval b X.env) (λu s₂=>wpAny (model X.prog X.w) X.A (f v u) Q X.xe s₂) X.xe s₁) X.xe s:=by
 refine thn (ha _ s σ H _ I h) λv s1 ⟨x,H1,I1,r1,q1⟩=> ?_;refine thn (hb _ s1 σ H1 _ I1 q1) λu s2 ⟨y,H2,I2,r2,q2⟩=> ?_;exact hf v u s2 x y H2 I2 r1 r2 q2
def wg (i:Nat):TE:=λσ H Q=>∃v,σ[i]? =some (some v)/\Q v H
def tC (v:V):TE:=λ_ H Q=>Q v H
theorem VF (hN:X.N[i]? =some x)(hv:Vis X.env.scope x)(hd:(x == ("__debug__":Str))=false:=by decide)(hcd:(x == ("__classdict__":Str))=false:=by decide):PE X (.Name x pos) (wg i):=by
 intro pins s σ H Q I h;obtain⟨v,e,h⟩:=h;obtain⟨m,hn,hl⟩:=I.loc;obtain⟨u,r,l⟩:=hl i x v hN e hv;have fin:EP X _ σ Q u s:=⟨v,H,I,r,h⟩;rcases l with ⟨hk,hm⟩ | ⟨hk,c,hc,hcell⟩
 ·exact wpAny_Name (wpAny_loadName_local I.ok.kind hk hn hm fin) hd
 ·rcases hk with hk | hk
  ·exact wpAny_Name (wpAny_loadName_cell I.ok.kind hk hc hcell fin) hd
  ·exact wpAny_Name (wpAny_loadName_free I.ok.kind hk hc hcell fin hcd) hd
theorem Kc {i j pos}:PE X (.Constant (.int i) j pos) (tC (.int i)):=λ_ _ _ H _ I h=>wpAny_Constant_int ⟨.int i,H,I.tok _,⟨_,rfl⟩,h⟩
theorem z1j {b j pos}:PE X (.Constant (.bool b) j pos) (tC (.bl b)):=λ_ _ _ H _ I h=>Constant_bool ⟨.bl b,H,I,rfl,h⟩
theorem Ke {j pos}:PE X (.Constant .none j pos) (tC .non):=λ_ _ _ H _ I h=>Constant_none ⟨.non,H,I,rfl,h⟩
theorem VG {x j pos}:PE X (.Constant (.str x) j pos) (tC (.str x)):=λ_ _ _ H _ I h=>Calls.Constant_str ⟨.str x,H,I.tok _,⟨_,rfl⟩,h⟩
noncomputable def Gl (X:Cx)(x:Str):Prop:=X.env.kindOf x=some .globalImplicit
theorem uv (I:Inv X pins σ H s)(hg:Gl X x)(hm:X.mg x=some u)(h:Q u s)
  (hd:(x == ("__debug__":Str))=false:=by decide):wpAny (model X.prog X.w) X.A (eval (.Name x pos) X.env) Q E s:=
 dN I.ok.kind hg (Calls.loadGlobal_global (by rw[I.ok.glob];exact I.mod.glob.keeps I.bk) hm h) hd
theorem j8 (I:Inv X pins σ H s)(hg:Gl X x)(hm:X.mg x=none)(hv:bootBuiltins x=some u)(h:Q u s)
  (hn:x ≠ "__name__":=by decide) (hd:(x == ("__debug__":Str))=false:=by decide):wpAny (model X.prog X.w) X.A (eval (.Name x pos) X.env) Q E s:=by
 obtain⟨mb,h1,h2⟩:=I.mod.blt;exact dN I.ok.kind hg (Calls.loadGlobal_builtin (by rw[I.ok.glob];exact I.mod.glob.keeps I.bk) hm (by rw[I.ok.blt];exact h1.keeps I.bk) ((h2 x hn).trans hv) h) hd
theorem xE (hg:Gl X x)(hm:X.mg x=some u)(r:Z4 v u)(hd:(x == ("__debug__":Str))=false:=by decide):PE X (.Name x pos) (tC v):=
 λ_ _ _ H _ I h=>uv I hg hm ⟨v,H,I,r,h⟩ hd
theorem uw (hg:Gl X x)(hm:X.mg x=none)(hv:bootBuiltins x=some u)(r:Z4 v u)(hn:x ≠ "__name__":=by decide)(hd:(x == ("__debug__":Str))=false:=by decide):PE X (.Name x pos) (tC v):=
 λ_ _ _ H _ I h=>j8 I hg hm hv ⟨v,H,I,r,h⟩ hn hd
variable {tA tB' :TT}{rest:List Expr}
def tAnd (t u:TT):TT:=λσ H Q=>t σ H λc H1=>if c=true then u σ H1 Q else Q false H1
def tOr (t u:TT):TT:=λσ H Q=>t σ H λc H1=>if c=true then Q true H1 else u σ H1 Q
def tNot (t:TT):TT:=λσ H Q=>t σ H λc H1=>Q (!c) H1
theorem xF (ha:PT X a tA):PW X (.BoolOp .And [a] pos) tA:=by
 intro wh pins s σ H Q I h;refine isTrue_and (thn (ha _ s σ H Q I h) λc s1 e=> ?_);cases c with
 | true=>exact isTrue_and_nil e
 | false=>exact e
theorem VH (ha:PT X a tA):PW X (.BoolOp .Or [a] pos) tA:=by
 intro wh pins s σ H Q I h;refine isTrue_or (thn (ha _ s σ H Q I h) λc s1 e=> ?_);cases c with
 | false=>exact isTrue_or_nil e
 | true=>exact e
theorem Kf (ha:PT X a tA)(hb:PW X (.BoolOp .And (b :: rest) pos) tB'):PW X (.BoolOp .And (a :: b :: rest) pos) (tAnd tA tB'):=by
 intro wh pins s σ H Q I h;refine isTrue_and (thn (ha _ s σ H _ I h) λc s1 ⟨H1,I1,q1⟩=> ?_);cases c with
 | true=>exact hb wh _ s1 σ H1 Q I1 q1
 | false=>exact⟨H1,I1,q1⟩
theorem Kg (ha:PT X a tA)(hb:PW X (.BoolOp .Or (b :: rest) pos) tB'):PW X (.BoolOp .Or (a :: b :: rest) pos) (tOr tA tB'):=by
 intro wh pins s σ H Q I h;refine isTrue_or (thn (ha _ s σ H _ I h) λc s1 ⟨H1,I1,q1⟩=> ?_);cases c with
 | true=>exact⟨H1,I1,q1⟩
 | false=>exact hb wh _ s1 σ H1 Q I1 q1
theorem Kh (ha:PT X a tA):PT X (.UnaryOp .Not a pos) (tNot tA):=by
 intro pins s σ H Q I h;exact isTrue_not (ha _ s σ H (λc H1=>Q _ H1) I h)
def z1k (ta tb:TE):TE:=λσ H Q=>ta σ H λx H1=>∃c,x= .bl c/\if c=true then tb σ H1 Q else Q (.bl false) H1
def tOrV (ta tb:TE):TE:=λσ H Q=>ta σ H λx H1=>∃c,x= .bl c/\if c=true then Q (.bl true) H1 else tb σ H1 Q
def z1l (ta:TE):TE:=λσ H Q=>ta σ H λx H1=>∃c,x= .bl c/\Q (.bl (!c)) H1
theorem Ki {op}(h:PE X a t):PE X (.BoolOp op [a] pos) t:=λpins s σ H Q I hw=>BoolOp_one (h _ s σ H Q I hw)
theorem VI (ha:PE X a ta)(hb:PE X (.BoolOp .And (b :: rest) pos) tb):PE X (.BoolOp .And (a :: b :: rest) pos) (z1k ta tb):=by
 intro pins s σ H Q I h;refine BoolOp_and (thn (ha _ s σ H _ I h) λv s1 ⟨x,H1,I1,r1,q1⟩=> ?_);obtain⟨c,rfl,q1⟩:=q1;cases r1;refine aY ?_;cases c with
 | true=>exact hb _ s1 σ H1 Q I1 q1
 | false=>exact⟨.bl _,H1,I1,rfl,q1⟩
theorem z1m (ha:PE X a ta)(hb:PE X (.BoolOp .Or (b :: rest) pos) tb):PE X (.BoolOp .Or (a :: b :: rest) pos) (tOrV ta tb):=by
 intro pins s σ H Q I h;refine BoolOp_or (thn (ha _ s σ H _ I h) λv s1 ⟨x,H1,I1,r1,q1⟩=> ?_);obtain⟨c,rfl,q1⟩:=q1;cases r1;refine aY ?_;cases c with
 | false=>exact hb _ s1 σ H1 Q I1 q1
 | true=>exact⟨.bl _,H1,I1,rfl,q1⟩
theorem Kj (ha:PE X a ta):PE X (.UnaryOp .Not a pos) (z1l ta):=by
 intro pins s σ H Q I h;refine UnaryOp_ (thn (ha _ s σ H _ I h) λv s1 ⟨x,H1,I1,r1,q1⟩=> ?_);obtain⟨c,rfl,q1⟩:=q1;cases r1;exact not_of (aY ⟨.bl _,H1,I1,rfl,q1⟩)
def tIf (t:TT)(ta tb:TE):TE:=λσ H Q=>t σ H λc H1=>if c=true then ta σ H1 Q else tb σ H1 Q
theorem vo (hc:PT X c tA)(ha:PE X a ta)(hb:PE X b tb):PE X (.IfExp c a b pos) (tIf tA ta tb):=by
 intro pins s σ H Q I h;refine wpAny_IfExp (thn (hc _ s σ H _ I h) λd s1 ⟨H1,I1,q1⟩=> ?_);cases d with
 | true=>exact ha _ s1 σ H1 Q I1 q1
 | false=>exact hb _ s1 σ H1 Q I1 q1
end
end L2
namespace L2
open PySem PySem.Spec PyProof.Rows
def SqL (K:aa)(H:Hp)(a:Addr)(xs:List V):Prop:=
 Rd H a (.lst xs)\/
  ∃(o:Obj) (its:Array Value) (n:Nat),K.lookup a=some o/\o.cls= .type "list"/\o.dict=none/\o.data= .seq its n/\its.size<=sizeLine/\zX xs its.toList
def SqT (K:aa)(H:Hp)(a:Addr)(xs:List V):Prop:=
 Rd H a (.tup xs)\/
  ∃(o:Obj) (its:Array Value) (n:Nat),K.lookup a=some o/\o.cls= .type "tuple"/\o.data= .seq its n/\its.size<=sizeLine/\zX xs its.toList
noncomputable def absV:Value->Option V
 | .none=>some .non
 | .bool b=>some (.bl b)
 | .int i _=>some (.int i)
 | .str x _=>some (.str x)
 | .bytes b _=>some (.byt b)
 | .float b _=>some (.flt b)
 | .ref a=>some (.ref a)
 | .type n=>some (.ty n)
 | _=>none
theorem Z4.abs (r:Z4 x u):absV u=some x:=by
 cases x with
 | non=>cases r;rfl
 | bl _=>cases r;rfl
 | int _=>obtain⟨t,rfl⟩:=r;rfl
 | str _=>obtain⟨t,rfl⟩:=r;rfl
 | byt _=>obtain⟨t,rfl⟩:=r;rfl
 | flt _=>obtain⟨t,rfl⟩:=r;rfl
 | ref _=>cases r;rfl
 | ty _=>cases r;rfl
theorem Z4.inj (r:Z4 x u)(q:Z4 y u):x=y:=aB (r.abs.symm.trans q.abs)
theorem zX.inj:∀{xs ys:List V} {us:List Value},zX xs us->zX ys us->xs=ys
 | _,_,_,.nil,.nil=>rfl
 | _,_,_,.cons r t,.cons r' t' =>by rw[r.inj r',zX.inj t t']
section
variable {X:Cx}{pins:List (Addr×Obj)}{σ:St}{H:Hp}{s:Shared}{a:Addr}{xs ys:List V}
theorem SqL.of {K:aa}(h:H a=some (.lst xs)):SqL K H a xs:= .inl (.inl h)
theorem SqT.of {K:aa}(h:H a=some (.tup xs)):SqT K H a xs:= .inl (.inl h)
theorem Inv.list (I:Inv X pins σ H s)(h:SqL X.K H a xs):∃its:List Value,zX xs its/\PlainL s.heap a its.toArray/\xs.length<=sizeLine:=by
 rcases h with h | ⟨o,its,n,hk,hc,hd,hs,hz,r⟩
 ·obtain⟨z,its,n,r,e⟩:=h.ok I.hok;exact⟨its,r,⟨_,n,e,rfl,rfl,rfl⟩,z⟩
 ·refine⟨its.toList,r,⟨o,n,I.kIn a o hk,hc,hd,by simpa using hs⟩, ?_⟩
  have e:=r.length;simp only[dI]at e;omega
theorem Inv.tuple (I:Inv X pins σ H s)(h:SqT X.K H a xs):∃its:List Value,zX xs its/\IsTup s.heap a its.toArray/\xs.length<=sizeLine:=by
 rcases h with h | ⟨o,its,n,hk,hc,hs,hz,r⟩
 ·obtain⟨z,its,r,p,_⟩:=h.ok I.hok;exact⟨its,r,p,z⟩
 ·refine⟨its.toList,r,⟨o,I.kIn a o hk,hc,n,by simpa using hs⟩, ?_⟩
  have e:=r.length;simp only[dI]at e;omega
theorem Inv.list_inj (I:Inv X pins σ H s)(h:SqL X.K H a xs)(h' :SqL X.K H a ys):xs=ys:=by
 obtain⟨its,r,⟨o,n,e,_,_,d⟩,_⟩:=I.list h;obtain⟨its',r',⟨o',n',e',_,_,d'⟩,_⟩:=I.list h';rw[e]at e';cases e';rw[d]at d';injection d' with d1 _;have:=by simpa using congrArg Array.toList d1
 subst this;exact r.inj r'
theorem Inv.tuple_inj (I:Inv X pins σ H s)(h:SqT X.K H a xs)(h' :SqT X.K H a ys):xs=ys:=by
 obtain⟨its,r,⟨o,e,_,n,d⟩,_⟩:=I.tuple h;obtain⟨its',r',⟨o',e',_,n',d'⟩,_⟩:=I.tuple h';rw[e]at e';cases e';rw[d]at d';injection d' with d1 _;have:=by simpa using congrArg Array.toList d1
 subst this;exact r.inj r'
end
noncomputable abbrev Cx.wish (X:Cx)(E:Value->Shared->Prop):Cx:={ X with xe:=E }
abbrev Cx.nox (X:Cx):Cx:=X.wish λ_ _=>False
theorem Cx.Ok.wish {X:Cx}(ok:X.Ok)(E:Value->Shared->Prop):(X.wish E).Ok:=
 ⟨ok.mod,ok.kind,ok.glob,ok.blt,ok.above,ok.inj,ok.has,ok.cab,ok.hd,ok.frames,ok.stk,ok.exf,ok.bs,ok.bsz,ok.noex,ok.exfs,ok.funs,ok.frf⟩
theorem Cx.Ok.unwish {X:Cx}{E:Value->Shared->Prop}(ok:(X.wish E).Ok):X.Ok:=
 ⟨ok.mod,ok.kind,ok.glob,ok.blt,ok.above,ok.inj,ok.has,ok.cab,ok.hd,ok.frames,ok.stk,ok.exf,ok.bs,ok.bsz,ok.noex,ok.exfs,ok.funs,ok.frf⟩
section
variable {X:Cx}{pins:List (Addr×Obj)}{σ:St}{H:Hp}{s:Shared}{E:Value->Shared->Prop}
theorem Inv.wish (I:Inv X pins σ H s)(E:Value->Shared->Prop):Inv (X.wish E) pins σ H s:=⟨I.ok.wish E,I.os,I.bare,I.base,I.loc,I.cell,I.free,I.freeC,I.pin,I.hok,I.len⟩
theorem Inv.unwish (I:Inv (X.wish E) pins σ H s):Inv X pins σ H s:=⟨I.ok.unwish,I.os,I.bare,I.base,I.loc,I.cell,I.free,I.freeC,I.pin,I.hok,I.len⟩
theorem SP.unwish {D:va}{f:Flow}(h:SP (X.wish E) pins D f s'):SP X pins D f s' :=by
 cases f with
 | next=>obtain⟨σ',H',I,q⟩:=h;exact⟨σ',H',I.unwish,q⟩
 | brk=>obtain⟨σ',H',I,q⟩:=h;exact⟨σ',H',I.unwish,q⟩
 | cont=>obtain⟨σ',H',I,q⟩:=h;exact⟨σ',H',I.unwish,q⟩
 | ret u=>obtain⟨v,σ',H',I,r,q⟩:=h;exact⟨v,σ',H',I.unwish,r,q⟩
theorem PSs.nox {st:List Stmt}{t:TS}(h:PSs X.nox st t):PSs X st t:=λpins s σ H D I hw=>
 dq (h _ s σ H D (I.wish _) hw) (λ_ _ q=>q.unwish) λ_ _ z=>bN z
end
section
variable {X:Cx}{st:Stmt}{rest:List Stmt}{t u:TS}{e:Expr}{te:TE}{pos:Pos}
def z1n:TS:=λD σ H=>D.nx σ H
def tSeq (t u:TS):TS:=λD σ H=>t { D with nx:=u D } σ H
theorem yX:PSs X [] z1n:=λ_ _ σ H _ I h=>wpAny_execs_nil ⟨σ,H,I,h⟩
theorem wN (h1:PS X st t)(h2:PSs X rest u):PSs X (st :: rest) (tSeq t u):=by
 intro pins s σ H D I h;refine wpAny_execs_cons (thn (h1 _ s σ H _ I h) λf s1 q=> ?_);cases f with
 | next=>
  obtain⟨σ',H',I',q⟩:=q;exact h2 _ s1 σ' H' D I' q
 | ret v=>exact q
 | brk=>exact q
 | cont=>exact q
theorem ux (h1:PS X st t):PSs X [st] t:=by
 intro pins s σ H D I h;refine wpAny_execs_cons (thn (h1 _ s σ H D I h) λf s1 q=> ?_);cases f with
 | next=>exact wpAny_execs_nil q
 | ret v=>exact q
 | brk=>exact q
 | cont=>exact q
theorem Inv.quiet (I:Inv X pins σ H s):interactive X.env=false:=by simp[interactive,I.ok.kind]
def z1o (te:TE):TS:=λD σ H=>te σ H λ_ H1=>D.nx σ H1
theorem JB (he:PE X e te)(hs:swapsWith e none pos.line X.env=pure false:=by rfl):PS X (.Expr e pos) (z1o te):=by
 intro pins s σ H D I h;exact wpAny_Expr_any (thn (he _ s σ H _ I h) λv s1 ⟨x,H1,I1,r1,q1⟩=>⟨σ,H1,I1,q1⟩) I.quiet hs
def tRet (te:TE):TS:=λD σ H=>te σ H D.rt
theorem Wo (he:PE X e te):PS X (.Return (some e) pos) (tRet te):=by
 intro pins s σ H D I h;exact wpAny_Return_some (thn (he _ s σ H _ I h) λv s1 ⟨x,H1,I1,r1,q1⟩=>⟨x,σ,H1,I1,r1,q1⟩)
def tIfS (c:TT)(t u:TS):TS:=λD σ H=>c σ H λb H1=>if b=true then t D σ H1 else u D σ H1
theorem Kk (hc:PT X c tc)(ha:PSs X a t)(hb:PSs X b u):PS X (.If c a b pos) (tIfS tc t u):=by
 intro pins s σ H D I h;refine wpAny_If (thn (hc _ s σ H _ I h) λd s1 ⟨H1,I1,q1⟩=> ?_);cases d with
 | true=>exact ha _ s1 σ H1 D I1 q1
 | false=>exact hb _ s1 σ H1 D I1 q1
end
abbrev TG:=V->St->Hp->(St->Hp->Prop)->Prop
abbrev TGs:=List V->St->Hp->(St->Hp->Prop)->Prop
def PG (X:Cx)(target:Expr)(t:TG):Prop:=
 ∀(pins:List (Addr×Obj)) (s:Shared) (σ:St) (H:Hp) (v:V) (u:Value) (Q:St->Hp->Prop),Inv X pins σ H s->Z4 v u->t v σ H Q->
  wpAny (model X.prog X.w) X.A (assign target X.env u) (λ_ s' =>∃σ' H',Inv X pins σ' H' s' /\Q σ' H') X.xe s
def PGs (X:Cx)(ts:List Expr)(t:TGs):Prop:=
 ∀(pins:List (Addr×Obj)) (s:Shared) (σ:St) (H:Hp) (vs:List V) (us:List Value) (Q:St->Hp->Prop),Inv X pins σ H s->zX vs us->t vs σ H Q->
  wpAny (model X.prog X.w) X.A (assignInOrder ((assignEach ts X.env).map (·.2)) us) (λ_ s' =>∃σ' H',Inv X pins σ' H' s' /\Q σ' H') X.xe s
section
def wk (i:Nat):TG:=λv σ H Q=>Q (σ.set i (some v)) H
theorem ju (hN:X.N.Nodup)(hi:X.N[i]? =some x)(hx:Loc X.env.scope x)(hf:X.fn x=true\/X.env.scope.names.lookup x=some .local:=by first | exact .inl rfl | exact .inr rfl | assumption):PG X (.Name x pos) (wk i):=by
 intro pins s σ H v u Q I r h;exact wpAny_assign_Name (ZX I hN hi hx r (λs' I' =>⟨_,H,I',h⟩) hf)
def z1p:TGs:=λvs σ H Q=>vs=[]/\Q σ H
def yY (t:TG)(u:TGs):TGs:=λvs σ H Q=>∃v r,vs=v :: r/\t v σ H λσ' H' =>u r σ' H' Q
theorem yZ:PGs X [] z1p:=by
 intro pins s σ H vs us Q I r h;obtain⟨e,h⟩:=h;exact assignInOrder_nil ⟨σ,H,I,h⟩
theorem Jo {u:TGs}(h1:PG X e t)(h2:PGs X es u)
  (hs:(assignEach (e :: es) X.env).map (·.2)=assign e X.env :: (assignEach es X.env).map (·.2):=by rfl):PGs X (e :: es) (yY t u):=by
 intro pins s σ H vs us Q I r h;obtain⟨v,vr,e1,h⟩:=h;subst e1;cases r with
 | cons r rr=>
  rw[hs];refine assignInOrder_cons (thn (h1 _ s σ H _ _ _ I r h) λ_ s1 ⟨σ1,H1,I1,q1⟩=> ?_);exact h2 _ s1 σ1 H1 _ _ Q I1 rr q1
def z0B (K:aa)(n:Nat)(t:TGs):TG:=λv σ H Q=>∃a xs,v= .ref a/\SqT K H a xs/\xs.length=n/\t xs σ H Q
theorem VJ {t:TGs}(hc:X.calm=true)(h:PGs X es t)
  (hn:(assignEach es X.env).length=n:=by rfl) (hst:(assignEach es X.env).findIdx? (·.1)=none:=by rfl):PG X (.Tuple es k pos) (z0B X.K n t):=by
 intro pins s σ H v u Q I r hw;obtain⟨a,xs,e1,hq,hl,hw⟩:=hw;subst e1;cases r;obtain⟨its,rv,ht,hz⟩:=I.tuple hq;refine assign_Tuple_tuple (I.ok.hd hc) ht (by simp[hn,← hl,rv.length]) hst λh' hx=> ?_
 have I1:Inv X _ σ H { s with heap:=h' }:=I.kept λb o e=>hx b o (aD (ao e)) e;exact h _ _ σ H xs _ Q I1 (by simpa using rv) hw
def tAsg (te:TE)(g:TG):TS:=λD σ H=>te σ H λx H1=>g x σ H1 D.nx
theorem U4 (hN:X.N.Nodup)(hi:X.N[i]? =some x)(hx:Loc X.env.scope x)(he:PE X e te)(hs:swapsWith e (some (.Name x pos')) pos.line X.env=pure false:=by rfl)(hf:X.fn x=true\/X.env.scope.names.lookup x=some .local:=by first | exact .inl rfl | exact .inr rfl | assumption):
  PS X (.Assign [.Name x pos'] e pos) (tAsg te (wk i)):=by
 intro pins s σ H D I h;refine wpAny_Assign_Name (thn (he _ s σ H _ I h) λv s1 ⟨y,H1,I1,r1,q1⟩=> ?_) hs;exact ZX I1 hN hi hx r1 (λs2 I2=>⟨_,H1,I2,q1⟩) hf
def tPar (i j:Nat)(ta:TA):TS:=λD σ H=>ta σ H λvs H1=>∃v w,vs=[v,w]/\D.nx ((σ.set i (some v)).set j (some w)) H1
theorem Kl {kt k2 pt2}(hc:X.calm=true)(hN:X.N.Nodup)(hi:X.N[i]? =some x)(hj:X.N[j]? =some y)(hij:i ≠ j)
  (hx:X.env.scope.names.lookup x=some .local) (hy:X.env.scope.names.lookup y=some .local) (ha:PA X [a,b] ta)
  (hw:swappedStores [.Tuple [.Name x px,.Name y py] kt pt] (.Tuple [a,b] k2 pt2) X.env=pure (some [x,y]))
  (hs:swapsWithSole [.Tuple [.Name x px,.Name y py] kt pt] (.Tuple [a,b] k2 pt2) pos.line X.env=pure false:=by rfl):
  PS X (.Assign [.Tuple [.Name x px,.Name y py] kt pt] (.Tuple [a,b] k2 pt2) pos) (tPar i j ta):=by
 intro pins s σ H D I h;refine a7 (wpAny_standAt ?_);refine a7 (aq ?_);refine a7 (Tuple_ (thn (ha _ _ s σ H _ I h) λus s1 ⟨vs,H1,I1,r1,q1⟩=> ?_));obtain⟨v,w,e1,q1⟩:=q1;subst e1;obtain⟨u1,u2,rfl,rv,rw'⟩:∃u1 u2,us=[u1,u2]/\Z4 v u1/\Z4 w u2:=by
  cases r1 with
  | cons p q=>
   cases q with
   | cons p' q' =>
    cases q';exact⟨_,_,rfl,p,p'⟩
 refine aZ ?_ (by show 2<=sizeLine;decide)
 have I2:Inv X _ σ H1 { s1 with heap:=s1.heap.push { cls:= .type "tuple",data:= .seq [u1,u2].toArray } }:=I1.kept λb o e=>a9 _ e;rw[hw];refine a7 (aq ?_);refine a7 (c_ (a7 (unpackItems_tuple (items:= #[u1,u2]) (I.ok.hd hc) (iX _ _) λh' hx' => ?_)));have I3:=I2.kept (t' :=s1.toks) λb o e=>hx' b o (aD (ao e)) e;refine a7 (assignInOrder_cons (wpAny_bindName (ZX I3 hN hj (.inl hy) rw' (λs2 I4=> ?_) (.inr hy))));refine assignInOrder_cons (wpAny_bindName (ZX I4 hN hi (.inl hx) rv (λs3 I5=>assignInOrder_nil (aq ?_)) (.inr hx)));rw[eC _ _ (aS hij)]at I5;exact⟨_,H1,I5,q1⟩
end
section
def Km (c:TT)(tb:TS):TS:=λD σ H=>∃W:Nat->St->Hp->Prop,(∃m,W m σ H)/\∀m σ H,W m σ H->
 c σ H λb H1=>if b=true then ∃N:St->Hp->Prop,(∀σ' H',N σ' H' ->∃m',m' < m/\W m' σ' H')/\tb { D with nx:=N,ct:=N,bk:=D.nx } σ H1 else D.nx σ H1
theorem vp (hp:PassesOwn (model X.prog X.w) X.A X.env X.xe)(hc:PT X c tc)(hb:PSs X body tb):PS X (.While c body [] pos) (Km tc tb):=by
 intro pins s σ H D I h;obtain⟨W,⟨m0,w0⟩,turn⟩:=h;refine wpAny_While (codeAny_whileLoop (λn s' =>∃σ' H',Inv X _ σ' H' s' /\W n σ' H') ?_ m0 ⟨σ,H,I,w0⟩)
 rintro n s1 ⟨σ1,H1,I1,w1⟩
 refine bW hp (thn (hc _ s1 σ1 H1 _ I1 (turn n σ1 H1 w1)) λb s2 ⟨H2,I2,q2⟩=> ?_);cases b with
 | true=>
  obtain⟨N,hN,q2⟩:=q2;refine bW hp (thn (hb _ s2 σ1 H2 _ I2 q2) λf s3 q3=> ?_);cases f with
  | next=>
   obtain⟨σ3,H3,I3,n3⟩:=q3;obtain⟨m',hm,w3⟩:=hN σ3 H3 n3;exact⟨m',hm,σ3,H3,I3,w3⟩
  | cont=>
   obtain⟨σ3,H3,I3,n3⟩:=q3;obtain⟨m',hm,w3⟩:=hN σ3 H3 n3;exact⟨m',hm,σ3,H3,I3,w3⟩
  | brk=>exact q3
  | ret v=>exact q3
 | false=>
  exact wpAny_execs_nil ⟨σ1,H2,I2,q2⟩
end
structure It where
 go:Nat->Hp->Prop
 yld:Nat->Hp->V->Hp->Prop
 stop:Nat->Hp->Prop
def Jp (X:Cx)(pins:List (Addr×Obj))(H:Hp)(b:Addr):Prop:=
 H b=none/\b ≠ X.env.locals/\b ∉ X.fs/\(b∈X.ex\/X.s₀.heap.objs.size<=b)/\(∀x c,X.env.cells.lookup x=some c->c ≠ b)/\∀p∈X.pn++pins,p.1 ≠ b
theorem Inv.fpOk (I:Inv X pins σ H s)(hb:s.heap.objs.size<=b)(hn:H' b=none):Jp X pins H' b:=by
 refine⟨hn,d7 (aL I.lt hb),I.nofs hb,.inr (aA I.sz hb),λx c e z=> ?_,λp hp z=> ?_⟩
 ·obtain⟨v,q⟩:=I.cell x c e;exact absurd (aL q.lt (by rw[z];exact hb)) (aX _)
 ·exact absurd (aL (ao (I.pin p hp).1) (by rw[z];exact hb)) (aX _)
structure y9 (P:Program) (w:World) (K:aa) (tg:Expr) (J:It) (fp:List Addr) (it:Addr) (tn:Nat->Heap->Prop):Prop where
 mem:it∈fp
 obj:∀i h,tn i h->∀b∈fp,∃o,h.get? b=some o/\∀v,o.data ≠ .cell v
 keep:∀i h h',tn i h->(∀b∈fp,∀o,h.get? b=some o->h'.get? b=some o)->tn i h'
 item:∀(X:Cx),X.prog=P->X.w=w->X.K=K->X.calm=true->∀(i:Nat) (pins:List (Addr×Obj)) (s:Shared) (σ:St) (H:Hp) (E:Value->Shared->Prop),Inv X pins σ H s->(∀b∈fp,Jp X pins H b)->tn i s.heap->J.go i H->
  wpAny (model P w) X.A (pyNext (.ref it)) (λr s1=>∃u,r=some u/\
   wpAny (model P w) X.A (letOwnedTupleGo tg (.ref it) u) (λ_ s2=>∃x H',Inv X pins σ H' s2/\Z4 x u/\J.yld i H x H' /\tn (i+1) s2.heap/\∀b∈fp,H' b=none) E s1) E s
 done:∀(X:Cx),X.prog=P->X.w=w->X.K=K->X.calm=true->∀(i:Nat) (pins:List (Addr×Obj)) (s:Shared) (σ:St) (H:Hp) (E:Value->Shared->Prop),Inv X pins σ H s->(∀b∈fp,Jp X pins H b)->tn i s.heap->J.stop i H->
  wpAny (model P w) X.A (pyNext (.ref it)) (λr s1=>r=none/\Inv X pins σ H s1) E s
 self:∀(A:Around) (i:Nat) (s:Shared) (Q:Value->Shared->Prop) (E:Value->Shared->Prop),tn i s.heap->Q (.ref it) s->wpAny (model P w) A (pyIter (.ref it)) Q E s
abbrev TI:=St->Hp->(It->Hp->Prop)->Prop
def PIE (X:Cx)(pins:List (Addr×Obj))(σ:St)(tg:Expr)(R:It->Hp->Prop)(itv:Value)(s2:Shared):Prop:=
 ∃(it:Addr) (fp:List Addr) (tn:Nat->Heap->Prop) (J:It) (H' :Hp),itv= .ref it/\Inv X pins σ H' s2/\y9 X.prog X.w X.K tg J fp it tn/\tn 0 s2.heap/\(∀b∈fp,Jp X pins H' b)/\R J H'
def PI (X:Cx)(tg iter:Expr)(wi:TI):Prop:=
 ∀(pins:List (Addr×Obj)) (s:Shared) (σ:St) (H:Hp) (R:It->Hp->Prop),Inv X pins σ H s->wi σ H R->
  wpAny (model X.prog X.w) X.A (eval iter X.env) (λv s1=>wpAny (model X.prog X.w) X.A (pyIter v) (PIE X pins σ tg R) X.xe s1) X.xe s
theorem ya {Q:Unit->Shared->Prop}(ho:s.heap.get? it=some o)(hc:o.cls= .type n)(hd:o.data= .fields vs)
  (hn:["enumerate","zip","dict_itemiterator","dict_reverseitemiterator","odict_iterator","itertools.zip_longest","itertools.pairwise"].contains n=false) (hQ:Q () s):wpAny M A (letOwnedTupleGo tg (.ref it) u) Q E s:=by
 cases tg <;> first
  | exact aq hQ
  | (cases u <;> first
    | exact aq hQ
    | (refine a7 (wpAny_load ho ?_);rw[hc,hd];show wpAny M A (if (["enumerate","zip","dict_itemiterator","dict_reverseitemiterator","odict_iterator","itertools.zip_longest","itertools.pairwise"].contains n && vs[0]? == some _)=true then _ else _) Q E s;rw[if_neg (by intro h;rw[hn]at h;cases h)];exact aq hQ))
def Itl (K:aa)(a:Addr):It:=
 ⟨λi H=>∃xs x,SqL K H a xs/\xs[i]? =some x,λi H x H' =>H' =H/\∀xs,SqL K H a xs->xs[i]? =some x,λi H=>∃xs,SqL K H a xs/\xs.length<=i⟩
def Itt (K:aa)(a:Addr):It:=
 ⟨λi H=>∃xs x,SqT K H a xs/\xs[i]? =some x,λi H x H' =>H' =H/\∀xs,SqT K H a xs->xs[i]? =some x,λi H=>∃xs,SqT K H a xs/\xs.length<=i⟩
noncomputable def Itr (lo:Int)(n:Nat):It:=⟨λi _=>i < n,λi H x H' =>H' =H/\x= .int (lo+i),λi _=>n<=i⟩
theorem Y0 {P:Program}{w:World}{K:aa}{tg:Expr}(a it:Addr):y9 P w K tg (Itl K a) [it] it (λi h=>h.IsListIter it a i) where
 mem:=by simp
 obj:=λi h st b hb=>by
  have e:b=it:=by simpa using hb
  subst e;obtain⟨o,e,c,d⟩:=st;exact⟨o,e,λv z=>by rw[d]at z;cases z⟩
 keep:=λi h h' st k=>st.at λo e=>k it (by simp) o e
 item:=by
  intro X hP hw hK hc i pins s σ H E I hf st hg;subst hP hw hK;obtain⟨xs,x,hq,hx⟩:=hg;obtain⟨its,rv,p,hz⟩:=I.list hq;obtain⟨u,hu,ru⟩:=rv.get hx;obtain⟨f0,f1,f2,f3,f4,f5⟩:=hf it (by simp)
  refine wpAny_pyNext_list_item st p.isList (x:=u) (by simpa using hu) λh' st' sb=> ?_
  have I1:Inv X pins σ H { s with heap:=h' }:=I.turned (t' :=s.toks) (λb o hb e=>(sb.2 b hb).trans e) f0 f1 f3 f4 f5;obtain⟨o,e,c,d⟩:=id st';exact⟨u,rfl,ya (s:={ s with heap:=h' }) e c d (by decide) ⟨x,H,I1,ru,⟨rfl,λys hy=>by rw[I.list_inj hy hq];exact hx⟩,st',λb hb=>(hf b hb).1⟩⟩
 done:=by
  intro X hP hw hK hc i pins s σ H E I hf st hg;subst hP hw hK;obtain⟨xs,hq,hx⟩:=hg;obtain⟨its,rv,p,hz⟩:=I.list hq;obtain⟨f0,f1,f2,f3,f4,f5⟩:=hf it (by simp)
  have hl:=rv.length;exact wpAny_pyNext_list_end (I.ok.hd hc) st p.isList (by simp;omega) λh' eb=>⟨rfl,I.turned (t' :=s.toks) (λb o hb e=>eb b o hb e) f0 f1 f3 f4 f5⟩
 self:=λ_ _ _ _ _ st h=>wpAny_pyIter_listiter st h
theorem yb {P:Program}{w:World}{K:aa}{tg:Expr}(a it:Addr):y9 P w K tg (Itt K a) [it] it (λi h=>h.IsTupleIter it a i) where
 mem:=by simp
 obj:=λi h st b hb=>by
  have e:b=it:=by simpa using hb
  subst e;obtain⟨o,e,c,d⟩:=st;exact⟨o,e,λv z=>by rw[d]at z;cases z⟩
 keep:=λi h h' st k=>st.at λo e=>k it (by simp) o e
 item:=by
  intro X hP hw hK hc i pins s σ H E I hf st hg;subst hP hw hK;obtain⟨xs,x,hq,hx⟩:=hg;obtain⟨its,rv,p,hz⟩:=I.tuple hq;obtain⟨u,hu,ru⟩:=rv.get hx;obtain⟨f0,f1,f2,f3,f4,f5⟩:=hf it (by simp)
  refine wpAny_pyNext_tuple_item st (show s.heap.IsTuple a its.toArray from p) (x:=u) (by simpa using hu) λh' st' sb=> ?_
  have I1:Inv X pins σ H { s with heap:=h' }:=I.turned (t' :=s.toks) (λb o hb e=>(sb.2 b hb).trans e) f0 f1 f3 f4 f5;obtain⟨o,e,c,d⟩:=id st';exact⟨u,rfl,ya (s:={ s with heap:=h' }) e c d (by decide) ⟨x,H,I1,ru,⟨rfl,λys hy=>by rw[I.tuple_inj hy hq];exact hx⟩,st',λb hb=>(hf b hb).1⟩⟩
 done:=by
  intro X hP hw hK hc i pins s σ H E I hf st hg;subst hP hw hK;obtain⟨xs,hq,hx⟩:=hg;obtain⟨its,rv,p,hz⟩:=I.tuple hq;obtain⟨f0,f1,f2,f3,f4,f5⟩:=hf it (by simp)
  have hl:=rv.length;exact wpAny_pyNext_tuple_end (I.ok.hd hc) st (show s.heap.IsTuple a its.toArray from p) (by simp;omega) λh' eb=>⟨rfl,I.turned (t' :=s.toks) (λb o hb e=>eb b o hb e) f0 f1 f3 f4 f5⟩
 self:=λ_ _ _ _ _ st h=>wpAny_pyIter_tupleiter st h
theorem yc {P:Program}{w:World}{K:aa}{tg:Expr}(it:Addr)(lo:Int)(n:Nat):y9 P w K tg (Itr lo n) [it] it (λi h=>IsRangeIter h it (lo+(i:Nat)*1) ((n:Int) - (i:Nat)) 1) where
 mem:=by simp
 obj:=λi h st b hb=>by
  have e:b=it:=by simpa using hb
  subst e;exact⟨_,st,λv z=>by
   have z' :Data.fields _=Data.cell v:=z;cases z'⟩
 keep:=λi h h' st k=>k it (by simp) _ st
 item:=by
  intro X hP hw hK hc i pins s σ H E I hf st hg;subst hP hw hK;obtain⟨f0,f1,f2,f3,f4,f5⟩:=hf it (by simp)
  have W:=Walks.range (prog:=X.prog) (w:=X.w) (I.ok.hd hc) it lo 1 n;refine W.item i s _ _ hg st λv h' tk hv st' kk=> ?_;obtain⟨t,rfl⟩:=hv;have I1:Inv X pins σ H { s with heap:=h',toks:=tk }:=I.turned (λb o hb e=>kk b o (by simpa using hb) e) f0 f1 f3 f4 f5
  refine⟨_,rfl,ya (s:={ s with heap:=h',toks:=tk }) (n:="range_iterator") st' rfl rfl (by decide) ⟨.int (lo+i),H,I1,⟨t, ?_⟩,⟨rfl,rfl⟩,st',λb hb=>(hf b hb).1⟩⟩
  rw[Int.mul_one]
 done:=by
  intro X hP hw hK hc i pins s σ H E I hf st hg;subst hP hw hK;obtain⟨f0,f1,f2,f3,f4,f5⟩:=hf it (by simp)
  exact wpAny_pyNext_range_end (I.ok.hd hc) st (by have:n<=i:=hg;omega) λh' eb=>⟨rfl,I.turned (t' :=s.toks) (λb o hb e=>eb b o hb e) f0 f1 f3 f4 f5⟩
 self:=λ_ _ _ _ _ st h=>wpAny_pyIter_rangeiter st h
end L2
namespace L2
open PySem PySem.Spec PyProof.Rows
section
theorem U5 {pins:List (Addr×Obj)}{σ:St}{H:Hp}{s:Shared}{R:It->Hp->Prop}{E:Value->Shared->Prop}{lo hi:Int}{t u v:Tok}{tk:Nat}(I:Inv X pins σ H s)(h1: -(2 ^ 62)<=lo)(h2:lo < 2 ^ 62)(h3: -(2 ^ 62)<=hi)(h4:hi < 2 ^ 62)
  (q:R (Itr lo (hi - lo).toNat) H):wpAny (model X.prog X.w) X.A (pyIter (.ref s.heap.objs.size)) (PIE X pins σ tg R) E { s with heap:=s.heap.push { cls:= .type "range",data:= .fields #[.int lo t,.int hi u,.int 1 v] },toks:=tk }:=by
 refine wpAny_pyIter_range (IsRange.new ..) (small_one h1 h2 h3 h4) ?_;have I1:Inv X _ σ H { s with heap:=s.heap.push { cls:= .type "range",data:= .fields #[.int lo t,.int hi u,.int 1 v] },toks:=tk }:=I.kept λb o e=>a9 _ e;refine⟨(s.heap.push _).objs.size,[(s.heap.push _).objs.size],_,_,H,rfl,
  I1.kept λb o e=>a9 _ e,yc _ lo _, ?_,λb hb=> ?_,q⟩
 ·have e1:lo+((0:Nat))*1=lo:=by simp
  have e2:(((hi - lo).toNat):Int) - ((0:Nat))=eN lo hi 1:=by rw[rangeSize_one];split <;> omega
  rw[e1,e2];exact af _ rfl
 ·have e:b=(s.heap.push { cls:= .type "range",data:= .fields #[.int lo t,.int hi u,.int 1 v] }).objs.size:=by simpa using hb
  subst e;exact I1.fpOk (aj _) (I1.hok.fresh (aj _))
def z1q (ta:TA):TI:=λσ H R=>ta σ H λvs H1=>∃j:Int,vs=[.int j]/\ -(2 ^ 62)<=j/\j < 2 ^ 62/\R (Itr 0 j.toNat) H1
def z1r (ta:TA):TI:=λσ H R=>ta σ H λvs H1=>∃i j:Int,vs=[.int i,.int j]/\(-(2 ^ 62)<=i/\i < 2 ^ 62/\ -(2 ^ 62)<=j/\j < 2 ^ 62)/\R (Itr i (j - i).toNat) H1
theorem Y1 {a:Expr}{ta:TA}{p pos:Pos}(hg:Gl X "range")(hm:X.mg "range"=none)(ha:PA X [a] ta)(hs:starEach [a] X.env=[(false,eval a X.env)]:=by rfl):PI X tg (.Call (.Name "range" p) [a] [] pos) (z1q ta):=by
 intro pins s σ H R I h;refine Call_ (j8 I hg hm boot_range (aV (thn (ha pos _ s σ H _ I h) λus s1 ⟨vs,H1,I1,r1,q1⟩=> ?_) hs rfl));obtain⟨j,e,q1,q2,q⟩:=q1;subst e;cases r1 with
 | cons r rr=>
  cases rr;obtain⟨t,rfl⟩:=r;exact call_range_1 (U5 I1 (by omega) (by omega) q1 q2 (by simpa using q))
theorem Y2 (hg:Gl X "range")(hm:X.mg "range"=none)(ha:PA X [a,b] ta)(hs:starEach [a,b] X.env=[(false,eval a X.env),(false,eval b X.env)]:=by rfl)(hs2:starEach [b] X.env=[(false,eval b X.env)]:=by rfl):
  PI X tg (.Call (.Name "range" p) [a,b] [] pos) (z1r ta):=by
 intro pins s σ H R I h;refine Call_ (j8 I hg hm boot_range (aV (thn (ha pos _ s σ H _ I h) λus s1 ⟨vs,H1,I1,r1,q1⟩=> ?_) (by rw[hs,hs2]) (by rw[hs2];rfl)))
 obtain⟨i,j,e,⟨q1,q2,q3,q4⟩,q⟩:=q1;subst e;cases r1 with
 | cons r rr=>
  cases rr with
  | cons r' rr=>
   cases rr;obtain⟨t,rfl⟩:=r;obtain⟨t',rfl⟩:=r';exact call_range_2 (U5 I1 q1 q2 q3 q4 q)
def tFor (wi:TI)(g:TG)(tb:TS):TS:=λD σ H=>wi σ H λJ H1=>∃W:Nat->Nat->St->Hp->Prop,(∃m,W 0 m σ H1)/\∀i m σ H,W i m σ H->
 (J.stop i H/\D.nx σ H)\/(J.go i H/\∃N:St->Hp->Prop,(∀σ' H',N σ' H' ->∃m',m' < m/\W (i+1) m' σ' H')/\∀x H',J.yld i H x H' ->g x σ H' λσ2 H2=>tb { D with nx:=N,ct:=N,bk:=D.nx } σ2 H2)
noncomputable def U6 (fp:List Addr)(h:Heap):List (Addr×Obj):=fp.filterMap λb=>(h.get? b).map λo=>(b,o)
theorem jk (hb:b∈fp)(e:h.get? b=some o):(b,o)∈U6 fp h:=fZ.mpr ⟨b,hb,by rw[e];rfl⟩
theorem Y3 {p:Addr×Obj}(hp:p∈U6 fp h):p.1∈fp/\h.get? p.1=some p.2:=by
 obtain⟨b,hb,e⟩:=fZ.mp hp;cases q:h.get? b with
 | none=>rw[q]at e;cases e
 | some o=>
  rw[q]at e;have e' :=aB e;subst e';exact⟨hb,q⟩
theorem Inv.pinned (I:Inv X pins σ H s)(hf:∀b∈fp,Jp X pins H b)(ho:∀b∈fp,∃o,s.heap.get? b=some o/\∀v,o.data ≠ .cell v):Inv X (pins++U6 fp s.heap) σ H s:=
 I.pins_of λp hp=>(cW.mp hp).elim (λz=>I.pin p (b7 _ z)) λz=>by
  obtain⟨hb,e⟩:=Y3 z;obtain⟨f0,f1,f2,_⟩:=hf p.1 hb;obtain⟨o,e',d⟩:=ho p.1 hb;rw[e]at e';cases e';exact⟨e,f0,f1,f2,d⟩
theorem Inv.unpinned (I:Inv X (pins++pl) σ H s):Inv X pins σ H s:=I.pins_of λp hp=>I.pin p (b7 _ (dA _ hp))
theorem Kn (hp:PassesOwn (model X.prog X.w) X.A X.env X.xe)(hc:X.calm=true)(hi:PI X tg iter wi)(hg:PG X tg g)(hb:PSs X body tb)
  (hs:∀x,foldedSetIterable iter X.env x=pure x:=by intro _;rfl):PS X (.For tg iter body [] pos) (tFor wi g tb):=by
 intro pins s σ H D I h;refine wpAny_For (thn (hi _ s σ H _ I h) λv s1 h1=>thn h1 λitv s2 h2=> ?_) hs;obtain⟨it,fp,tn,J,H2,e,I2,T,st2,f2,W,⟨m0,w0⟩,turn⟩:=h2;subst e;have stat:∀{H' :Hp},(∀b∈fp,H' b=none)->∀b∈fp,Jp X _ H' b:=λhn b hb=>⟨hn b hb,(f2 b hb).2⟩;refine codeAny_forLoop_any (λn s' =>∃i σ' H',Inv X _ σ' H' s' /\tn i s'.heap/\(∀b∈fp,H' b=none)/\W i n σ' H') ?_ m0 ⟨0,σ,H2,I2,st2,λb hb=>(f2 b hb).1,w0⟩
 rintro n s3 ⟨i,σ3,H3,I3,st3,fr3,w3⟩
 rcases turn i n σ3 H3 w3 with ⟨stop,qn⟩ | ⟨go,N,hN,step⟩
 ·refine bW hp (thn (T.done X rfl rfl rfl hc i _ s3 σ3 H3 _ I3 (stat fr3) st3 stop) λr s4 ⟨hr,I4⟩=> ?_);subst hr;exact wpAny_execs_nil ⟨σ3,H3,I4,qn⟩
 ·refine bW hp (thn (T.item X rfl rfl rfl hc i _ s3 σ3 H3 _ I3 (stat fr3) st3 go) λr s4 ⟨u,hr,h4⟩=> ?_);subst hr;refine bW hp (thn h4 λ_ s5 ⟨x,H5,I5,r5,y5,st5,fr5⟩=> ?_);have I5' :=I5.pinned (stat fr5) (T.obj _ _ st5);refine bW hp (thn (hg _ s5 σ3 H5 x u _ I5' r5 (step x H5 y5)) λ_ s6 ⟨σ6,H6,I6,q6⟩=> ?_);refine bW hp (thn (hb _ s6 σ6 H6 _ I6 q6) λf s7 q7=> ?_);have again:∀{σ7:St} {H7:Hp},Inv X (pins++U6 fp _) σ7 H7 s7->N σ7 H7->∃m,m < n/\∃i σ' H',Inv X _ σ' H' s7/\tn i _/\(∀b∈fp,H' b=none)/\W i m σ' H' :=λ{σ7 H7} I7 n7=>by
   obtain⟨m',hm,w7⟩:=hN σ7 H7 n7;refine⟨m',hm,i+1,σ7,H7,I7.unpinned,T.keep _ _ _ st5 λb hb o e=>(I7.pin _ (b7 _ (b7 _ (jk hb e)))).1,λb hb=> ?_,w7⟩;obtain⟨o,e,d⟩:=T.obj _ _ st5 b hb;exact(I7.pin _ (b7 _ (b7 _ (jk hb e)))).2.1
  cases f with
  | next=>obtain⟨σ7,H7,I7,n7⟩:=q7;exact again I7 n7
  | cont=>obtain⟨σ7,H7,I7,n7⟩:=q7;exact again I7 n7
  | brk=>obtain⟨σ7,H7,I7,q7⟩:=q7;exact⟨σ7,H7,I7.unpinned,q7⟩
  | ret v=>obtain⟨x7,σ7,H7,I7,r7,q7⟩:=q7;exact⟨x7,σ7,H7,I7.unpinned,r7,q7⟩
end
end L2
namespace L2
open PySem PySem.Spec PyProof.Rows
abbrev R2:=V->V->Hp->VK->Prop
def OpR (X:Cx)(f:Value->Value->Sem Value)(r:R2):Prop:=
 ∀(pins:List (Addr×Obj)) (s:Shared) (σ:St) (H:Hp) (x y:V) (v u:Value) (Q:VK),Inv X pins σ H s->Z4 x v->Z4 y u->r x y H Q->
  wpAny (model X.prog X.w) X.A (f v u) (EP X pins σ Q) X.xe s
def UnR (X:Cx)(f:Value->Sem Value)(r:V->Hp->VK->Prop):Prop:=
 ∀(pins:List (Addr×Obj)) (s:Shared) (σ:St) (H:Hp) (x:V) (v:Value) (Q:VK),Inv X pins σ H s->Z4 x v->r x H Q->
  wpAny (model X.prog X.w) X.A (f v) (EP X pins σ Q) X.xe s
def Zc (X:Cx)(f:Value)(r:List V->Hp->VK->Prop):Prop:=
 ∀(pins:List (Addr×Obj)) (s:Shared) (σ:St) (H:Hp) (xs:List V) (us:List Value) (Q:VK),Inv X pins σ H s->zX xs us->r xs H Q->
  wpAny (model X.prog X.w) X.A (call f us) (EP X pins σ Q) X.xe s
def TruR (X:Cx)(r:V->Hp->(Bool->Hp->Prop)->Prop):Prop:=
 ∀(pins:List _) (s:Shared) (σ:St) (H:Hp) (x:V) (v:Value) (Q:Bool->Hp->Prop),Inv X pins σ H s->Z4 x v->r x H Q->
  wpAny (model X.prog X.w) X.A (truthy v) (TP X pins σ Q) X.xe s
def tOp (r:R2)(ta tb:TE):TE:=λσ H Q=>ta σ H λx H1=>tb σ H1 λy H2=>r x y H2 Q
def tUn (r:V->Hp->VK->Prop)(ta:TE):TE:=λσ H Q=>ta σ H λx H1=>r x H1 Q
def rI (C:Int->Int->Prop)(g:Int->Int->V):R2:=λx y H Q=>∃i j,x= .int i/\y= .int j/\C i j/\Q (g i j) H
def rI0 (g:Int->Int->V):R2:=λx y H Q=>∃i j,x= .int i/\y= .int j/\Q (g i j) H
def rU (g:Int->V):V->Hp->VK->Prop:=λx H Q=>∃i,x= .int i/\Q (g i) H
section
theorem z1s (ha:PE X a ta)(hb:PE X b tb){R:V->V->Hp->Prop}(I:Inv X pins σ H s)
  (h:ta σ H λx H1=>tb σ H1 λy H2=>R x y H2) {Q:Value->Shared->Prop} {f:Value->Value->Sem Value}
  (hf:∀v u s2 x y H2,Inv X pins σ H2 s2->Z4 x v->Z4 y u->R x y H2->wpAny (model X.prog X.w) X.A (f v u) Q X.xe s2):
  wpAny (model X.prog X.w) X.A (eval a X.env) (λv s₁=>wpAny (model X.prog X.w) X.A (eval b X.env) (λu s₂=>wpAny (model X.prog X.w) X.A (f v u) Q X.xe s₂) X.xe s₁) X.xe s:=by
 refine thn (ha _ s σ H _ I h) λv s1 ⟨x,H1,I1,r1,q1⟩=> ?_;refine thn (hb _ s1 σ H1 _ I1 q1) λu s2 ⟨y,H2,I2,r2,q2⟩=> ?_;exact hf v u s2 x y H2 I2 r1 r2 q2
theorem Ko (ho:OpR X (binaryOp op) r)(ha:PE X a ta)(hb:PE X b tb):PE X (.BinOp a op b pos) (tOp r ta tb):=by
 intro pins s σ H Q I h;exact wpAny_BinOp (z1s ha hb I h λv u s2 x y H2 I2 rx ry q=>ho _ s2 σ H2 x y v u Q I2 rx ry q)
theorem z1t {op:UnaryOp}{r:V->Hp->VK->Prop}(ho:UnR X (unaryOp op) r)(ha:PE X a ta):PE X (.UnaryOp op a pos) (tUn r ta):=by
 intro pins s σ H Q I h;exact UnaryOp_ (thn (ha _ s σ H _ I h) λv s1 ⟨x,H1,I1,r1,q1⟩=>ho _ s1 σ H1 x v Q I1 r1 q1)
theorem opI {f:Value->Value->Sem Value}{C:Int->Int->Prop}{g:Int->Int->Int}
  (rule:∀(i j:Int) (t u:Tok) (s:Shared) (Q:Value->Shared->Prop) (E:Value->Shared->Prop),C i j->Q (.int (g i j) s.toks) { s with toks:=s.toks+1 }->wpAny (model X.prog X.w) X.A (f (.int i t) (.int j u)) Q E s):
  OpR X f (rI C λi j=> .int (g i j)):=by
 intro pins s σ H x y v u Q I rx ry h;obtain⟨i,j,rfl,rfl,hc,q⟩:=h;obtain⟨t,rfl⟩:=rx;obtain⟨t',rfl⟩:=ry;exact rule i j t t' s _ _ hc ⟨.int _,H,I.tok _,⟨_,rfl⟩,q⟩
theorem opI0 {f:Value->Value->Sem Value}{g:Int->Int->Int}
  (rule:∀(i j:Int) (t u:Tok) (s:Shared) (Q:Value->Shared->Prop) (E:Value->Shared->Prop),Q (.int (g i j) s.toks) { s with toks:=s.toks+1 }->wpAny (model X.prog X.w) X.A (f (.int i t) (.int j u)) Q E s):
  OpR X f (rI0 λi j=> .int (g i j)):=by
 intro pins s σ H x y v u Q I rx ry h;obtain⟨i,j,rfl,rfl,q⟩:=h;obtain⟨t,rfl⟩:=rx;obtain⟨t',rfl⟩:=ry;exact rule i j t t' s _ _ ⟨.int _,H,I.tok _,⟨_,rfl⟩,q⟩
theorem z0C {f:Value->Value->Sem Value}{g:Int->Int->Bool}
  (rule:∀(i j:Int) (t u:Tok) (s:Shared) (Q:Value->Shared->Prop) (E:Value->Shared->Prop),Q (.bool (g i j)) s->wpAny (model X.prog X.w) X.A (f (.int i t) (.int j u)) Q E s):
  OpR X f (rI0 λi j=> .bl (g i j)):=by
 intro pins s σ H x y v u Q I rx ry h;obtain⟨i,j,rfl,rfl,q⟩:=h;obtain⟨t,rfl⟩:=rx;obtain⟨t',rfl⟩:=ry;exact rule i j t t' s _ _ ⟨.bl _,H,I,rfl,q⟩
noncomputable def CDiv (i j:Int):Prop:=0 < j/\j < 1073741824
noncomputable def uo (i j:Int):Prop:=(-(2 ^ 64) < i/\i < 2 ^ 64)\/(-(2 ^ 64) < j/\j < 2 ^ 64)
theorem uo.ok (h:uo i j):IntMulOk i j:=by
 rcases h with ⟨h1,h2⟩ | ⟨h1,h2⟩
 ·exact .of_left (intBits_le_64 h1 h2)
 ·exact .of_right (intBits_le_64 h1 h2)
theorem Kp:OpR X (binaryOp .Add) (rI0 λi j=> .int (i+j)):=opI0 λ_ _ _ _ _ _ _ q=>add_int q
theorem Kq:OpR X (binaryOp .Sub) (rI0 λi j=> .int (i - j)):=opI0 λ_ _ _ _ _ _ _ q=>sub_int q
theorem Kr:OpR X (binaryOp .Mult) (rI uo λi j=> .int (i*j)):=opI λ_ _ _ _ _ _ _ hc q=>mul_int q hc.ok
theorem xG:OpR X (binaryOp .FloorDiv) (rI CDiv λi j=> .int (i / j)):=opI λi j _ _ _ _ _ hc q=>by
 have h1:=hc.1;have h2:=hc.2;exact floordiv_int (by omega) (by rw[dO i (by omega)];exact q) (.inl (PyProof.noPylong_small (by omega)))
theorem Ks:OpR X (binaryOp .Mod) (rI (λ_ j=>0 < j) λi j=> .int (i % j)):=opI λi j _ _ _ _ _ hc q=>by
 exact mod_int' (by omega) (by rw[Int.fmod_eq_emod_of_nonneg i (by omega)];exact q)
theorem unI {f:Value->Sem Value}{g:Int->Int}
  (rule:∀(i:Int) (t:Tok) (s:Shared) (Q:Value->Shared->Prop) (E:Value->Shared->Prop),Q (.int (g i) s.toks) { s with toks:=s.toks+1 }->wpAny (model X.prog X.w) X.A (f (.int i t)) Q E s):
  UnR X f (rU λi=> .int (g i)):=by
 intro pins s σ H x v Q I rx h;obtain⟨i,rfl,q⟩:=h;obtain⟨t,rfl⟩:=rx;exact rule i t s _ _ ⟨.int _,H,I.tok _,⟨_,rfl⟩,q⟩
theorem Kt:UnR X (unaryOp .USub) (rU λi=> .int (-i)):=unI λ_ _ _ _ _ q=>neg_int q
theorem Y4:OpR X (binaryOp .Add) (λx y H Q=>∃i k,x= .int i/\y= .bl k/\Q (.int (i+b2i k)) H):=by
 intro pins s σ H x y v u Q I rx ry h;obtain⟨i,k,rfl,rfl,q⟩:=h;obtain⟨t,rfl⟩:=rx;cases ry;exact add_int_bool ⟨.int _,H,I.tok _,⟨_,rfl⟩,q⟩
end
section
theorem z1u:OpR X (compareOp .Lt) (rI0 λi j=> .bl (decide (i < j))):=z0C λ_ _ _ _ _ _ _ q=>lt_int q
theorem z1v:OpR X (compareOp .LtE) (rI0 λi j=> .bl (decide (i<=j))):=z0C λ_ _ _ _ _ _ _ q=>le_int q
theorem z1w:OpR X (compareOp .Gt) (rI0 λi j=> .bl (decide (j < i))):=z0C λ_ _ _ _ _ _ _ q=>gt_int q
theorem z1x:OpR X (compareOp .GtE) (rI0 λi j=> .bl (decide (j<=i))):=z0C λ_ _ _ _ _ _ _ q=>ge_int q
theorem j5 (b:Expr)(h:op ≠ .In:=by decide)(h2:op ≠ .NotIn:=by decide):behindInMarks op b=false:=by
 have e1:(op == CmpOp.In)=false:=by cases op <;> first | rfl | exact absurd rfl h
 have e2:(op == CmpOp.NotIn)=false:=by cases op <;> first | rfl | exact absurd rfl h2
 cases b <;> simp[behindInMarks,e1,e2]
theorem Y5 (ho:OpR X (compareOp op) r)(ha:PE X a ta)(hb:PE X b tb)(hm:behindInMarks op b=false):PE X (.Compare a [op] [b] pos) (tOp r ta tb):=by
 intro pins s σ H Q I h;exact wpAny_Compare1 (z1s ha hb I h λv u s2 x y H2 I2 rx ry q=>ho _ s2 σ H2 x y v u Q I2 rx ry q) hm
def Ku (t:TE):TT:=λσ H Q=>t σ H λx H' =>∃k,x= .bl k/\Q k H'
theorem Y6 (ho:OpR X (compareOp op) r)(ha:PE X a ta)(hb:PE X b tb)(hm:behindInMarks op b=false):PT X (.Compare a [op] [b] pos) (Ku (tOp r ta tb)):=by
 intro pins s σ H Q I h;refine wpAny_isTrue_Compare1 (thn (ha _ s σ H _ I h) λv s1 ⟨x,H1,I1,r1,q1⟩=>thn (hb _ s1 σ H1 _ I1 q1) λu s2 ⟨y,H2,I2,r2,q2⟩=>
  thn (ho _ s2 σ H2 x y v u _ I2 r1 r2 q2) λc s3 ⟨z,H3,I3,r3,k,e,q3⟩=> ?_) hm
 subst e;cases r3;exact aY ⟨H3,I3,q3⟩
def VL (r r' :R2)(ta tb tc:TE):TE:=λσ H Q=>ta σ H λx H1=>tb σ H1 λy H2=>r x y H2 λz H3=>∃k,z= .bl k/\
 (if k=true then tc σ H3 λw' H4=>r' y w' H4 Q else Q (.bl false) H3)
theorem vq (ho:OpR X (compareOp op) r)(ho' :OpR X (compareOp op') r')(ha:PE X a ta)(hb:PE X b tb)(hc:PE X c tc)
  (hm:lastMarks [op,op'] [b,c]=false:=by with_unfolding_all rfl):PE X (.Compare a [op,op'] [b,c] pos) (VL r r' ta tb tc):=by
 intro pins s σ H Q I h;refine Compare_chain (thn (ha _ s σ H _ I h) λv s1 ⟨x,H1,I1,r1,q1⟩=>chain_link (thn (hb _ s1 σ H1 _ I1 q1) λu s2 ⟨y,H2,I2,r2,q2⟩=>
  thn (ho _ s2 σ H2 x y v u _ I2 r1 r2 q2) λd s3 ⟨z,H3,I3,r3,k,e,q3⟩=> ?_)) hm
 subst e;cases r3;refine aY ?_;cases k with
 | false=>exact ite_ff ⟨.bl _,H3,I3,rfl,q3⟩
 | true=>exact ite_tt (chain_last (thn (hc _ s3 σ H3 _ I3 q3) λw' s4 ⟨z',H4,I4,r4,q4⟩=>ho' _ s4 σ H4 y z' u w' Q I4 r2 r4 q4))
theorem vt (ho:OpR X (compareOp op) r)(ho' :OpR X (compareOp op') r')(ha:PE X a ta)(hb:PE X b tb)(hc:PE X c tc)
  (hm:lastMarks [op,op'] [b,c]=false:=by with_unfolding_all rfl):PT X (.Compare a [op,op'] [b,c] pos) (Ku (VL r r' ta tb tc)):=by
 intro pins s σ H Q I h;refine isTrue_chain (thn (ha _ s σ H _ I h) λv s1 ⟨x,H1,I1,r1,q1⟩=>test_link (thn (hb _ s1 σ H1 _ I1 q1) λu s2 ⟨y,H2,I2,r2,q2⟩=>
  thn (ho _ s2 σ H2 x y v u _ I2 r1 r2 q2) λd s3 ⟨z,H3,I3,r3,k,e,q3⟩=> ?_)) hm
 subst e;cases r3;refine aY ?_;cases k with
 | false=>
  obtain⟨k',e',q'⟩:=q3;cases e';exact ite_ff ⟨H3,I3,q'⟩
 | true=>
  refine ite_tt (test_last (thn (hc _ s3 σ H3 _ I3 q3) λw' s4 ⟨z',H4,I4,r4,q4⟩=>thn (ho' _ s4 σ H4 y z' u w' _ I4 r2 r4 q4) λd' s5 ⟨z2,H5,I5,r5,k2,e2,q5⟩=> ?_));subst e2;cases r5;exact aY ⟨H5,I5,q5⟩
def TruV (K:aa)(x:V)(H:Hp)(k:Bool):Prop:=
 match x with
 | .non=>k=false
 | .bl b=>k=b
 | .int i=>k=(i != 0)
 | .str y=>y.length<=sizeLine/\k=((y.length:Int) != 0)
 | .byt y=>y.size<=sizeLine/\k=((y.size:Int) != 0)
 | .ref p=>(∃xs,SqL K H p xs/\k= !xs.isEmpty)\/(∃xs,SqT K H p xs/\k= !xs.isEmpty)\/∃kvs,H p=some (.dK kvs)/\k= !kvs.isEmpty
 | _=>False
theorem yd {κ:Type}{kvs:List (κ×V)}{vs:List (κ×Value)}(r:KV kvs vs):(!vs.isEmpty)= !kvs.isEmpty:=by
 cases r <;> rfl
theorem wu (r:zX xs its):(!its.toArray.isEmpty)= !xs.isEmpty:=by
 cases r <;> simp
theorem Wp:(sizeLine:Nat) < 2 ^ 63:=by decide
theorem Kv:TruR X (λx H Q=>∃k,TruV X.K x H k/\Q k H):=by
 intro pins s σ H x v Q I rx h;obtain⟨k,e,q⟩:=h;have hs:=bP;cases x with
 | non=>
  cases rx;have e' :k=false:=e;subst e';exact truthy_none ⟨H,I,q⟩
 | bl b=>
  cases rx;have e' :k=b:=e;subst e';exact aY ⟨H,I,q⟩
 | int i=>
  obtain⟨t,rfl⟩:=rx;have e' :k=(i != 0):=e;subst e';exact PySem.P.truthy_int ⟨H,I,q⟩
 | str y=>
  obtain⟨t,rfl⟩:=rx;obtain⟨hy,e'⟩:y.length<=sizeLine/\k=((y.length:Int) != 0):=e;subst e';exact PySem.P.truthy_str (by omega) ⟨H,I.tok _,q⟩
 | byt y=>
  obtain⟨t,rfl⟩:=rx;obtain⟨hy,e'⟩:y.size<=sizeLine/\k=((y.size:Int) != 0):=e;subst e';exact PySem.W.truthy_bytes (by omega) ⟨H,I.tok _,q⟩
 | ref p=>
  cases rx;have e' :=e;rcases e' with ⟨xs,hx,e'⟩ | ⟨xs,hx,e'⟩ | ⟨kvs,hx,e'⟩
  ·subst e';obtain⟨its,r,pl,hz⟩:=I.list hx;have hlen:=r.length;exact wpAny_truthy_list pl.isList (by simp only[aC];omega) ⟨H,I.tok _,by rw[wu r];exact q⟩
  ·subst e';obtain⟨its,r,pl,hz⟩:=I.tuple hx;have hlen:=r.length;exact truthy_tuple pl (by simp only[aC];omega) ⟨H,I.tok _,by rw[wu r];exact q⟩
  ·subst e';obtain⟨hz,hS,vs,r,m⟩:kvs.length<=sizeLine/\(p == sysModules)=false/\∃vs,KV kvs vs/\s.heap.DictOf _ p vs:=I.hok p _ hx;have hlen:=Paired.length r;exact wpAny_truthy_dict hS m (by omega) ⟨H,I.tok _,by rw[yd r];exact q⟩
 | _=>exact(e).elim
theorem vv (ha:PE X a ta)(he:∀whole,isTrue a X.env whole=(do let v ← whole;standAt a.pos;holding [v] (truthy v))):
  PT X a (λσ H Q=>ta σ H λx H' =>∃k,TruV X.K x H' k/\Q k H'):=by
 intro pins s σ H Q I h;exact isTrue_plain (thn (ha _ s σ H _ I h) λv s1 ⟨x,H1,I1,r1,q1⟩=>Kv _ s1 σ H1 x v Q I1 r1 q1) (he _)
theorem ye:OpR X (binaryOp .Add) (λx y H Q=>∃i j,x= .str i/\y= .str j/\i.length+j.length<=sizeLine/\Q (.str (i++j)) H):=by
 intro pins s σ H x y v u Q I rx ry h;obtain⟨i,j,rfl,rfl,hz,q⟩:=h;obtain⟨t,rfl⟩:=rx;obtain⟨t',rfl⟩:=ry;exact add_str (λt' tk=>⟨.str _,H,I.tok _,⟨_,rfl⟩,q⟩) hz
theorem Zt (r:zX [x] us):∃u,us=[u]/\Z4 x u:=by
 cases r with
 | cons r1 r2=>cases r2;exact⟨_,rfl,r1⟩
theorem uy (r:zX [x,y] us):∃u w',us=[u,w']/\Z4 x u/\Z4 y w' :=by
 cases r with
 | cons r1 r2=>
  cases r2 with
  | cons r3 r4=>cases r4;exact⟨_,_,rfl,r1,r3⟩
theorem vw:Zc X (.builtin "abs") (λxs H Q=>∃i,xs=[.int i]/\Q (.int (if i < 0 then -i else i)) H):=by
 intro pins s σ H xs us Q I r h;obtain⟨i,rfl,q⟩:=h;obtain⟨u,rfl,t,rfl⟩:=Zt r;exact call_abs_int λu tk=>⟨.int _,H,I.tok _,⟨_,rfl⟩,q⟩
theorem Y7 (hc:X.calm=true):Zc X (.builtin "max") (λxs H Q=>∃i j,xs=[.int i,.int j]/\Q (.int (if j > i then j else i)) H):=by
 intro pins s σ H xs us Q I r h;obtain⟨i,j,rfl,q⟩:=h;obtain⟨u,w',rfl,⟨t,rfl⟩,⟨t',rfl⟩⟩:=uy r;refine max_two_ints (I.ok.hd hc) λh' tk k=>⟨_,H,I.kept k, ?_,q⟩
 by_cases hj:j > i
 ·rw[if_pos hj,if_pos hj];exact⟨_,rfl⟩
 ·rw[if_neg hj,if_neg hj];exact⟨_,rfl⟩
theorem Y8 (hc:X.calm=true):Zc X (.builtin "min") (λxs H Q=>∃i j,xs=[.int i,.int j]/\Q (.int (if j < i then j else i)) H):=by
 intro pins s σ H xs us Q I r h;obtain⟨i,j,rfl,q⟩:=h;obtain⟨u,w',rfl,⟨t,rfl⟩,⟨t',rfl⟩⟩:=uy r;refine min_two_ints (I.ok.hd hc) λh' tk k=>⟨_,H,I.kept k, ?_,q⟩
 by_cases hj:j < i
 ·rw[if_pos hj,if_pos hj];exact⟨_,rfl⟩
 ·rw[if_neg hj,if_neg hj];exact⟨_,rfl⟩
theorem Y9:Zc X (.type "int") (λxs H Q=>(∃i,xs=[.int i]/\Q (.int i) H)\/∃k,xs=[.bl k]/\Q (.int (if k then 1 else 0)) H):=by
 intro pins s σ H xs us Q I r h;rcases h with ⟨i,rfl,q⟩ | ⟨k,rfl,q⟩
 ·obtain⟨u,rfl,t,rfl⟩:=Zt r;exact call_int_int ⟨.int i,H,I,⟨_,rfl⟩,q⟩
 ·obtain⟨u,rfl,r1⟩:=Zt r;cases r1;exact call_int_bool ⟨.int _,H,I.tok _,⟨_,rfl⟩,q⟩
end
end L2
namespace L2
open PySem PySem.Spec PyProof.Rows
structure xH (h:Heap) (x dx C:Addr) (mA:Str->Option Value):Prop where
 obj:h.get? x=some (cC C dx)
 ns:h.Ns1 dx mA
 ne:dx ≠ x
theorem Ya {h:Heap}{dx:Addr}{mA:Str->Option Value}(n:h.Ns1 dx mA):∃od,h.get? dx=some od/\∀name,dP name od=some (mA name):=by
 obtain⟨o,es,ep,ho,hd,hk,_,hm⟩:=n;refine⟨o,ho,λname=> ?_⟩;have e:=hm name;unfold nsFind findBy at e;rw[← Array.find?_toList]at e;unfold dP;rw[hd];dsimp only;split
 ·rename_i y q;rw[q]at e;exact congrArg _ e
 ·rename_i q;rw[q]at e;have a:es.toList.any (·.refKey)=false:=by
   rw[hW];intro y hy;obtain⟨z,t,hkey⟩:=hk y (Array.mem_toList_iff.mp hy);simp[DictEntry.refKey,hkey]
  have a' :¬ es.toList.any (·.refKey)=true:=by rw[a];exact aG
  rw[if_neg a'];exact congrArg _ e
theorem xH.look (I:xH h x dx C mA):∃od,PySem.W.InstAt h x (cC C dx) C (some od)/\∀name,dP name od=some (mA name):=
 let ⟨od,ho,hl⟩:=Ya I.ns
 ⟨od,⟨I.obj,rfl,rfl,ho⟩,hl⟩
section
variable {prog:Program}{w:World}{A:Around}{E:Value->Shared->Prop}{s:Shared}{K:aa}{x dx C f:Addr}{mA:Str->Option Value}{name:Str}{v:Value}
theorem xI {expr:Bool}{Q:Value->Shared->Prop}(X:K.In s.heap)(I:xH s.heap x dx C mA)(hg:dr K C name=true)(hh:eA K C=true)
  (ha:bo K (.ref C) name=some none) (hv:mA name=some v) (hv' :ip v=true) (h:Q v { s with toks:=s.toks+1 }):
  wpAny (model prog w) A (getAttr (.ref x) name expr) Q E s:=by
 obtain⟨od,J,hl⟩:=I.look;exact PySem.W.get_value X J (dJ hg).1 (PySem.W.findObj_own hh ha rfl (by rw[hl,hv])) hv' h
theorem vx {pl:Sem Bool}{Q:Value×List Value->Shared->Prop}(X:K.In s.heap)(I:xH s.heap x dx C mA)(hg:dr K C name=true)
  (hf:bo K (.ref C) name=some (some (.ref f))) (ht:f7 K (.ref f)=true) (hv:mA name=none) (h:Q (.ref f,[.ref x]) s):
  wpAny (model prog w) A (getMethod (.ref x) name pl) Q E s:=by
 obtain⟨od,J,hl⟩:=I.look;exact PySem.W.method_fn X J (dJ hg).1 (dJ hg).2 hf (beq_iff_eq.mp ht) (by show (dP _ od).map _=some _;rw[hl,hv];rfl) h
theorem xJ {ns:List Str}{Q:Unit->Shared->Prop}(X:K.In s.heap)(I:xH s.heap x dx C mA)
  (hs:bo K (.ref C) "__setattr__"=some (some (.builtin "object.__setattr__"))) (hp:hZ K C=true) (ht:fv K C name=some none) (hh:eA K C=true)
  (hw:e_ mA ns) (hsz:ns.length<=sizeLine)
  (h:∀h',xH h' x dx C (λy=>if y=name then some v else mA y)->bZ dx s.heap h' ->Q () { s with heap:=h',toks:=s.toks+2 }):
  wpAny (model prog w) A (setAttr (.ref x) name v) Q E s:=by
 obtain⟨od,J,hl⟩:=I.look;refine PySem.W.set_plain X J hs (PySem.W.osa_open X J hp ht λb=> ?_);obtain⟨cd,hc,hd'⟩:=PySem.W.any_some hh;have hx:=I.obj;refine a7 (aq (a7 (a7 (wpAny_loadPart hx (a7 (PySem.W.Looks.here (PySem.W.looks_clsIn X hc) ?_))))));rw[hd'];refine aq (a7 (aq (a7 ?_)));refine wpAny_nsSet1 I.ns λh' hn2 hs2=> ?_;obtain⟨oD,esD,epD,hoD,hdD,hcD⟩:=hn2.count (e_.cons _ v hw);refine a7 (wpAny_lookBehind hoD (by rw[hdD];exact pastItsLine_dict (aA hcD (by rw[am];omega))) ?_)
 exact aq (h _ ⟨(hs2.2 _ (aS I.ne)).trans I.obj,hn2,I.ne⟩ hs2)
theorem vy {R:Result->Shared->Prop}{vs:List Value}{kw:List (Str×Value)}(X:K.In s.heap)(hm:iH K C=true)
  (hi:bo K (.ref C) "__init__"=some (some (.ref f))) (hf:PySem.W.typeIn K (.ref f)=some (.type "function"))
  (h:codeAny (model prog w) (A.under (.builtin "type.__call__" ⟨.ref C :: vs,kw⟩)) (.call (.ref f) ⟨.ref (s.heap.objs.size+1) :: vs,kw⟩) (PySem.W.InitBack (s.heap.objs.size+1) R)
   { s with heap:=(s.heap.push cH).push (cC C s.heap.objs.size) }):
  codeAny (model prog w) A (.call (.ref C) ⟨vs,kw⟩) R s:=by
 exact PySem.W.make_core (PySem.W.makes_of X hm) (PySem.W.looks_findIn X hi) (λself=>PySem.W.bind_fn X _ hf) (.inl rfl) h
end
noncomputable def putF (f:Str)(v:V):List (Str×V)->List (Str×V)
 | []=>[(f,v)]
 | (g,x) :: r=>if g=f then (g,v) :: r else (g,x) :: putF f v r
theorem lookup_putF (f g:Str)(v:V):∀fs:List (Str×V),(putF f v fs).lookup g=if g=f then some v else fs.lookup g
 | []=>by
  show d4 g [(f,v)]=_
  by_cases h:g=f
  ·have hb:=beq_iff_eq.mpr h;simp only[d4,hb,if_pos h]
  ·have hb:=beq_eq_false_iff_ne.mpr h;simp only[d4,hb,if_neg h]
 | (k,x) :: r=>by
  have ih:=lookup_putF f g v r;rw[show putF f v _=(if k=f then (k,v) :: r else (k,x) :: putF f v r) from rfl]
  by_cases hk:k=f
  ·rw[if_pos hk]
   by_cases h:g=k
   ·have hb:=beq_iff_eq.mpr h;simp only[d4,hb,if_pos (h.trans hk)]
   ·have hb:=beq_eq_false_iff_ne.mpr h;simp only[d4,hb,if_neg (λe:g=f=>h (e.trans hk.symm))]
  ·rw[if_neg hk]
   by_cases h:g=k
   ·have hb:=beq_iff_eq.mpr h;simp only[d4,hb,if_neg (λe=>hk (h.symm.trans e))]
   ·have hb:=beq_eq_false_iff_ne.mpr h;simp only[d4,hb];exact ih
theorem JC (f:Str)(v:V):∀fs:List (Str×V),f∈(putF f v fs).map (·.1)/\∀g,g∈fs.map (·.1)->g∈(putF f v fs).map (·.1)
 | []=>⟨by simp[putF],λg h=>by simp at h⟩
 | (k,x) :: r=>by
  obtain⟨i1,i2⟩:=JC f v r;rw[show putF f v _=(if k=f then (k,v) :: r else (k,x) :: putF f v r) from rfl]
  by_cases hk:k=f
  ·subst hk;exact⟨by simp,λg h=>by simpa using h⟩
  ·rw[if_neg hk];refine⟨?_,λg h=> ?_⟩
   ·exact a8 _ i1
   ·rcases ak.mp h with e | e
    ·exact ak.mpr (.inl e)
    ·exact a8 _ (i2 g e)
theorem JD (f:Str)(v:V):∀fs:List (Str×V),(putF f v fs).length<=fs.length+1
 | []=>by simp[putF]
 | (k,x) :: r=>by
  have ih:=JD f v r;rw[show putF f v _=(if k=f then (k,v) :: r else (k,x) :: putF f v r) from rfl]
  by_cases hk:k=f
  ·rw[if_pos hk,am,am];omega
  ·rw[if_neg hk,am,am];omega
theorem vm.some_of (r:vm (some v) o):∃u,o=some u/\Z4 v u:=by
 cases o with
 | none=>exact(r).elim
 | some u=>exact⟨u,rfl,r⟩
theorem vm.none_of (r:vm none o):o=none:=by
 cases o with
 | none=>rfl
 | some u=>exact(r).elim
theorem Yb (r:Z4 v u):ip u=true:=by
 cases v with
 | non=>cases (r);rfl
 | bl b=>cases (r);rfl
 | int i=>obtain⟨t,e⟩:=(r);cases e;rfl
 | str x=>obtain⟨t,e⟩:=(r);cases e;rfl
 | byt b=>obtain⟨t,e⟩:=(r);cases e;rfl
 | flt b=>obtain⟨t,e⟩:=(r);cases e;rfl
 | ref a=>cases (r);rfl
 | ty n=>cases (r);rfl
section
theorem wO (hok:HOk P w H h)(e:H a=some (.ins C dx fs)):∃mA,xH h a dx C mA/\(∀f,vm (fs.lookup f) (mA f))/\e_ mA (fs.map (·.1))/\fs.length<=1000/\H dx=some (.own a):=by
 obtain⟨d,z,ne,ob,mA,n,r,q⟩:=(show Z5 P w H h a _ from hok a _ e);exact⟨mA,⟨ob,n,ne⟩,r,q,z,d⟩
end
structure Cls (K:aa) (C:Addr):Prop where
 pg:dr K C Str.empty=true
 hd:eA K C=true
 po:hZ K C=true
 sa:bo K (.ref C) "__setattr__"=some (some (.builtin "object.__setattr__"))
theorem Cls.get {K:aa}{C:Addr}(c:Cls K C)(f:Str):dr K C f=true:=c.pg
noncomputable def NoAttr (K:aa)(C:Addr)(f:Str):Prop:=bo K (.ref C) f=some none
theorem NoAttr.taker {K:aa}{C:Addr}{f:Str}(n:NoAttr K C f):fv K C f=some none:=by
 unfold fv;rw[show bo K _ f=some _ from n];rfl
structure Meth (K:aa) (C:Addr) (m:Str) (f:Addr):Prop where
 at_:bo K (.ref C) m=some (some (.ref f))
 fn:f7 K (.ref f)=true
 kp:bC K (.ref f)=true
section
theorem yf (I:Inv X pins σ H s)(e:H a=some (.ins C dx fs))(c:Cls X.K C)(n:NoAttr X.K C f)(l:fs.lookup f=some v)
  (h:∀u s',Inv X pins σ H s' ->Z4 v u->Q u s'):wpAny (model X.prog X.w) A (getAttr (.ref a) f b) Q E s:=by
 obtain⟨mA,O,r,_,_,_⟩:=wO I.hok e;obtain⟨u,hu,ru⟩:=vm.some_of (by rw[← l];exact r f)
 exact xI I.kIn O (c.get f) c.hd n hu (Yb ru) (h u _ (I.tok _) ru)
theorem jQ {Q:Value×List Value->Shared->Prop}(I:Inv X pins σ H s)(e:H a=some (.ins C dx fs))(c:Cls X.K C)(k:Meth X.K C m g)(l:fs.lookup m=none)
  (h:Q (.ref g,[.ref a]) s):wpAny (model X.prog X.w) A (getMethod (.ref a) m pl) Q E s:=by
 obtain⟨mA,O,r,_,_,_⟩:=wO I.hok e;have hn:=vm.none_of (by rw[← l];exact r m)
 exact vx I.kIn O (c.get m) k.at_ k.fn hn h
theorem yg {Q:Unit->Shared->Prop}(I:Inv X pins σ H s)(e:H a=some (.ins C dx fs))(c:Cls X.K C)(n:NoAttr X.K C f)(hl:fs.length < 1000)(ry:Z4 y u)
  (h:∀s',Inv X pins σ (upd H a (.ins C dx (putF f y fs))) s' ->Q () s'):wpAny (model X.prog X.w) A (setAttr (.ref a) f u) Q E s:=by
 obtain⟨mA,O,r,wi,_,ho⟩:=wO I.hok e;have hz:(fs.map (·.1)).length<=sizeLine:=by rw[ac,bP];omega
 refine xJ I.kIn O c.sa c.po n.taker c.hd wi hz λh' O' sb=>h _ ?_;have hd:∃o,h'.get? dx=some o:=let ⟨o,_,_,e',_⟩:=O'.ns;⟨o,e'⟩;refine I.write (by rw[e];exact True.intro) (.inr ho) (λb q hb z=>(sb.2 b hb).trans z) hd ?_
 refine⟨by rw[zv O.ne];exact ho, ?_,O.ne,O'.obj,_,O'.ns,λg=> ?_,λg hg=> ?_⟩
 ·have:=JD f y fs;omega
 ·rw[lookup_putF]
  by_cases q:g=f
  ·rw[if_pos q,if_pos q];exact ry
  ·rw[if_neg q,if_neg q];exact r g
 ·by_cases q:g=f
  ·rw[q];exact(JC f y fs).1
  ·refine(JC f y fs).2 g (wi g λz=>hg ?_);show (if g=f then some u else mA g)=none
   rw[if_neg q];exact z
theorem Inv.made (I:Inv X pins σ H s):Inv X pins σ (upd (upd H s.heap.objs.size (.own (s.heap.objs.size+1))) (s.heap.objs.size+1) (.ins C s.heap.objs.size []))
  { s with heap:=(s.heap.push cH).push (cC C s.heap.objs.size) }:=by
 have e1:(s.heap.push cH).get? _=some _:=af _ rfl;have e2:=by
  have:=af (s.heap.push cH) (o:=cC C s.heap.objs.size) rfl;rwa[bg]at this
 have e3:(s.heap.push _).Ns _ (λ_=>none):=⟨cH, #[],_,e1,rfl,(λe he=>absurd he (by simp)),λ_=>rfl⟩
 have I1:=I.laid (o:= .own (s.heap.objs.size+1)) (t' :=s.toks) (λb u q=>a9 _ q) (aj _) ⟨_,e1⟩;refine I1.laid (λb u q=>a9 _ q) (h_ (bg _ _)) ?_;have ne:s.heap.objs.size ≠ s.heap.objs.size+1:=aD (bT _);refine⟨by rw[zv ne,zA],aQ _,ne,e2,λ_=>none,(Heap.Ns1.of_empty e3).at λo q=>a9 _ q,λ_=>True.intro,λy hy=>absurd rfl hy⟩
theorem xK (hb:attributeBase e f env (eval e env)=eval e env)
  (h:wpAny (model prog w) A (eval e env) (λo s₁=>wpAny (model prog w) A (getAttr o f true) Q E s₁) E s):wpAny (model prog w) A (eval (.Attribute e f pos) env) Q E s:=
 Attribute_any_ h (by rw[arm_eval_Attribute,hb])
end
def tFld (K:aa)(ta:TE)(f:Str):TE:=λσ H Q=>ta σ H λx H1=>∃a C dx fs v,x= .ref a/\H1 a=some (.ins C dx fs)/\Cls K C/\NoAttr K C f/\fs.lookup f=some v/\Q v H1
def sFld (K:aa)(ta tv:TE)(f:Str):TS:=λD σ H=>tv σ H λy H1=>ta σ H1 λx H2=>∃a C dx fs,x= .ref a/\H2 a=some (.ins C dx fs)/\Cls K C/\NoAttr K C f/\fs.length < 1000/\
 D.nx σ (upd H2 a (.ins C dx (putF f y fs)))
section
theorem U7 (he:PE X e ta)(hb:attributeBase e f X.env (eval e X.env)=eval e X.env):PE X (.Attribute e f pos) (tFld X.K ta f):=by
 intro pins s σ H Q I h;refine xK hb (thn (he _ s σ H _ I h) λu s1 ⟨x,H1,I1,rx,a,C,dx,fs,v,ex,ea,c,n,l,q⟩=> ?_);subst ex;obtain rfl:u=Value.ref a:=rx;exact yf I1 ea c n l λu' s2 I2 ru=>⟨v,H1,I2,ru,q⟩
theorem VM (ha:PE X o ta)(hv:PE X value tv)(hs:swapsWith value (some (.Attribute o f pos')) pos.line X.env=pure false):PS X (.Assign [.Attribute o f pos'] value pos) (sFld X.K ta tv f):=by
 intro pins s σ H D I h;refine plainObj_wpAny_Assign_Attribute (thn (hv _ s σ H _ I h) λu s1 ⟨y,H1,I1,ry,q⟩=>thn (ha _ s1 σ H1 _ I1 q) λov s2 ⟨x,H2,I2,rx,a,C,dx,fs,ex,ea,c,n,l,q2⟩=> ?_) hs;subst ex;obtain rfl:ov=Value.ref a:=rx;exact yg I2 ea c n l ry λs3 I3=>⟨σ,_,I3,q2⟩
theorem xL (he:PE X e te)(I:Inv X pins σ H s)
  (h:te σ H λx H1=>∃a C dx fs g,x= .ref a/\H1 a=some (.ins C dx fs)/\Cls X.K C/\Meth X.K C m g/\fs.lookup m=none/\
   ∀s1,Inv X pins σ H1 s1->wpAny (model X.prog X.w) X.A (callWith pos (.ref g) [.ref a] (backTo pos (starEach args X.env)) (backToKw pos (keywordEach [] X.env))) Q X.xe s1)
  (ht:eval (.Call (.Attribute e m apos) args [] pos) X.env=(do
   let ov ← eval e X.env
   standAt apos.atName
   let (f,first) ← holding [ov] (getMethod ov m pl)
   callWith pos f first (backTo pos (starEach args X.env)) (backToKw pos (keywordEach [] X.env)))):
  wpAny (model X.prog X.w) X.A (eval (.Call (.Attribute e m apos) args [] pos) X.env) Q X.xe s:=by
 refine dn (thn (he _ s σ H _ I h) λu s1 ⟨x,H1,I1,rx,a,C,dx,fs,g,ex,ea,c,k,l,q⟩=> ?_) ht;subst ex;obtain rfl:u=Value.ref a:=rx;exact jQ I1 ea c k l (q s1 I1)
end
section
inductive yh (K:aa) (H:Hp):V->Value->Prop where
 | non:yh K H .non (.type "NoneType")
 | bl (x:Bool):yh K H (.bl x) (.type "bool")
 | int (i:Int):yh K H (.int i) (.type "int")
 | str (x:Str):yh K H (.str x) (.type "str")
 | flt (x:UInt64):yh K H (.flt x) (.type "float")
 | lst {a:Addr} {xs:List V} (e:H a=some (.lst xs)):yh K H (.ref a) (.type "list")
 | frz {a:Addr} {o:Obj} {xs:List V} (e:H a=some (.frz o (.lst xs))):yh K H (.ref a) (.type "list")
 | tup {a:Addr} {xs:List V} (e:H a=some (.tup xs)):yh K H (.ref a) (.type "tuple")
 | dK {a:Addr} {kvs:List (Key×V)} (e:H a=some (.dK kvs)):yh K H (.ref a) (.type "dict")
 | dT {a:Addr} {kvs:List (List Key×V)} (e:H a=some (.dT kvs)):yh K H (.ref a) (.type "dict")
 | ins {a C dx:Addr} {fs:List (Str×V)} (e:H a=some (.ins C dx fs)) (cl:Cls K C) (ha:bo K (.ref C) "__class__"=some (some (.builtin "object.__class__")))
   (hn:PySem.W.specialIn K (.builtin "object.__class__") "__get__"=some (some (.builtin "getset_descriptor.__get__"))) (htk:PySem.W.takesIn K (.builtin "object.__class__")=some true)
   (hm:PySem.W.mroIn K C (.type "object")=some true):yh K H (.ref a) (.ref C)
theorem Yc (I:Inv X pins σ H s)(rx:Z4 x u)(ty:yh X.K H x t)(e:bp X.K t c=some b)(h:∀tk,Q (.bool b) { s with toks:=tk }):
  wpAny (model X.prog X.w) A (call (.builtin "isinstance") [u,c]) Q E s:=by
 cases ty with
 | non=>cases (rx);exact bu i4 I.kIn True.intro e (λz=>nomatch z) h
 | bl y=>cases (rx);exact bu i5 I.kIn True.intro e (λz=>nomatch z) h
 | int i=>obtain⟨t,q⟩:=(rx);cases q;exact bu iq I.kIn True.intro e (λz=>nomatch z) h
 | str y=>obtain⟨t,q⟩:=(rx);cases q;exact bu ir I.kIn True.intro e (λz=>nomatch z) h
 | flt y=>obtain⟨t,q⟩:=(rx);cases q;exact bu PySem.W.kitx_float I.kIn True.intro e (λz=>nomatch z) h
 | @lst a xs ea=>
  cases (rx);obtain⟨_,_,n,_,h1⟩:=(show Z5 _ X.w H _ a _ from I.hok a _ ea);exact bu d8 I.kIn ⟨_,h1,rfl⟩ e (λz=>nomatch z) h
 | @frz a ob xs ea=>
  cases (rx);obtain⟨_,_,_,n,_,h1⟩:=(show Z5 _ X.w H _ a _ from I.hok a _ ea);exact bu d8 I.kIn ⟨_,h1,rfl⟩ e (λz=>nomatch z) h
 | @tup a xs ea=>
  cases (rx);obtain⟨_,_,_,p,_⟩:=(show Z5 _ X.w H _ a _ from I.hok a _ ea);obtain⟨o,h1,h2,_⟩:=p;exact bu f_ I.kIn ⟨o,h1,h2⟩ e (λz=>nomatch z) h
 | @dK a kvs ea=>
  cases (rx);obtain⟨_,_,vs,_,p⟩:=(show Z5 _ X.w H _ a _ from I.hok a _ ea);obtain⟨o,es,ep,h1,h2,_⟩:=p;exact bu i6 I.kIn ⟨o,h1,h2.1⟩ e (λz=>nomatch z) h
 | @dT a kvs ea=>
  cases (rx);obtain⟨_,_,xs,_,o,es,ep,h1,h2,_⟩:=(show Z5 _ X.w H _ a _ from I.hok a _ ea);exact bu i6 I.kIn ⟨o,h1,h2.1⟩ e (λz=>nomatch z) h
 | @ins a C dx fs ea cl ha hn htk hm=>
  cases (rx);obtain⟨mA,O,_⟩:=wO I.hok ea;obtain⟨od,J,_⟩:=O.look;exact bu (PySem.W.kitx_own (cl.get _) cl.hd ha hn htk hm) I.kIn J e (λz=>nomatch z) h
end
end L2
namespace L2
open PySem PySem.Spec PyProof.Rows
structure ZP (k:Nat) (A:Around):Prop where
 hd:A.handled=none
 dp:A.depth+3*k+5 < recursionLimit
 un:A.units+16*k+200 < cLine
 gd:A.guards=some []
theorem ZP.mono (r:ZP k A)(h:j<=k):ZP j A:=⟨r.hd,by have:=r.dp;omega,by have:=r.un;omega,r.gd⟩
theorem ZP.deeper (r:ZP (k+1) A)(env:Env):ZP k (A.deeper env):=
 ⟨r.hd,by have:=r.dp;show A.depth+1+3*k+5 < _;omega,by have:=r.un;show A.units+3+16*k+200 < _;omega,r.gd⟩
theorem yi {A:Around}{C:Addr}{us:List Value}{kw:List (Str×Value)}:(A.under (.builtin "type.__call__" ⟨.ref C :: us,kw⟩)).depth=A.depth+1:=by
 first | rfl | simp[Around.under,Code.weight,Code.isCreation,Code.isGuard,Code.isCaller,Code.frames,i7,guardIds]
theorem yj {A:Around}{C:Addr}{us:List Value}{kw:List (Str×Value)}:(A.under (.builtin "type.__call__" ⟨.ref C :: us,kw⟩)).units=A.units+1:=by
 first | rfl | simp[Around.under,Code.cUnits,Code.frames,i7]
theorem ZP.make (r:ZP (k+1) A)(C:Addr)(us:List Value)(kw:List (Str×Value)):ZP k (A.under (.builtin "type.__call__" ⟨.ref C :: us,kw⟩)):=
 ⟨r.hd,by have:=r.dp;rw[yi];omega,by have:=r.un;rw[yj];omega,by first | exact r.gd | simpa[pushGuards] using r.gd⟩
theorem ZP.depth (r:ZP k A):A.depth < recursionLimit:=by have:=r.dp;omega
theorem ZP.units (r:ZP k A):A.units+64 < cLine:=by have:=r.un;omega
def tNil:TA:=λ_ H Q=>Q [] H
def z1y (ta:TE)(tr:TA):TA:=λσ H Q=>ta σ H λx H1=>tr σ H1 λxs H2=>Q (x :: xs) H2
section
theorem zQ:PA X [] tNil:=λ_ _ _ _ H Q I h=>i8 ⟨[],H,I,.nil,h⟩
theorem zz (ha:PE X e te)(hr:PA X es t)(hs:starEach (e :: es) X.env=(false,eval e X.env) :: starEach es X.env:=by rfl):PA X (e :: es) (z1y te t):=by
 intro pos pins s σ H Q I h;rw[hs];refine dQ (thn (ha _ s σ H _ I h) λu s1 ⟨x,H1,I1,r1,q1⟩=> ?_);exact thn (hr pos _ s1 σ H1 _ I1 q1) λus s2 ⟨xs,H2,I2,r2,q2⟩=>⟨x :: xs,H2,I2,.cons r1 r2,q2⟩
def tTup (t:TA):TE:=λσ H Q=>t σ H λxs H1=>xs.length<=sizeLine/\∀p,H1 p=none->Q (.ref p) (upd H1 p (.tup xs))
def tLst (t:TA):TE:=λσ H Q=>t σ H λxs H1=>xs.length<=sizeLine/\∀p,H1 p=none->Q (.ref p) (upd H1 p (.lst xs))
theorem VN {x1}(h:PA X es t):PE X (.Tuple es x1 pos) (tTup t):=by
 intro pins s σ H Q I hq;refine wpAny_Tuple_spliced (thn (h pos _ s σ H _ I hq) λus s1 ⟨xs,H1,I1,r,z,q⟩=>⟨by rw[← r.length];exact z, ?_⟩)
 have hf:=I1.hok.fresh (aj _);refine⟨.ref _,upd H1 _ _,I1.laid (λb u e=>a9 _ e) (aj _) ?_,rfl,q _ hf⟩;exact⟨z,us,r,⟨_,af _ rfl,rfl,_,rfl⟩,.inr ⟨_,af _ rfl,rfl⟩⟩
theorem Wq (h:PA X es t):PE X (.List es pos) (tLst t):=by
 intro pins s σ H Q I hq;refine wpAny_List_spliced (thn (h pos _ s σ H _ I hq) λus s1 ⟨xs,H1,I1,r,z,q⟩=>⟨by rw[← r.length];exact z, ?_⟩)
 have hf:=I1.hok.fresh (aj _);refine⟨.ref _,upd H1 _ _,I1.laid (λb u e=>a9 _ e) (aj _) ?_,rfl,q _ hf⟩;exact⟨z,us,0,r,af _ rfl⟩
end
abbrev Sp:=List V->Hp->VK->XK->Prop
abbrev CXT:=List Env->Hp->Shared->XK->Value->Shared->Prop
structure xM (P:Program) (w:World) (K:aa) (mg:Str->Option Value) (base:Heap) (A:Around) (outer:List Env) (s:Shared) (H:Hp):Prop where
 frames:A.frames=some outer
 mod:Mod K mg base
 bs:∀b o,base.get? b=some o->s.heap.get? b=some o/\H b=none
 bsz:base.objs.size<=s.heap.objs.size
 funs:s.heap.FunFrames base outer
 frf:∀b∈frs outer,H b=none
 hok:HOk P w H s.heap
 bare:AllBare s.gens
def CE (outer:List Env)(P:Program)(w:World)(H:Hp)(s:Shared)(Q:VK)(u:Value)(s' :Shared):Prop:=
 ∃v H',s'.os=s.os/\AllBare s'.gens/\Un (frs outer) [] H H' s.heap s'.heap/\HOk P w H' s'.heap/\Z4 v u/\Q v H'
def CR (CX:CXT)(outer:List Env)(P:Program)(w:World)(H:Hp)(s:Shared)(Q:VK)(E:XK)(r:Result)(s' :Shared):Prop:=
 match r with
 | .ok (.ret u)=>CE outer P w H s Q u s'
 | .ok _=>False
 | .error e=>CX outer H s E e s'
structure jq (P:Program) (w:World) (K:aa) (mg:Str->Option Value) (base:Heap) (CX:CXT) (k:Nat) (f:Addr) (fd:FuncData) (ps:List Str) (sp:Sp):Prop where
 len:∀vs H Q E,sp vs H Q E->vs.length=ps.length
 run:∀(A:Around) (outer:List Env) (s:Shared) (H:Hp) (args:Args) (us:List Value) (vs:List V) (Q:VK) (E:XK),ZP k A->xM P w K mg base A outer s H->BindsTo s fd args (ps.zip us)->zX vs us->sp vs H Q E->
  codeAny (model P w) A (.call (.ref f) args) (CR CX outer P w H s Q E) s
theorem xM.make {P:Program}{w:World}{K:aa}{mg:Str->Option Value}{base:Heap}{A:Around}{outer:List Env}{s:Shared}{H:Hp}(e:xM P w K mg base A outer s H)(C:Addr)(us:List Value)(kw:List (Str×Value)):
  xM P w K mg base (A.under (.builtin "type.__call__" ⟨.ref C :: us,kw⟩)) outer s H:=⟨by first | exact e.frames | (simpa[i7] using e.frames),e.mod,e.bs,e.bsz,e.funs,e.frf,e.hok,e.bare⟩
section
theorem Inv.env0 (I:Inv X pins σ H s):xM X.prog X.w X.K X.mg X.base X.A X.stack s H:=
 ⟨I.ok.frames,I.ok.mod,I.bs,aA I.ok.bsz I.sz,I.stack,I.stkFree,I.hok,I.bare⟩
theorem Inv.after (I:Inv X pins σ H s)(h:CE X.stack X.prog X.w H s Q u s'):EP X pins σ Q u s' :=by
 obtain⟨v,H',os,bare,un,hok,r,q⟩:=h;obtain⟨hh,g,d,t,os'⟩:=s';obtain rfl:os' =s.os:=os;exact⟨v,H',I.call un hok bare (λb z=>absurd z (by simp)),r,q⟩
end
def z1z (sp:Sp)(dvs:List V)(E:XK)(t:TA):TE:=λσ H Q=>t σ H λvs H1=>sp (vs++dvs) H1 Q E
def Kw (C:Addr)(m:Str)(sp:Sp)(dvs:List V)(E:XK)(ta:TE)(t:TA):TE:=λσ H Q=>ta σ H λx H1=>∃a dx fs,x= .ref a/\H1 a=some (.ins C dx fs)/\fs.lookup m=none/\
 t σ H1 λvs H2=>sp (x :: (vs++dvs)) H2 Q E
def z1A (C:Addr)(sp:Sp)(dvs:List V)(E:XK)(t:TA):TE:=λσ H Q=>t σ H λvs H1=>∀x dx,H1 x=none->H1 dx=none->dx ≠ x->
 sp (.ref x :: (vs++dvs)) (upd (upd H1 dx (.own x)) x (.ins C dx [])) (λv H2=>v= .non/\Q (.ref x) H2) E
noncomputable def Binds (K:aa)(fd:FuncData)(ps:List Str)(ds:List Value):Prop:=
 ∀(s:Shared) (us:List Value),K.In s.heap->(us++ds).length=ps.length->BindsTo s fd ⟨us,[]⟩ (ps.zip (us++ds))
theorem Binds.all {K:aa}{fd:FuncData}{ps:List Str}(h:∀us:List Value,us.length=ps.length->bindArgs fd ⟨us,[]⟩=pure (ps.zip us)):Binds K fd ps []:=λs us _ hl=>by
 rw[aW]at hl ⊢;exact .of_eq (h us hl)
def Zo (CX:CXT)(X:Cx)(E:XK):Prop:=∀(pins:List (Addr×Obj)) (σ:St) (H:Hp) (s:Shared) (e:Value) (s' :Shared),Inv X pins σ H s->CX X.stack H s E e s' ->X.xe e s'
section
theorem Yd (F:jq X.prog X.w X.K X.mg X.base CX k f fd ps sp)(hr:ZP k X.A)(hb:Binds X.K fd ps ds)(hd:zX dvs ds)(hx:Zo CX X E)
  (I:Inv X pins σ H s) (r:zX vs us) (h:sp (vs++dvs) H Q E):wpAny (model X.prog X.w) X.A (call (.ref f) us) (EP X pins σ Q) X.xe s:=by
 have r2:=r.append hd;have hl:(us++ds).length=ps.length:=by rw[← r2.length];exact F.len _ _ _ _ h
 refine wpAny_call (d9 (F.run X.A _ s H _ _ _ Q E hr I.env0 (hb s us I.kIn hl) r2 h) λr s' hq=> ?_);cases r with
 | error e=>exact hx _ σ H s e s' I hq
 | ok fl=>
  cases fl with
  | ret u=>exact I.after hq
  | next=>exact bN hq
  | brk=>exact bN hq
  | cont=>exact bN hq
theorem Ye (F:jq X.prog X.w X.K X.mg X.base CX k f fd ps sp)(hr:ZP k X.A)(hg:Gl X x)(hm:X.mg x=some (.ref f))(hk:bC X.K (.ref f)=true)(hb:Binds X.K fd ps ds)(hd:zX dvs ds)(hx:Zo CX X E)
  (ha:PA X (e :: es) t) (hdb:(x == ("__debug__":Str))=false:=by decide) (he:starEach (e :: es) X.env=(false,eval e X.env) :: starEach es X.env:=by rfl) (hpl:(backTo pos (starEach es X.env)).any (·.1)=false:=by rfl):
  PE X (.Call (.Name x p) (e :: es) [] pos) (z1z sp dvs E t):=by
 intro pins s σ H Q I h;refine bU (uv I hg hm ?_ hdb);refine dR I.ok.mod.kin hk (thn (ha pos _ s σ H _ I h) λus s1 ⟨vs,H1,I1,r,q⟩=>⟨I1.kIn, ?_⟩) he hpl;exact Yd F hr hb hd hx I1 r q
theorem Yf (he:PE X o ta)(c:Cls X.K C)(hm:Meth X.K C m f)(F:jq X.prog X.w X.K X.mg X.base CX k f fd ps sp)(hr:ZP k X.A)(hb:Binds X.K fd ps ds)(hd:zX dvs ds)(hx:Zo CX X E)(ha:PA X (e :: es) t)
  (hst:starEach (e :: es) X.env=(false,eval e X.env) :: starEach es X.env:=by rfl) (hpl:(backTo pos (starEach es X.env)).any (·.1)=false:=by rfl)
  (ht:eval (.Call (.Attribute o m apos) (e :: es) [] pos) X.env=(do
   let ov ← eval o X.env
   standAt apos.atName
   let (f,first) ← holding [ov] (getMethod ov m pl)
   callWith pos f first (backTo pos (starEach (e :: es) X.env)) (backToKw pos (keywordEach [] X.env))):=by rfl):
  PE X (.Call (.Attribute o m apos) (e :: es) [] pos) (Kw C m sp dvs E ta t):=by
 intro pins s σ H Q I h;refine dn (thn (he _ s σ H _ I h) λu s1 ⟨x,H1,I1,rx,a,dx,fs,ex,ea,l,q⟩=> ?_) ht;subst ex;obtain rfl:u=Value.ref a:=rx;refine jQ I1 ea c hm l ?_;refine dR I.ok.mod.kin hm.kp (thn (ha pos _ s1 σ H1 _ I1 q) λus s2 ⟨vs,H2,I2,r,q2⟩=>⟨I2.kIn, ?_⟩) hst hpl;exact Yd (vs:= .ref a :: vs) F hr hb hd hx I2 (.cons rfl r) q2
theorem vz (he:PE X o ta)(c:Cls X.K C)(hm:Meth X.K C m f)(F:jq X.prog X.w X.K X.mg X.base CX k f fd ps sp)(hr:ZP k X.A)(hb:Binds X.K fd ps ds)(hd:zX dvs ds)(hx:Zo CX X E)
  (ht:eval (.Call (.Attribute o m apos) [] [] pos) X.env=(do
   let ov ← eval o X.env
   standAt apos.atName
   let (f,first) ← holding [ov] (getMethod ov m pl)
   callWith pos f first (backTo pos (starEach [] X.env)) (backToKw pos (keywordEach [] X.env))):=by rfl):
  PE X (.Call (.Attribute o m apos) [] [] pos) (Kw C m sp dvs E ta tNil):=by
 intro pins s σ H Q I h;refine dn (thn (he _ s σ H _ I h) λu s1 ⟨x,H1,I1,rx,a,dx,fs,ex,ea,l,q⟩=> ?_) ht;subst ex;obtain rfl:u=Value.ref a:=rx;refine jQ I1 ea c hm l ?_;exact PySem.W.callWith_K0 I1.kIn hm.kp (Yd (vs:=[.ref a]) F hr hb hd hx I1 (.cons rfl .nil) q)
structure Mk (K:aa) (C f:Addr):Prop where
 makes:iH K C=true
 init:bo K (.ref C) "__init__"=some (some (.ref f))
 fn:f7 K (.ref f)=true
 kp:bC K (.ref C)=true
theorem vA (M:Mk X.K C f)(F:jq X.prog X.w X.K X.mg X.base CX k f fd ps sp)(hr:ZP (k+1) X.A)(hb:Binds X.K fd ps ds)(hd:zX dvs ds)
  (hx:Zo CX X E) (I:Inv X pins σ H s) (r:zX vs us)
  (h:∀x dx,H x=none->H dx=none->dx ≠ x->sp (.ref x :: (vs++dvs)) (upd (upd H dx (.own x)) x (.ins C dx [])) (λv H2=>v= .non/\Q (.ref x) H2) E):
  wpAny (model X.prog X.w) X.A (call (.ref C) us) (EP X pins σ Q) X.xe s:=by
 have hq:=h _ _ (I.hok.fresh (dB _)) (I.hok.fresh (aj _)) (aD (bT _));have I2:=Inv.made (C:=C) I;have r2:zX (V.ref (s.heap.objs.size+1) :: (vs++dvs)) _:= .cons rfl (r.append hd);have hl:=by
  have e:=r2.length;rw[F.len _ _ _ _ hq]at e;exact e.symm
 refine wpAny_call (vy I.kIn M.makes M.init (beq_iff_eq.mp M.fn) (d9 (F.run _ _ _ _ _ _ _ _ E (hr.make C us [])
  (I2.env0.make C us []) (hb _ _ I2.kIn hl) r2 hq) λr s' hq' => ?_))
 cases r with
 | error e=>exact hx _ σ _ _ e s' I2 hq'
 | ok fl=>
  cases fl with
  | ret u=>
   obtain⟨v,H',I3,rv,ev,q3⟩:=I2.after hq';subst ev;exact⟨rv,⟨V.ref _,H',I3,rfl,q3⟩⟩
  | next=>exact bN hq'
  | brk=>exact bN hq'
  | cont=>exact bN hq'
theorem xN (M:Mk X.K C f)(F:jq X.prog X.w X.K X.mg X.base CX k f fd ps sp)(hr:ZP (k+1) X.A)(hg:Gl X x)(hm:X.mg x=some (.ref C))(hb:Binds X.K fd ps ds)(hd:zX dvs ds)(hx:Zo CX X E)
  (ha:PA X (e :: es) t) (hdb:(x == ("__debug__":Str))=false:=by decide) (he:starEach (e :: es) X.env=(false,eval e X.env) :: starEach es X.env:=by rfl) (hpl:(backTo pos (starEach es X.env)).any (·.1)=false:=by rfl):
  PE X (.Call (.Name x p) (e :: es) [] pos) (z1A C sp dvs E t):=by
 intro pins s σ H Q I h;refine bU (uv I hg hm ?_ hdb);refine dR I.ok.mod.kin M.kp (thn (ha pos _ s σ H _ I h) λus s1 ⟨vs,H1,I1,r,q⟩=>⟨I1.kIn, ?_⟩) he hpl;exact vA M F hr hb hd hx I1 r q
end
section
variable {kws:List Keyword}{nm:Option Str}
variable {g:List Value->List Value->List Value}{gV:List V->List V->List V}
end
structure ZY (N P:List Str) (sc:Scope):Prop where
 kind:sc.kind= .function
 co:sc.isCoroutine=false
 gen:sc.isGenerator=false
 nd:N.Nodup
 pre:N.take P.length=P
 par:∀x∈P,sc.names.lookup x=some .local\/sc.names.lookup x=some .cell
 nofree:∀y∈sc.names,y.2 ≠ .free
theorem Wr {kindOf:Str->Option NameKind}{x:Str}:∀{binds:List (Str×Value)} {m:Str->Option Value},(∀v,(x,v) ∉ binds)->bindL kindOf binds m x=m x
 | [],_,_=>rfl
 | (n,v) :: r,m,h=>by
  unfold bindL;rw[Wr λw hw=>h w (a8 _ hw)];split
  ·have:x ≠ n:=by rintro rfl;exact h v ab
   simp[this]
  ·rfl
theorem Ws {kindOf:Str->Option NameKind}{x:Str}:∀{binds:List (Str×Value)} {m:Str->Option Value},(∀v,(x,v) ∉ binds)->bindC kindOf binds m x=m x
 | [],_,_=>rfl
 | (n,v) :: r,m,h=>by
  unfold bindC;rw[Ws λw hw=>h w (a8 _ hw)];split
  ·rfl
  ·have:x ≠ n:=by rintro rfl;exact h v ab
   simp[this]
theorem Wt {kindOf:Str->Option NameKind}{x:Str}{v:Value}:∀{P:List Str} {vs:List Value} {i:Nat} {m:Str->Option Value},P.Nodup->P[i]? =some x->vs[i]? =some v->kindOf x=some .local->
  bindL kindOf (P.zip vs) m x=some v
 | [],_,_,_,_,h,_,_=>by simp at h
 | _ :: _,[],_,_,_,_,h,_=>by simp at h
 | p :: P,w :: vs,0,m,nd,h1,h2,hk=>by
  simp at h1 h2;subst h1;subst h2;show bindL _ ((p,w) :: P.zip vs) m p=_;unfold bindL;rw[Wr λv hv=>(cX.mp nd).1 (cY hv).1,if_pos hk];simp
 | p :: P,w :: vs,i+1,m,nd,h1,h2,hk=>by
  show bindL _ ((p,w) :: P.zip vs) m x=_;exact Wt (cX.mp nd).2 (by simpa using h1) (by simpa using h2) hk
theorem Wu {kindOf:Str->Option NameKind}{x:Str}{v:Value}:∀{P:List Str} {vs:List Value} {i:Nat} {m:Str->Option Value},P.Nodup->P[i]? =some x->vs[i]? =some v->kindOf x ≠ some .local->
  bindC kindOf (P.zip vs) m x=some v
 | [],_,_,_,_,h,_,_=>by simp at h
 | _ :: _,[],_,_,_,_,h,_=>by simp at h
 | p :: P,w :: vs,0,m,nd,h1,h2,hk=>by
  simp at h1 h2;subst h1;subst h2;show bindC _ ((p,w) :: P.zip vs) m p=_;unfold bindC;rw[Ws λv hv=>(cX.mp nd).1 (cY hv).1,if_neg hk];simp
 | p :: P,w :: vs,i+1,m,nd,h1,h2,hk=>by
  show bindC _ ((p,w) :: P.zip vs) m x=_;exact Wu (cX.mp nd).2 (by simpa using h1) (by simpa using h2) hk
def start (N:List Str)(vs:List V):St:=vs.map some++ah (N.length - vs.length) none
def Wv (CX:CXT)(P:Program)(w:World)(K:aa)(mg:Str->Option Value)(base:Heap)(N:List Str)(qual:Str)(scope:Scope)(f:Addr)(cd:Value)(A:Around)(outer:List Env)(s:Shared)(H:Hp)(E:XK):Cx where
 prog:=P
 w:=w
 K:=K
 mg:=mg
 base:=base
 A:=A.deeper (envOfC qual scope s.heap.objs.size f cd)
 N:=N
 s₀:=s
 H₀:=H
 env:=envOfC qual scope s.heap.objs.size f cd
 outer:=outer
 stack:=envOfC qual scope s.heap.objs.size f cd :: outer
 ex:=[]
 calm:=true
 fn:=λ_=>true
 pn:=[]
 xe:=λe s' =>wpAny (model P w) (A.deeper (envOfC qual scope s.heap.objs.size f cd)) (leaving (envOfC qual scope s.heap.objs.size f cd) e) (λ_ s'' =>CX outer H s E e s'') (λe' s'' =>CX outer H s E e' s'') s'
theorem U8 {sc:Scope}{n:Nat}{x:Str}(h:sc.names.lookup x=some .cell):∃c,(cellsFrom n sc.names []).lookup x=some c:=by
 have q:=f8 _ n [] (.inl h);exact Option.isSome_iff_exists.mp q
theorem Yg {CX:CXT}{P:Program}{w:World}{K:aa}{mg:Str->Option Value}{base:Heap}{N ps:List Str}{qual:Str}{scope:Scope}{f:Addr}{cd:Value}{A:Around}{outer:List Env}{s s1:Shared}{H:Hp}{E:XK}{us:List Value}{vs:List V}
  (S:ZY N ps scope) (hd:A.handled=none) (e0:xM P w K mg base A outer s H) (hl:vs.length=ps.length) (r:zX vs us)
  (x:InCallC s s.heap.objs.size (bindL (envOfC qual scope s.heap.objs.size f cd).kindOf (ps.zip us) λ_=>none) (cellsFrom (s.heap.objs.size+1) scope.names []) (bindC (envOfC qual scope s.heap.objs.size f cd).kindOf (ps.zip us) λ_=>none) s1):
  Inv (Wv CX P w K mg base N qual scope f cd A outer s H E) [] (start N vs) H s1:=by
 have hpl:=by have:=congrArg fH S.pre;rw[cL]at this;omega
 obtain⟨h1,tk,rfl,hk⟩:=x.done;have noA:∀b,b ∉ (Wv CX P w K mg base N qual scope f cd A outer s H E).ex:=λb z=>absurd (show b∈([]:List _) from z) (by simp)
 refine⟨⟨e0.mod,S.kind,rfl,rfl,aj _,λy z c h1 h2=> ?_,λy hy=> ?_,λy c _ h=> ?_,λ_=>hd,Around.frames_deeper e0.frames,.inr ⟨rfl,rfl⟩,λb z=>absurd z (noA b),e0.bs,e0.bsz,λb _ _=>noA b,λb z=>absurd z (noA b),e0.funs,e0.frf⟩,
  rfl,e0.bare,Un.kept hk,⟨_,x.toInCall.ns,λi y v h1 h2 h3=> ?_⟩,λy c h=>⟨_,x.cell y c h⟩,e0.hok.fresh (aj _),λy c h=> ?_,λp hp=>absurd (show p∈([]:List _) from hp) (by simp),e0.hok.kept hk, ?_⟩
 ·exact name_of_addr x.apart (bz h1) (bz h2)
 ·rcases hy with hy | hy
  ·exact U8 hy
  ·exact absurd rfl (S.nofree _ (bz hy))
 ·exact f6 (x.above y c (bz h))
 ·have hi:i < vs.length:=by
   unfold start at h2
   by_cases hi:i < vs.length
   ·exact hi
   ·rw[av (by simpa using hi)]at h2
    rw[aO]at h2;split at h2 <;> cases h2
  have ha:vs[i]? =some v:=by
   unfold start at h2;rw[ax (by simpa using hi),ar]at h2
   cases e:vs[i]? with
   | none=>rw[e]at h2;cases h2
   | some a=>rw[e]at h2;cases h2;rfl
  obtain⟨u,hu,rv⟩:=r.get ha;have hp:ps[i]? =some y:=by
   rw[← S.pre,List.getElem?_take_of_lt (by omega)];exact h1
  have ndP:ps.Nodup:=by rw[← S.pre];exact S.nd.sublist (List.take_sublist _ _)
  refine⟨u,rv, ?_⟩;rcases S.par y (b_ hp) with k | k
  ·exact .inl ⟨k,Wt ndP hp hu k⟩
  ·obtain⟨c,e⟩:=U8 k;refine .inr ⟨.inl k,c,e, ?_⟩;have q:=x.cell y c e;rw[Wu ndP hp hu (by show scope.names.lookup y ≠ _;rw[k];decide)]at q
   exact q
 ·exact e0.hok.fresh (f6 (x.above y c (bz h)))
 ·unfold start;show _=N.length;rw[az,ac,aP];omega
theorem Kx {CX:CXT}{P:Program}{w:World}{K:aa}{mg:Str->Option Value}{base:Heap}{k:Nat}{f:Addr}{name qual:Str}{params:Arguments}{body:List Stmt}{scope:Scope}{dV kV doc pm cdv ct oc:Value}{an od:Option Addr}
  {osl:Array (Option Value)} {N ps:List Str} {sp:Sp} (lk:K.lookup f=some ⟨oc,od,.func (bw name qual params body scope dV kV doc pm an cdv ct),osl⟩) (hcd:db K cdv qual=true) (S:ZY N ps scope)
  (len:∀vs H Q E,sp vs H Q E->vs.length=ps.length)
  (hbody:∀(A:Around) (outer:List Env) (s:Shared) (H:Hp) (vs:List V) (Q:VK) (E:XK),ZP k (A.deeper (envOfC qual scope s.heap.objs.size f cdv))->sp vs H Q E->
   ∃t,PSs (Wv CX P w K mg base N qual scope f cdv A outer s H E) body t/\t { nx:=λ_ H' =>Q .non H',rt:=Q } (start N vs) H):
  jq P w K mg base CX (k+1) f (bw name qual params body scope dV kV doc pm an cdv ct) ps sp:=by
 refine⟨len,λA outer s H args us vs Q E hr e0 hb r hsp=> ?_⟩;have hl:=len _ _ _ _ hsp;have KX:=e0.mod.kin.keeps λb o e=>(e0.bs b o e).1;have lim:=e0.mod.nolimit.keeps λb o e=>(e0.bs b o e).1;have hkind:∀y∈ps.zip us,scope.names.lookup y.1=some _\/(scope.names.lookup y.1=some _/\((cellsFrom (s.heap.objs.size+1) _ []).lookup y.1).isSome=true):=λ⟨n,v⟩ hy=>by
  rcases S.par n (cY hy).1 with q | q
  ·exact .inl q
  ·exact .inr ⟨q,f8 _ _ _ (.inl q)⟩
 refine codeAny_call_function hr.depth (KX _ _ lk) rfl S.co S.gen rfl (PySem.W.codeRec_of KX hcd) (hb _ _ _ _ ?_);refine wpAny_newFunctionEnv_cells S.kind hkind λenv he s1 x=> ?_;subst he;refine⟨lim.keeps x.toInCall.keep,codeAny_func ?_⟩;obtain⟨t,ht,hq⟩:=hbody A _ s H vs Q E (hr.deeper _) hsp;have I:Inv (Wv CX P w K mg _ N _ _ f cdv A _ s H E) [] _ H s1:=Yg S hr.hd e0 hl r x;refine dq (ht [] s1 _ H _ I hq) (λfl s' hs=> ?_) λe s' hs=>hs;have fin:∀{σ' :St} {H' :Hp} {v:V} {u:Value},Inv (Wv CX P w K mg base N qual scope f cdv A outer s H E) [] σ' H' s' ->Z4 v u->Q v H' ->CE _ P w H s Q u s' :=
  λ{σ' H' v u} J rv q=>⟨v,H',J.os,J.bare,J.base,J.hok,rv,q⟩
 cases fl with
 | ret u=>
  obtain⟨v,σ',H',J,rv,q⟩:=hs;exact fin J rv q
 | next=>
  obtain⟨σ',H',J,q⟩:=hs;exact fin (v:=V.non) J rfl q
 | brk=>
  obtain⟨_,_,_,q⟩:=hs;exact bN q
 | cont=>
  obtain⟨_,_,_,q⟩:=hs;exact bN q
end L2
namespace L2
open PySem PySem.Spec PyProof.Rows
section
variable {X:Cx}{x:Str}{p pos:Pos}{e:Expr}{es:List Expr}{t:TA}{id T:String}{r:List V->Hp->VK->Prop}
def tCB (r:List V->Hp->VK->Prop)(t:TA):TE:=λσ H Q=>t σ H λvs H1=>r vs H1 Q
theorem ZF (hc:Zc X (.builtin id) r)(hg:Gl X x)(hm:X.mg x=none)(hv:bootBuiltins x=some (.builtin id))(ha:PA X (e :: es) t)(hn:x ≠ "__name__":=by decide)(hdb:(x == ("__debug__":Str))=false:=by decide)
  (he:starEach (e :: es) X.env=(false,eval e X.env) :: starEach es X.env:=by rfl) (hpl:(backTo pos (starEach es X.env)).any (·.1)=false:=by rfl):PE X (.Call (.Name x p) (e :: es) [] pos) (tCB r t):=by
 intro pins s σ H Q I h;refine bU (j8 I hg hm hv ?_ hn hdb);exact PyProof.Rows.callWith_builtin1 (thn (ha pos _ s σ H _ I h) λus s1 ⟨vs,H1,I1,r1,q1⟩=>hc _ s1 σ H1 vs us Q I1 r1 q1) he hpl
theorem ZD (hc:Zc X (.type T) r)(hg:Gl X x)(hm:X.mg x=none)(hv:bootBuiltins x=some (.type T))(ha:PA X (e :: es) t)(hn:x ≠ "__name__":=by decide)(hdb:(x == ("__debug__":Str))=false:=by decide)
  (he:starEach (e :: es) X.env=(false,eval e X.env) :: starEach es X.env:=by rfl) (hpl:(backTo pos (starEach es X.env)).any (·.1)=false:=by rfl):PE X (.Call (.Name x p) (e :: es) [] pos) (tCB r t):=by
 intro pins s σ H Q I h;refine bU (j8 I hg hm hv ?_ hn hdb);exact aV (thn (ha pos _ s σ H _ I h) λus s1 ⟨vs,H1,I1,r1,q1⟩=>hc _ s1 σ H1 vs us Q I1 r1 q1) he hpl
end
end L2
namespace HT
open PySem PyProof.Rows
noncomputable def lexLt:List Int->List Int->Bool
 | [],[]=>false
 | [],_ :: _=>true
 | _ :: _,[]=>false
 | x :: xs,y :: ys=>if x=y then lexLt xs ys else decide (x < y)
theorem lexLt_cons (x y:Int)(xs ys:List Int):lexLt (x :: xs) (y :: ys)=if x=y then lexLt xs ys else decide (x < y):=rfl
theorem wP:lexLt [] []=false:=rfl
theorem wl (y:Int)(ys:List Int):lexLt [] (y :: ys)=true:=rfl
theorem wm (x:Int)(xs:List Int):lexLt (x :: xs) []=false:=rfl
theorem vC (A:Around)(s:Shared)(a:Int)(t:Tok)(c:Int)(u:Tok):∃e,cb A s (.int a t) (.int c u) e/\(e=true↔a=c):=
 ⟨(a == c),cb.int_int a t c u,by simp⟩
theorem vD (A:Around)(s:Shared)(a:Int)(t:Tok)(c:Int)(u:Tok)(prog:Program)(w:World)(E:Value->Shared->Prop)(Q:Value->Shared->Prop)(h:Q (.bool (decide (a < c))) s):
  wpAny (model prog w) A (richCompare .Lt (.int a t) (.int c u)) Q E s:=
 (PyProof.Rows.lt_int h:wpAny _ A _ Q E s)
section
open PySem.SeqAt
open PySem.AutoSeq1 (wpAny_loadPart')
open PySem.MeetsSeq PySem.MeetsSeq2 PySem.MeetsSeq3
theorem wQ (l b:Addr)(items items2:Array Value)(n n2:Nat)(dd dd2:Option Addr)(sl sl2:Array (Option Value))(ns ms:List Int)(hi:IntsAre items.toList ns)(hj:IntsAre items2.toList ms):
  Meets (Builtin.«tuple.__lt__» ⟨[.ref l,.ref b],[]⟩)
   (λ_ R s=>s.heap.get? l=some { cls:= .type "tuple",dict:=dd,data:= .seq items n,slots:=sl }/\s.heap.get? b=some { cls:= .type "tuple",dict:=dd2,data:= .seq items2 n2,slots:=sl2 }/\
    R (.ok (.ret (.bool (lexLt ns ms)))) s):=
 .of_wp λprog w A R s h=>by
  obtain⟨hp,g,d,tk,os⟩:=s;obtain⟨hl,hb,h⟩:=h;have f2:=AutoSeq1.sub_tuple_tuple;have z1:items.size=ns.length:=by rw[← hi.length];simp
  have z2:items2.size=ms.length:=by rw[← hj.length];simp
  wp_walk using wpAny_loadPart' hl,wpAny_loadPart' hb,wpAny_forIn_list _ (λrest b s' =>b.1=none/\s' =⟨hp,g,d,tk,os⟩/\∃(vs ws:List Value) (ns' ms' :List Int),rest=vs.zip ws/\
   IntsAre vs ns' /\IntsAre ws ms' /\ns'.length+items2.size=ms'.length+items.size/\R (.ok (.ret (.bool (lexLt ns' ms')))) ⟨hp,g,d,tk,os⟩) _
  case turn=>
   rintro⟨y,x⟩ rest b s' ⟨hb',rfl,vs,ws,ns',ms',hz,hvi,hwi,hlen,hR⟩
   cases hvi with
   | nil=>rw[List.zip_nil_left]at hz;cases hz
   | cons a t hvi' =>
    cases hwi with
    | nil=>rw[List.zip_nil_right]at hz;cases hz
    | cons c u hwi' =>
     rw[d3]at hz;injection hz with hyx hrest;injection hyx with hy hx;subst hy hx;rw[lexLt_cons]at hR;simp only[am]at hlen;obtain⟨e,he,hiff⟩:=vC A.in1 ⟨hp,g,d,tk,os⟩ a t c u;refine a7 (he prog w _ _ ?_);cases e with
     | true=>
      rw[if_pos (hiff.mp rfl)]at hR
      wp_walk
      exact⟨rfl,rfl,_,_,_,_,hrest,hvi',hwi',by omega,hR⟩
     | false=>
      rw[if_neg (λq=>absurd (hiff.mpr q) aG)]at hR;have hri:=vD A.in1 ⟨hp,g,d,tk,os⟩ a t c u prog w
      wp_walk using hri
      exact⟨_,rfl,by simpa using hR⟩
  case fin=>
   rintro⟨b1,b2⟩ s' ⟨hb',rfl,vs,ws,ns',ms',hz,hvi,hwi,hlen,hR⟩
   simp only at hb';subst hb';have hv:lexLt ns' ms' =decide (items.size < items2.size):=by
    cases hvi with
    | nil=>
     cases hwi with
     | nil=>
      simp only[bh]at hlen;rw[wP];exact(decide_eq_false (by omega)).symm
     | cons c u hw=>
      simp only[bh,am]at hlen;rw[wl];exact(decide_eq_true (by omega)).symm
    | cons a t hv=>
     cases hwi with
     | nil=>
      simp only[bh,am]at hlen;rw[wm];exact(decide_eq_false (by omega)).symm
     | cons c u hw=>
      rw[d3]at hz;cases hz
   rw[hv]at hR
   wp_walk
   exact⟨_,rfl,by simpa[Builtin.Tuple.tupleCompareSizes] using hR⟩
  case h=>
   exact⟨rfl,rfl,items.toList,items2.toList,ns,ms,rfl,hi,hj,by omega,h⟩
end
section
theorem lt_tupInts (hl:IsTup s.heap l items)(hb:IsTup s.heap b items2)(hi:IntsAre items.toList ns)(hj:IntsAre items2.toList ms)
  (hu:A.units < cLine) (h:Q (.bool (lexLt ns ms)) s):wpAny (model prog w) A (compareOp .Lt (.ref l) (.ref b)) Q E s:=by
 obtain⟨⟨cls,dd,data,sl⟩,ho,hc,n,hd⟩:=id hl;obtain⟨⟨cls2,dd2,data2,sl2⟩,ho2,hc2,n2,hd2⟩:=id hb;subst hc hd hc2 hd2;exact richCompare_meets_room (op:= .Lt) ⟨_,ho,rfl⟩ ⟨_,ho2,rfl⟩ PySem.F.slot_tuple_lt PySem.F.entry_tuple_lt (PySem.F.args_tuple_lt_2 _ _) (wQ l b _ _ n n2 dd dd2 sl sl2 ns ms hi hj)
  ⟨ho,ho2,show Value.bool _ ≠ Value.notImplemented/\Q _ s from ⟨(λx=>nomatch x),h⟩⟩ hu
theorem cat_tup (ht:IsTup s.heap t vs.toArray)(hb:IsTup s.heap b ws.toArray)(hv:vs ≠ [])
  (h1:ws=[]->Q (.ref t) s) (h2:ws ≠ []->Q (.ref s.heap.objs.size) { s with heap:=s.heap.push { cls:= .type "tuple",data:= .seq (vs++ws).toArray } })
  (hsz:vs.length+ws.length<=sizeLine):wpAny (model prog w) A (binaryOp .Add (.ref t) (.ref b)) Q E s:=by
 obtain⟨⟨cls,dd,data,sl⟩,ho,hc,n,hd⟩:=id ht;obtain⟨⟨cls2,dd2,data2,sl2⟩,ho2,hc2,n2,hd2⟩:=id hb;subst hc hd hc2 hd2;have e:vs.toArray++ws.toArray=(vs++ws).toArray:=by simp
 by_cases hw:ws=[]
 ·exact concat_meets ⟨_,ho,rfl⟩ ⟨_,ho2,rfl⟩ noFill_tuple_add seq_tuple_add de d5 (cT _ _)
   (tuple_addW1 t b _ _ n n2 dd dd2 sl sl2 (by simpa using hv) (by simp[hw])) ⟨ho,ho2,h1 hw⟩
 ·refine concat_meets ⟨_,ho,rfl⟩ ⟨_,ho2,rfl⟩ noFill_tuple_add seq_tuple_add de d5 (cT _ _)
   (tuple_addW2 t b _ _ n n2 dd dd2 sl sl2 (by simpa using hv) (by simpa using hw) (by exact hsz)) ⟨ho,ho2, ?_⟩
  rw[e];exact h2 hw
noncomputable def sIx (n d:Nat):Option Int->Nat
 | none=>d
 | some v=>if v < 0 then (v+(n:Int)).toNat else min v.toNat n
theorem sIx_none (n d:Nat):sIx n d none=d:=rfl
theorem sIx_nat (n d k:Nat):sIx n d (some (k:Int))=min k n:=by
 show (if (k) < 0 then ((k:Int)+(n)).toNat else min _ n)=min k n
 rw[if_neg (by omega),bm]
theorem Yh (v:Int)(n d:Nat):(if v < 0 then max (v+(n:Int)) 0 else min v (n:Int))=((sIx n d (some v):Nat):Int):=by
 show (if v < 0 then max _ 0 else min v (n))=(((if v < 0 then (v+(n)).toNat else min _ n):Nat):Int)
 by_cases hv:v < 0
 ·simp only[if_pos hv];omega
 ·simp only[if_neg hv];omega
theorem yk (lo hi:Option Int)(n:Nat):dZ lo hi 1 (n:Int)=(((sIx n 0 lo:Nat):Int),((sIx n n hi:Nat):Int)):=by
 refine Prod.ext ?_ ?_
 ·cases lo with
  | none=>rfl
  | some v=>exact Yh v n 0
 ·cases hi with
  | none=>rfl
  | some v=>exact Yh v n n
theorem yl (i j:Nat):cP (i:Int) (j:Int) 1=j - i:=by
 unfold cP;split <;> omega
theorem wv {o:Option Int}{Q:Option Int->Shared->Prop}(p:IsPart v o)(h:Q o s):wpAny (model prog w) A (Builtin.Slice.slicePartIndex v) Q E s:=by
 cases p with
 | none=>exact slicePart_none h
 | int i t=>exact slicePart_int h
theorem sliceApplied_gen {lo hi:Option Int}{Q:Int×Int×Nat->Shared->Prop}(hs:s.heap.IsSliceOf sl vl vu .none)(pl:IsPart vl lo)(pu:IsPart vu hi)
  (h:Q (((sIx n 0 lo:Nat):Int),1,sIx n n hi - sIx n 0 lo) s):wpAny (model prog w) A (Builtin.Slice.sliceApplied (.ref sl) (pure (n:Int))) Q E s:=by
 obtain⟨os,hos,hcs,hds⟩:=id hs;refine a7 (a7 (b9 hos hds rfl (a7 (b9 hos hds rfl (a7 (b9 hos hds rfl (aq ?_)))))));refine a7 (slicePart_none ?_);refine a7 (wv pl (a7 (wv pu (a7 (aq ?_)))));show wpAny _ _ (match dZ lo hi 1 _ with | (lo,hi)=>pure (lo,(1:Int),cP lo hi 1)) _ _ s
 rw[yk lo hi n];show wpAny _ _ (pure _) _ _ s;rw[yl];exact aq h
theorem vF (xs:Array Value)(i k:Nat):((a_ k).filterMap λ(m:Nat)=>xs[((i:Int)+(m:Int)*1).toNat]?).toArray=((xs.toList.drop i).take k).toArray:=by
 have e:(λ(m:Nat)=>xs[((i:Int)+(m)*1).toNat]?)=λm=>xs[i+m]? :=by
  funext m
  have:((i:Int)+(m)*1).toNat=i+m:=by omega
  rw[this]
 rw[e];have:=pick_run xs i k;rw[List.filterMap_map]at this;have e2:((λx=>xs[x]?) ∘ λx=>i+x)=λm=>xs[i+m]? :=rfl;rw[e2]at this;rw[this]
theorem getItem_tuple_cut {lo hi:Option Int}(ht:IsTup s.heap t items)(hs:s.heap.IsSliceOf sl vl vu .none)(pl:IsPart vl lo)(pu:IsPart vu hi)
  (hw:¬ (sIx items.size 0 lo=0/\sIx items.size items.size hi=items.size))
  (h:Q (.ref s.heap.objs.size) { s with heap:=s.heap.push { cls:= .type "tuple",data:= .seq ((items.toList.drop (sIx items.size 0 lo)).take (sIx items.size items.size hi - sIx items.size 0 lo)).toArray } })
  (hsz:items.size<=sizeLine):wpAny (model prog w) A (getItem (.ref t) (.ref sl)) Q E s:=by
 have htake:sizeOk (.seq ((items.toList.drop (sIx items.size 0 lo)).take (sIx items.size items.size hi - sIx items.size 0 lo)).toArray):=by
  show ((items.toList.drop _).take _).toArray.size<=sizeLine;rw[aC,cL,eO,dI];omega
 obtain⟨os,hos,hcs,hds⟩:=id hs;have hTs:s.TypeIs (.ref sl) _:=⟨os,hos,hcs⟩;unfold getItem
 try with_reducible refine bQ ?_
 refine a7 (wpAny_sequenceKey ht.typeIs (by decide) ?_)
 refine a7 (bn ht.typeIs bc
  (bH bc ht.typeIs entry_tuple_getitem ?_ (args_tuple_getitem _ _)))
 show wpAny _ _ (dS _ >>= _) _ _ s;refine a7 (tupleItemsOf_ ht ?_);refine a7 (cM hTs ?_);refine a7 (sliceApplied_gen hs pl pu ?_);have hno:¬ ((((sIx items.size 0 lo):Int) == 0 && (1:Int) == 1 && (sIx items.size items.size hi - sIx items.size 0 lo) == items.size)=true):=by
  intro q;rw[ag,ag]at q;have q1:=eq_of_beq q.1.1;have q2:=eq_of_beq q.2;exact hw ⟨by omega,by omega⟩
 show wpAny _ _ (if (((sIx _ 0 lo:Nat):Int) == 0 && (1) == 1 && (sIx _ _ hi - sIx _ 0 lo) == items.size)=true then _ else _) _ _ s
 rw[if_neg hno,vF]
 first
  | exact a7 (aZ (aq ⟨_,rfl,aq h⟩) htake)
  | exact a7 _
  | exact a7 _
  | exact a7 _
end
end HT
namespace L2
open PySem PySem.Spec PyProof.Rows
abbrev TO:=St->Hp->(Option Int->Hp->Prop)->Prop
def PO (X:Cx)(e:Option Expr)(t:TO):Prop:=
 ∀(pins:List (Addr×Obj)) (s:Shared) (σ:St) (H:Hp) (Q:Option Int->Hp->Prop),Inv X pins σ H s->t σ H Q->
  wpAny (model X.prog X.w) X.A (evalPart e X.env) (λu s' =>∃o H',Inv X pins σ H' s' /\IsPart u o/\Q o H') X.xe s
def xO:TO:=λ_ H Q=>Q none H
def z1B (t:TE):TO:=λσ H Q=>t σ H λx H1=>∃i,x= .int i/\Q (some i) H1
theorem ww {ns:List Int}:∀{us:List Value},zX (ns.map V.int) us->IntsAre us ns:=by
 induction ns with
 | nil=>intro us r;cases r;exact .nil
 | cons n ns ih=>
  intro us r;cases r with
  | cons r1 r2=>
   obtain⟨t,e⟩:=r1;subst e;exact .cons n t (ih r2)
section
variable {X:Cx}{e:Expr}{te:TE}{lo hi:Option Expr}{tl th:TO}{pos p2:Pos}
theorem xP:PO X none xO:=by
 intro pins s σ H Q I h;exact aq ⟨none,H,I,.none,h⟩
theorem xQ (h:PE X e te):PO X (some e) (z1B te):=by
 intro pins s σ H Q I hw;refine thn (h _ s σ H _ I hw) λu s1 ⟨x,H1,I1,r1,q1⟩=> ?_;obtain⟨i,rfl,q⟩:=q1;obtain⟨t,rfl⟩:=r1;exact⟨some i,H1,I1,.int i t,q⟩
def SlR (X:Cx)(r:V->Option Int->Option Int->Hp->VK->Prop):Prop:=
 ∀(pins:List (Addr×Obj)) (s:Shared) (σ:St) (H:Hp) (x:V) (v vl vu:Value) (lo hi:Option Int) (sl:Addr) (Q:VK),Inv X pins σ H s->Z4 x v->s.heap.IsSliceOf sl vl vu .none->IsPart vl lo->IsPart vu hi->r x lo hi H Q->
  ∃T id,typeLookup (.type T) "__getitem__"=pure (some (.builtin id))/\s.TypeIs v T/\wpAny (model X.prog X.w) X.A (getItem v (.ref sl)) (EP X pins σ Q) X.xe s
theorem SlR.or {r r' :V->Option Int->Option Int->Hp->VK->Prop}(h:SlR X r)(h' :SlR X r'):SlR X (λx lo hi H Q=>r x lo hi H Q\/r' x lo hi H Q):=by
 intro pins s σ H x v vl vu lo hi sl Q I rx hs pl pu q;rcases q with q | q
 ·exact h _ s σ H x v vl vu lo hi sl Q I rx hs pl pu q
 ·exact h' _ s σ H x v vl vu lo hi sl Q I rx hs pl pu q
def tSl (r:V->Option Int->Option Int->Hp->VK->Prop)(te:TE)(tl th:TO):TE:=λσ H Q=>te σ H λx H1=>tl σ H1 λl H2=>th σ H2 λu H3=>r x l u H3 Q
theorem vG {r:V->Option Int->Option Int->Hp->VK->Prop}(hr:SlR X r)(he:PE X e te)(hl:PO X lo tl)(hu:PO X hi th):PE X (.Subscript e (.Slice lo hi none p2) pos) (tSl r te tl th):=by
 intro pins s σ H Q I h;refine Subscript_ (thn (he _ s σ H _ I h) λv s1 ⟨x,H1,I1,r1,q1⟩=> ?_);refine wpAny_Slice (thn (hl _ s1 σ H1 _ I1 q1) λvl s2 ⟨l,H2,I2,pl,q2⟩=>thn (hu _ s2 σ H2 _ I2 q2) λvu s3 ⟨u,H3,I3,pu,q3⟩=> ?_);refine aq ?_;have I4:Inv X _ σ H3 { s3 with heap:=s3.heap.push { cls:= .type "slice",data:= .fields #[vl,vu,.none] } }:=I3.kept λb ob q=>a9 _ q;obtain⟨T,id,hT,ht,hg⟩:=hr _ _ σ H3 x v vl vu l u _ Q I4 r1 (Heap.IsSliceOf.new ..) pl pu q3;exact tail_any ht hT hg (by with_unfolding_all rfl)
noncomputable def kU (xs:List V)(lo hi:Option Int):List V:=(xs.drop (HT.sIx xs.length 0 lo)).take (HT.sIx xs.length xs.length hi - HT.sIx xs.length 0 lo)
theorem JE (xs:List V)(lo hi:Option Int):(kU xs lo hi).length<=xs.length:=by
 unfold kU;rw[cL,eO];omega
def rSlT (K:aa):V->Option Int->Option Int->Hp->VK->Prop:=λx lo hi H Q=>∃a xs,x= .ref a/\SqT K H a xs/\
 ¬ (HT.sIx xs.length 0 lo=0/\HT.sIx xs.length xs.length hi=xs.length)/\∀p,H p=none->Q (.ref p) (upd H p (.tup (kU xs lo hi)))
theorem Ky:SlR X (rSlT X.K):=by
 intro pins s σ H x v vl vu lo hi sl Q I rx hs pl pu h;obtain⟨a,xs,rfl,hx,hw,q⟩:=h;cases rx;obtain⟨its,r,ht,hz⟩:=I.tuple hx;have hlen:its.toArray.size=xs.length:=by exact r.length.symm
 refine⟨"tuple",_,bc.lookup,ht.typeIs, ?_⟩;refine HT.getItem_tuple_cut ht hs pl pu (by rw[hlen];exact hw) ?_ (by rw[hlen];exact hz)
 rw[hlen];refine⟨.ref _,_,I.laid (λb ob q=>a9 _ q) (aj _) ?_,rfl,q _ (I.hok.fresh (aj _))⟩;exact⟨aA (JE xs lo hi) hz,_,(r.drop _).take _,ITN.new _ _⟩
def z1C (K:aa):R2:=λx y H Q=>∃a b xs ys,x= .ref a/\y= .ref b/\SqT K H a xs/\SqT K H b ys/\xs ≠ []/\xs.length+ys.length<=sizeLine/\
 (ys=[]->Q (.ref a) H)/\(ys ≠ []->∀p,H p=none->Q (.ref p) (upd H p (.tup (xs++ys))))
theorem zX.nil_iff (r:zX xs us):us=[]↔xs=[]:=by
 cases r with
 | nil=>simp
 | cons _ _=>simp
theorem xR:OpR X (binaryOp .Add) (z1C X.K):=by
 intro pins s σ H x y v u Q I rx ry h;obtain⟨a,b,xs,ys,rfl,rfl,ha,hb,hx,hz,q1,q2⟩:=h;cases rx;cases ry;obtain⟨its,r1,p1,_⟩:=I.tuple ha;obtain⟨its2,r2,p2,_⟩:=I.tuple hb;refine HT.cat_tup p1 p2 (λz=>hx (r1.nil_iff.mp z)) (λz=>⟨.ref a,H,I,rfl,q1 (r2.nil_iff.mp z)⟩) (λz=> ?_) (by rw[← r1.length,← r2.length];exact hz)
 refine⟨.ref _,_,I.laid (λb ob q=>a9 _ q) (aj _) ?_,rfl,q2 (λw=>z (r2.nil_iff.mpr w)) _ (I.hok.fresh (aj _))⟩;exact⟨by rw[az];exact hz,_,r1.append r2,ITN.new _ _⟩
end
end L2
namespace L2
open PySem PySem.Spec PyProof.Rows
noncomputable def ixN (n:Nat)(i:Int):Option Nat:=if 0<=i then (if i < n then some i.toNat else none) else if -(n:Int)<=i then some (i+n).toNat else none
def atI {α:Type}(xs:List α)(i:Int):Option α:=(ixN xs.length i).bind λj=>xs[j]?
theorem xS (h:ixN n i=some j):seqIndex? i n=some j/\j < n/\ -(n:Int)<=i/\i < n:=by
 unfold ixN at h
 by_cases h0:0<=i
 ·rw[if_pos h0]at h
  by_cases h1:i < n
  ·rw[if_pos h1]at h;have e:=aB h;exact⟨by rw[seqIndex_of h0 h1,e],by omega,by omega,h1⟩
  ·rw[if_neg h1]at h;cases h
 ·rw[if_neg h0]at h
  by_cases h1: -(n)<=i
  ·rw[if_pos h1]at h;have e:=aB h;exact⟨by rw[seqIndex_neg (by omega) h1,e],by omega,h1,by omega⟩
  ·rw[if_neg h1]at h;cases h
theorem uz {α:Type}{xs:List α}{v:α}(h:atI xs i=some v):∃j,seqIndex? i xs.length=some j/\xs[j]? =some v/\j < xs.length/\ -(xs.length:Int)<=i/\i < xs.length:=by
 unfold atI at h;cases e:ixN _ i with
 | none=>rw[e]at h;cases h
 | some j=>
  rw[e]at h;obtain⟨h1,h2,h3,h4⟩:=xS e;exact⟨j,h1,h,h2,h3,h4⟩
theorem ZZ {α:Type}{xs:List α}{j:Nat}{v:α}(h:xs[j]? =some v):atI xs (j:Int)=some v:=by
 have hj:=(ai.mp h).1;have e:ixN xs.length (j)=some j:=by
  unfold ixN;rw[if_pos (by omega),if_pos (by omega)];simp
 unfold atI;rw[e];exact h
noncomputable def jR (b:Expr):Prop:=∀o i,subscripted b false o i=operate [o,i] (getItem o i)
def IxR (X:Cx)(r:R2):Prop:=
 ∀(value slice:Expr) (pins:List (Addr×Obj)) (s:Shared) (σ:St) (H:Hp) (x y:V) (v u:Value) (Q:VK),Inv X pins σ H s->Z4 x v->Z4 y u->r x y H Q->
  subscripted slice false v u=operate [v,u] (getItem v u)->wpAny (model X.prog X.w) X.A (subscriptTail value slice v u) (EP X pins σ Q) X.xe s
def MtR (X:Cx)(id:String)(r:V->List V->Hp->VK->Prop):Prop:=
 ∀(pins:List (Addr×Obj)) (s:Shared) (σ:St) (H:Hp) (x:V) (xs:List V) (v:Value) (us:List Value) (Q:VK),Inv X pins σ H s->Z4 x v->zX xs us->r x xs H Q->
  wpAny (model X.prog X.w) X.A (call (.builtin id) (v :: us)) (EP X pins σ Q) X.xe s
section
variable {X:Cx}{a b:Expr}{ta tb:TE}{pos:Pos}
theorem IxR.or (h:IxR X r)(h' :IxR X r'):IxR X (λx y H Q=>r x y H Q\/r' x y H Q):=by
 intro value slice pins s σ H x y v u Q I rx ry q hs;rcases q with q | q
 ·exact h _ _ _ s σ H x y v u Q I rx ry q hs
 ·exact h' _ _ _ s σ H x y v u Q I rx ry q hs
theorem ym (hr:IxR X r)(ha:PE X a ta)(hb:PE X b tb)(hs:jR b):PE X (.Subscript a b pos) (tOp r ta tb):=by
 intro pins s σ H Q I h;exact Subscript_ (z1s ha hb I h λv u s2 x y H2 I2 rx ry q=>hr a b _ s2 σ H2 x y v u Q I2 rx ry q (hs _ _))
def rIxL (K:aa):R2:=λx y H Q=>∃p xs i v,x= .ref p/\y= .int i/\SqL K H p xs/\atI xs i=some v/\Q v H
def rIxT (K:aa):R2:=λx y H Q=>∃p xs i v,x= .ref p/\y= .int i/\SqT K H p xs/\atI xs i=some v/\Q v H
def rIxS:R2:=λx y H Q=>∃z i c,x= .str z/\y= .int i/\z.length<=sizeLine/\atI z.cps.toList i=some c/\Q (.str ⟨#[c]⟩) H
theorem xT:IxR X (rIxL X.K):=by
 intro value slice pins s σ H x y v u Q I rx ry h hs;obtain⟨p,xs,i,z,rfl,rfl,hq,he,q⟩:=h;cases rx;obtain⟨t,rfl⟩:=ry;obtain⟨its,r,pl,hz⟩:=I.list hq;obtain⟨j,h1,h2,h3,h4,h5⟩:=uz he;obtain⟨w,ew,rw'⟩:=r.get h2;have hl:=r.length;have hn:=Wp;have fin:EP X _ σ Q w s:=⟨z,H,I,rw',q⟩
 by_cases h0:0<=i
 ·have hj:=by
   rw[seqIndex_of h0 h5]at h1;exact aB h1
  exact item_listR pl.isList h0 (by omega) (by rw[hj];simpa using ew) fin hs
 ·have hj:(i+(its.toArray.size)).toNat=j:=by
   rw[seqIndex_neg (by omega) h4]at h1
   rw[aC,← hl];exact aB h1
  exact subscriptTail_builtinR pl.isList.typeIs slot_list_getitem.lookup
   (wpAny_getItem_list_neg pl.isList (by omega) (by rw[aC] <;> omega) (by omega) (by rw[hj];simpa using ew) ⟨rfl,fin⟩) hs
theorem Kz:IxR X (rIxT X.K):=by
 intro value slice pins s σ H x y v u Q I rx ry h hs;obtain⟨p,xs,i,z,rfl,rfl,hq,he,q⟩:=h;cases rx;obtain⟨t,rfl⟩:=ry;obtain⟨its,r,pl,hz⟩:=I.tuple hq;obtain⟨j,h1,h2,h3,h4,h5⟩:=uz he;obtain⟨w,ew,rw'⟩:=r.get h2;have hl:=r.length;have hn:=Wp;have fin:EP X _ σ Q w s:=⟨z,H,I,rw',q⟩;exact subscriptTail_builtinR pl.typeIs slot_tuple_getitem.lookup
  (getItem_tuple pl (by omega) (by omega) (by rw[aC,← hl];exact h1) (by simpa using ew) ⟨rfl,fin⟩) hs
theorem KA:IxR X rIxS:=by
 intro value slice pins s σ H x y v u Q I rx ry h hs;obtain⟨z,i,c,rfl,rfl,hz,he,q⟩:=h;obtain⟨t,rfl⟩:=rx;obtain⟨t',rfl⟩:=ry;obtain⟨j,h1,h2,h3,h4,h5⟩:=uz he;have hl:z.cps.toList.length=z.length:=by simp[Str.length]
 rw[hl]at h1 h4 h5;have hn:=Wp;exact tail_any (typeIs_str s z t) slot_str_getitem.lookup (getItem_str (by
  have e1:decide (i < -(2 ^ 63))=false:=decide_eq_false (by omega)
  have e2:decide (i ≥ 2 ^ 63)=false:=decide_eq_false (by omega)
  rw[e1,e2,Bool.or_false]) (by rw[h1];simpa using h2) ⟨.str _,H,I.tok _,⟨_,rfl⟩,q⟩) hs
def rIx (K:aa):R2:=λx y H Q=>rIxL K x y H Q\/rIxT K x y H Q\/rIxS x y H Q
theorem Ww:IxR X (rIx X.K):=xT.or (Kz.or KA)
theorem Wx (lo hi:Option Int)(n:Nat):(sliceBounds lo hi none n).1=((HT.sIx n 0 lo:Nat):Int)/\(sliceBounds lo hi none n).2.1=((HT.sIx n n hi:Nat):Int)/\(sliceBounds lo hi none n).2.2=1:=by
 refine⟨?_, ?_,rfl⟩
 ·cases lo with
  | none=>simp[sliceBounds,HT.sIx]
  | some i=>
   simp only[sliceBounds,HT.sIx,iu,show (1) > 0 by decide,if_true]
   by_cases h:i < 0
   ·simp only[h,if_true] <;> omega
   ·simp only[h,if_false] <;> omega
 ·cases hi with
  | none=>simp[sliceBounds,HT.sIx]
  | some i=>
   simp only[sliceBounds,HT.sIx,iu,show (1) > 0 by decide,if_true]
   by_cases h:i < 0
   ·simp only[h,if_true] <;> omega
   ·simp only[h,if_false] <;> omega
theorem wR (its:List Value)(lo hi:Option Int):slicePick its.toArray lo hi none=((its.drop (HT.sIx its.length 0 lo)).take (HT.sIx its.length its.length hi - HT.sIx its.length 0 lo)).toArray:=by
 obtain⟨h1,h2,h3⟩:=Wx lo hi _;unfold slicePick;rw[h1,h2,h3];simp only[sliceRange_one,pick_run,aC] <;> rfl
def rSlL (K:aa):V->Option Int->Option Int->Hp->VK->Prop:=λx lo hi H Q=>∃a xs,x= .ref a/\SqL K H a xs/\∀p,H p=none->Q (.ref p) (upd H p (.lst (kU xs lo hi)))
theorem xU:SlR X (rSlL X.K):=by
 intro pins s σ H x v vl vu lo hi sl Q I rx hs pl pu h;obtain⟨a,xs,rfl,hx,q⟩:=h;cases rx;obtain⟨its,r,ht,hz⟩:=I.list hx;have hlen:=r.length;refine⟨"list",_,slot_list_getitem.lookup,ht.isList.typeIs, ?_⟩;refine wpAny_getItem_list_slice ht.isList hs pl pu .none (by simp) ?_ (by rw[aC] <;> omega)
 rw[wR,← hlen];refine⟨.ref _,_,I.laid (λb ob q=>a9 _ q) (aj _) ?_,rfl,q _ (I.hok.fresh (aj _))⟩;exact⟨aA (JE xs lo hi) hz,_,0,(r.drop _).take _,af _ rfl⟩
theorem Wy:Zc X (.builtin "len") (λxs H Q=>∃p ys,xs=[.ref p]/\(SqL X.K H p ys\/SqT X.K H p ys)/\Q (.int ys.length) H):=by
 intro pins s σ H xs us Q I r h;obtain⟨p,ys,rfl,hq,q⟩:=h;obtain⟨u,rfl,rx⟩:=Zt r;cases rx;have hn:=Wp;rcases hq with hq | hq
 ·obtain⟨its,r',pl,hz⟩:=I.list hq;have hlen:=r'.length;exact Calls.call_len_list pl.isList (by simp only[aC] <;> omega) ⟨.int _,H,I.tok _,⟨s.toks+1,by rw[aC,hlen]⟩,q⟩
 ·obtain⟨its,r',pl,hz⟩:=I.tuple hq;have hlen:=r'.length;exact len_tuple pl (by simp only[aC] <;> omega) ⟨.int _,H,I.tok _,⟨s.toks+1,by rw[aC,hlen]⟩,q⟩
theorem Wz:Zc X (.builtin "len") (λxs H Q=>∃z,xs=[.str z]/\z.length<=sizeLine/\Q (.int z.length) H):=by
 intro pins s σ H xs us Q I r h;obtain⟨z,rfl,hz,q⟩:=h;obtain⟨u,rfl,t,rfl⟩:=Zt r;have hn:=Wp;exact len_str (by omega) ⟨.int _,H,I.tok _,⟨_,rfl⟩,q⟩
theorem Zc.or {r r' :List V->Hp->VK->Prop}(h:Zc X f r)(h' :Zc X f r'):Zc X f (λxs H Q=>r xs H Q\/r' xs H Q):=by
 intro pins s σ H xs us Q I rs q;rcases q with q | q
 ·exact h _ s σ H xs us Q I rs q
 ·exact h' _ s σ H xs us Q I rs q
theorem Jc:Zc X (.type "list") (λxs H Q=>∃p ys,xs=[.ref p]/\(SqL X.K H p ys\/SqT X.K H p ys)/\∀l,H l=none->Q (.ref l) (upd H l (.lst ys))):=by
 intro pins s σ H xs us Q I r h;obtain⟨p,ys,rfl,hq,q⟩:=h;obtain⟨u,rfl,rx⟩:=Zt r;cases rx;have fin:∀(its:List _),zX ys its->ys.length<=sizeLine->∀(h' :Heap) (c' :Nat),(∀b o',s.heap.get? b=some o' ->h'.get? b=some o')->
   h'.get? _=some _->EP X _ σ Q _ { s with heap:=h' }:=λits r' hz h' c' kp e=>
  ⟨.ref _,_,I.laid kp (aj _) (show Z5 _ X.w _ h' _ (.lst ys) from ⟨hz,its,c',r',e⟩),rfl,q _ (I.hok.fresh (aj _))⟩
 rcases hq with hq | hq
 ·obtain⟨its,r',pl,hz⟩:=I.list hq;have hlen:=r'.length;obtain⟨o,ho,hc,n,hd⟩:=pl.isList;exact call_list_seq p (.inl rfl) ho hc hd (λh' c' kp e=>fin its r' hz h' c' kp e) (by simp only[aC] <;> omega)
 ·obtain⟨its,r',pl,hz⟩:=I.tuple hq;have hlen:=r'.length;obtain⟨o,ho,hc,n,hd⟩:=pl;exact call_list_seq p (.inr rfl) ho hc hd (λh' c' kp e=>fin its r' hz h' c' kp e) (by simp only[aC] <;> omega)
theorem jH:Zc X (.type "tuple") (λxs H Q=>∃p ys,xs=[.ref p]/\((SqL X.K H p ys/\∀l,H l=none->Q (.ref l) (upd H l (.tup ys)))\/(SqT X.K H p ys/\Q (.ref p) H))):=by
 intro pins s σ H xs us Q I r h;obtain⟨p,ys,rfl,h⟩:=h;obtain⟨u,rfl,rx⟩:=Zt r;cases rx;rcases h with ⟨hq,q⟩ | ⟨hq,q⟩
 ·obtain⟨its,r',pl,hz⟩:=I.list hq;have hlen:=r'.length;refine call_tuple_list pl.isList (λh' kp=> ?_) (by simp only[aC] <;> omega)
  have I1:Inv X _ σ H { s with heap:=h' }:=I.kept kp;have I2:Inv X _ σ (upd H _ (.tup ys)) { s with heap:=h'.push _ }:=
   I1.laid (λb o e=>a9 _ e) (aj _) (show Z5 _ X.w _ _ _ _ from ⟨hz,its,r',ITN.new _ _⟩)
  exact⟨.ref _,_,I2,rfl,q _ (I1.hok.fresh (aj _))⟩
 ·obtain⟨its,r',pl,hz⟩:=I.tuple hq;exact call_tuple_same pl ⟨.ref p,H,I,rfl,q⟩
def tyV (K:aa)(T:String)(x:V)(H:Hp):Prop:=match x with
 | .str _=>T="str"
 | .int _=>T="int"
 | .ref p=>(T="list"/\∃xs,SqL K H p xs)\/(T="tuple"/\∃o,K.lookup p=some o/\o.cls= .type "tuple"/\o.dict=none)\/
   (T="dict"/\((∃kvs,H p=some (.dK kvs))\/∃kvs,H p=some (.dT kvs)))\/(T="set"/\∃S n,H p=some (.set S n))
 | _=>False
theorem VO (I:Inv X pins σ H s)(r:Z4 x v)(ty:tyV X.K T x H):
  s.TypeIs v T/\∀a,v= .ref a->∃ob,s.heap.get? a=some ob/\ob.dict=none:=by
 cases x with
 | str z=>
  obtain⟨t,rfl⟩:=r;cases (ty);exact⟨typeIs_str s z t,λ_ e=>nomatch e⟩
 | int i=>
  obtain⟨t,rfl⟩:=r;cases (ty);exact⟨typeIs_int s i t,λ_ e=>nomatch e⟩
 | ref p=>
  cases r;rcases ty with ⟨rfl,xs,hq⟩ | ⟨rfl,o,hk,hc,hd⟩ | ⟨rfl,hk⟩ | ⟨rfl,S,n,hk⟩
  ·obtain⟨its,_,pl,_⟩:=I.list hq;refine⟨pl.isList.typeIs,λa e=> ?_⟩;cases e;obtain⟨o,n,e,c,hd,_⟩:=pl;exact⟨o,e,hd⟩
  ·refine⟨⟨o,I.kIn p o hk,hc⟩,λa e=> ?_⟩;cases e;exact⟨o,I.kIn _ o hk,hd⟩
  ·have z:∃o,s.heap.get? p=some o/\o.ExactDict:=by
    rcases hk with ⟨kvs,hk⟩ | ⟨kvs,hk⟩
    ·obtain⟨_,_,_,_,o,_,_,e,ex,_⟩:=I.hok p _ hk;exact⟨o,e,ex⟩
    ·obtain⟨_,_,_,_,o,_,_,e,ex,_⟩:=I.hok p _ hk;exact⟨o,e,ex⟩
   obtain⟨o,e,ex⟩:=z;refine⟨⟨o,e,ex.1⟩,λa e2=> ?_⟩;cases e2;exact⟨o,e,ex.2.1⟩
  ·obtain⟨o,_,_,_,e,ex,_⟩:=I.hok p _ hk;refine⟨⟨o,e,ex.1⟩,λa e2=> ?_⟩;cases e2;exact⟨o,e,ex.2.1⟩
 | _=>exact bN ty
def tBM0 (K:aa)(T:String)(r:V->List V->Hp->VK->Prop)(to:TE):TE:=λσ H Q=>to σ H λx H1=>tyV K T x H1/\r x [] H1 Q
def tBM (K:aa)(T:String)(r:V->List V->Hp->VK->Prop)(to:TE)(t:TA):TE:=λσ H Q=>to σ H λx H1=>tyV K T x H1/\t σ H1 λxs H2=>r x xs H2 Q
variable {o e:Expr}{es:List Expr}{to:TE}{t:TA}{name:Str}{apos cpos:Pos}{T id:String}{r:V->List V->Hp->VK->Prop}
theorem KC (pa:PlainAttrs T)(slot:Slot T name id)(hty:typeOf (.builtin id)=pure (.type "method_descriptor"))(hm:MtR X id r)(ho:PE X o to)
  (hbase:attributeBase o name X.env (eval o X.env)=eval o X.env:=by rfl) (hline:(apos.endLine == cpos.line)=true:=by rfl):PE X (.Call (.Attribute o name apos) [] [] cpos) (tBM0 X.K T r to):=by
 intro pins s σ H Q I h;refine wpAny_Call_method0_late hbase hline (thn (ho _ s σ H _ I h) λv s1 ⟨x,H1,I1,r1,ty,q1⟩=> ?_);obtain⟨h1,h2⟩:=VO I1 r1 ty;exact⟨T,id,pa,slot,hty,h1,h2,f9 rfl (PySem.evalArgs_none (hm _ s1 σ H1 x [] v [] Q I1 r1 .nil q1))⟩
theorem Yi (pa:PlainAttrs T)(slot:Slot T name id)(hty:typeOf (.builtin id)=pure (.type "method_descriptor"))(hm:MtR X id r)(ho:PE X o to)(ha:PA X (e :: es) t)
  (hbase:attributeBase o name X.env (eval o X.env)=eval o X.env:=by rfl)
  (hfew:((backTo cpos (starEach (e :: es) X.env)).all (λx=> !x.1) && (backToKw cpos (keywordEach [] X.env)).all (λx=>x.1.isSome)
   && decide ((e :: es).length+([]:List Keyword).length+(if ([]:List Keyword).isEmpty then 0 else 1) < 30))=true:=by rfl)
  (hline:(apos.endLine == cpos.line)=true:=by rfl) (hs:starEach (e :: es) X.env=(false,eval e X.env) :: starEach es X.env:=by rfl) (hplain:(backTo cpos (starEach es X.env)).any (·.1)=false:=by rfl):
  PE X (.Call (.Attribute o name apos) (e :: es) [] cpos) (tBM X.K T r to t):=by
 intro pins s σ H Q I h;refine wpAny_Call_method_late hbase hfew hline rfl (thn (ho _ s σ H _ I h) λv s1 ⟨x,H1,I1,r1,ty,q1⟩=> ?_);obtain⟨h1,h2⟩:=VO I1 r1 ty;refine⟨T,id,pa,slot,hty,h1,h2, ?_⟩;have hA:=ha cpos _ s1 σ H1 _ I1 q1;rw[hs]at hA ⊢;refine f9 (by show (false || (backTo _ _).any _)=false;rw[hplain] <;> rfl) (Calls.evalArgs_plain ?_)
 exact thn hA λus s2 ⟨vs,H2,I2,r2,q2⟩=>hm _ s2 σ H2 x vs v us Q I2 r1 r2 q2
end
end L2
namespace L2
open PySem PySem.Spec PyProof.Rows
def MtM (X:Cx)(id:String)(r:V->List V->Hp->VK->Prop):Prop:=
 ∀(pins:List (Addr×Obj)) (s:Shared) (σ:St) (H:Hp) (x:V) (xs:List V) (v:Value) (us:List Value) (Q:VK),Inv X pins σ H s->Z4 x v->zX xs us->r x xs H Q->
  wpAny (model X.prog X.w) X.A (call (.builtin id) (v :: us)) (EP X pins σ Q) X.xe s
theorem zX.one:∀{x:V} {us:List Value},zX [x] us->∃u,us=[u]/\Z4 x u
 | _,_,.cons r .nil=>⟨_,rfl,r⟩
theorem zX.rep (h:zX xs us):∀k:Nat,zX (ah k xs).flatten (ah k us).flatten
 | 0=> .nil
 | k+1=>by
  exact zX.append h (zX.rep h k)
theorem jI (its:List Value):∀(k:Nat) (acc:List Value),
  dU (λx1 x2=>x1++x2) acc.toArray (ah k its.toArray)=(acc++(ah k its).flatten).toArray
 | 0,acc=>by simp
 | k+1,acc=>by
  have e:acc.toArray++its.toArray=(acc++its).toArray:=by simp
  have e2:(acc++its)++(ah k its).flatten=acc++(ah (k+1) its).flatten:=by
   rw[bG,eB,ba]
  rw[← e2,← jI its k _,← e,bG,List.foldl_cons]
section
theorem Inv.lset {its its' :List Value}{n:Nat}{f:Array Value->Array Value}{t' :Nat}(I:Inv X pins σ H s)(hH:H l=some (.lst xs))
  (e:s.heap.get? l=some { cls:= .type "list",data:= .seq its.toArray n }) (hf:f its.toArray=its'.toArray) (hv:zX ys its') (hz:ys.length<=sizeLine):
  Inv X pins σ (upd H l (.lst ys)) { s with heap:=s.heap.update l (iR f),toks:=t' }:=by
 have q:=PySem.IsL.update e f;rw[hf]at q;refine I.write (by rw[hH];exact trivial) (.inl rfl) (λb' u hb hu=>(bE _ _ (aS hb)).trans hu) ⟨_,q⟩ ?_
 exact⟨hz,its',_,hv,q⟩
theorem Inv.lnew (I:Inv X pins σ H s)(hv:zX ys its)(hz:ys.length<=sizeLine):
  Inv X pins σ (upd H s.heap.objs.size (.lst ys)) { s with heap:=s.heap.push { cls:= .type "list",data:= .seq its.toArray },toks:=t' }:=
 I.laid (λ_ _ q=>a9 _ q) (aj _) ⟨hz,its,0,hv,af _ rfl⟩
theorem Inv.fresh (I:Inv X pins σ H s):H s.heap.objs.size=none:=I.hok.fresh (aj _)
theorem Inv.lstM (I:Inv X pins σ H s)(hH:H l=some (.lst xs)):xs.length<=sizeLine/\∃(its:List Value) (n:Nat),zX xs its/\xs.length=its.length/\s.heap.get? l=some { cls:= .type "list",data:= .seq its.toArray n }:=by
 obtain⟨z,its,n,r,e⟩:=I.hok l _ hH;exact⟨z,its,n,r,r.length,e⟩
theorem U9 (h:n<=sizeLine):cU n=false:=by
 exact decide_eq_false (by omega)
end
section
variable {X:Cx}
def xV:V->List V->Hp->VK->Prop:=λx vs H Q=>∃l xs y,x= .ref l/\vs=[y]/\H l=some (.lst xs)/\xs.length < sizeLine/\Q .non (upd H l (.lst (xs++[y])))
theorem JF:MtM X "list.append" xV:=by
 intro pins s σ H x vs v us Q I rx rv h;obtain⟨l,xs,y,rfl,rfl,hH,hz,q⟩:=h;cases rx;obtain⟨u,rfl,ru⟩:=rv.one;obtain⟨z,its,n,r,hl,e⟩:=I.lstM hH;refine du F.slot_list_append ⟨_,e,rfl⟩ F.entry_list_append (F.args_list_append_2 _ _) (PySem.list_append l _ n u (by rw[aC];omega)) ⟨e, ?_⟩
 refine⟨.non,_,I.lset hH e (by simp) (r.append (.cons ru .nil)) ?_,rfl,q⟩
 rw[az,aK];omega
def xW:V->List V->Hp->VK->Prop:=λx vs H Q=>∃l b xs zs,x= .ref l/\vs=[.ref b]/\H l=some (.lst xs)/\H b=some (.lst zs)/\xs.length+zs.length<=sizeLine/\Q .non (upd H l (.lst (xs++zs)))
theorem Yj:MtM X "list.extend" xW:=by
 intro pins s σ H x vs v us Q I rx rv h;obtain⟨l,b,xs,zs,rfl,rfl,hH,hB,hz,q⟩:=h;cases rx;obtain⟨u,rfl,ru⟩:=rv.one;cases ru;obtain⟨z,its,n,r,hl,e⟩:=I.lstM hH;obtain⟨z2,its2,n2,r2,hl2,e2⟩:=I.lstM hB;have hsz:its.toArray.size+its2.toArray.size<=sizeLine:=by rw[aC,aC];omega
 have hlong:¬ (!its.toArray.isEmpty && cU (its.toArray.size+its2.toArray.size))=true:=by
  rw[U9 hsz,Bool.and_false];exact aG
 refine du F.slot_list_extend ⟨_,e,rfl⟩ F.entry_list_extend (F.args_list_extend_2 _ _)
  (AutoSeq1.list_extend_list_list_0 l _ n b _ n2 hlong (by omega) (by omega)) ⟨e,e2, ?_⟩
 refine⟨.non,_,I.lset hH e (by simp) (r.append r2) ?_,rfl,q⟩
 rw[az];omega
def rCat:R2:=λx y H Q=>∃l b xs zs,x= .ref l/\y= .ref b/\H l=some (.lst xs)/\H b=some (.lst zs)/\xs.length+zs.length<=sizeLine/\∀p,H p=none->Q (.ref p) (upd H p (.lst (xs++zs)))
theorem KD:OpR X (binaryOp .Add) rCat:=by
 intro pins s σ H x y v u Q I rx ry h;obtain⟨l,b,xs,zs,rfl,rfl,hH,hB,hz,q⟩:=h;cases rx;cases ry;obtain⟨z,its,n,r,hl,e⟩:=I.lstM hH;obtain⟨z2,its2,n2,r2,hl2,e2⟩:=I.lstM hB;refine PySem.P.add_list e e2 ?_ (by rw[aC,aC];omega)
 have ea:its.toArray++its2.toArray=(its++its2).toArray:=by simp
 rw[ea];exact⟨.ref _,_,I.lnew (r.append r2) (by rw[az];omega),rfl,q _ I.fresh⟩
def rRep:R2:=λx y H Q=>∃l k xs,x= .ref l/\y= .int k/\H l=some (.lst xs)/\ -(2 ^ 63)<=k/\k < 2 ^ 63/\xs.length*k.toNat<=sizeLine/\
 ∀p,H p=none->Q (.ref p) (upd H p (.lst (ah k.toNat xs).flatten))
theorem jS {α:Type}(xs:List α)(k:Nat):(ah k xs).flatten.length=k*xs.length:=by
 induction k with
 | zero=>simp
 | succ k ih=>rw[bG,eB,az,ih,ff,i9]
theorem KF:OpR X (binaryOp .Mult) rRep:=by
 intro pins s σ H x y v u Q I rx ry h;obtain⟨l,k,xs,rfl,rfl,hH,h1,h2,hz,q⟩:=h;cases rx;obtain⟨t,rfl⟩:=ry;obtain⟨z,its,n,r,hl,e⟩:=I.lstM hH;have hlen:its.toArray.size*k.toNat<=sizeLine:=by rw[aC,← hl];exact hz
 have hcap:¬ its.toArray.size*k.toNat > (2 ^ 63 - 1) / 8:=by
  have:(sizeLine)<=(2 ^ 63 - 1) / 8:=by decide
  omega
 have hfit:¬ (!Builtin.List.listFitsIndex k)=true:=by
  rw[fitsIndex_both h1 h2];exact aG
 have hlong:¬ cU (its.toArray.size*k.toNat)=true:=by
  rw[U9 hlen];exact aG
 have hnew:dU (λx1 x2=>x1++x2) #[] (ah (if its.toArray.isEmpty=true then 0 else k.toNat) its.toArray)=(ah k.toNat its).flatten.toArray:=by
  have f0:∀m,dU (λx1 x2=>x1++x2) #[] _=(ah m its).flatten.toArray:=λm=>by
   have:=jI its m [];exact this
  rw[f0];cases its with
  | nil=>simp
  | cons a r' =>rw[if_neg (by simp)]
 refine wpAny_binaryOp_repeat_ref (by decide) ⟨_,e,rfl⟩ (λs' =>typeIs_int s' k t) noFill_list_mul iI dG repeat_list iw.lookup
  (du dG (typeIs_int s k t) ix (ia _ _) (int___rmul___int_list k t l _ n)
   ⟨e,rfl,⟨_,e,rfl⟩,du F.slot_list_mul ⟨_,e,rfl⟩ F.entry_list_mul (F.args_list_mul_2 _ _) (AutoListH.list___mul___list_int_3 l _ n k t hfit hcap hlong) ⟨e, ?_⟩⟩)
 rw[hnew];exact⟨.ref _,_,I.lnew (r.rep _) (by rw[jS,cu];exact hz),rfl,q _ I.fresh⟩
end
section
end
section
end
end L2
namespace Att
open PySem PySem.W PySem.Calls PyProof.Rows
theorem JG {P:Params}:∀(ns:List Int) (vs:List Value),WellAll P h vs (ns.map WData.int)->IntsAre vs ns:=by
 intro ns
 induction ns with
 | nil=>
  intro vs w;cases w;exact .nil
 | cons n ns ih=>
  intro vs w;cases w with
  | cons a b=>
   cases a;exact .cons _ _ (ih _ b)
theorem Yk {l:OpenLaw}(hn:l.most=some n){P:Params}{args:List WData}
  (hpre:l.row.toRowW.claim.pre args=true) (hwl:WellAll P h vals args):
  ∃a vs ns,vals=[Value.ref a]/\args=[WData.list (ns.map WData.int)]/\h.get? a=some { cls:= .type "list",data:= .seq vs.toArray }/\IntsAre vs ns/\ns.length<=n:=by
 have hsh:=(pre_splitW hpre).1;have hc:=(pre_splitW hpre).2;obtain⟨d,r,rfl,h1,h2⟩:=hasAllW_cons hsh;obtain rfl:=hasAllW_nil h2;obtain⟨xs,rfl,h3⟩:=hasW_list h1;obtain⟨ns,rfl⟩:=items_int h3;have hlen:ns.length<=n:=by
  have h4:=by
   have h4:=(holds_andW hc).1;rw[hn]at h4;exact h4
  have h5:=condW_of h4 (w_not (w_lt w_lit (w_len_list (w_arg rfl))));rw[ac]at h5;refine Nat.le_of_not_lt λq=> ?_;have q' :(n) < ((ns.length):Int):=by omega
  first
   | (rw[decide_eq_true q']at h5;exact absurd h5 (by decide))
   | (simp at h5)
 cases hwl with
 | cons w1 w2=>
  cases w2;cases w1 with
  | list ho hall=>exact⟨_,_,ns,rfl,rfl,ho,JG ns _ hall,hlen⟩
theorem Yl (l:OpenLaw)(args:List WData):l.row.toRowW.claim.post args (.bool true) args=true:=
 postW_of
  (show WShape.has [] _ _=true by first | rfl | decide | simp[WShape.has,WShape.arms,WShape.armsAll])
  (show (WTm.eq _ _).value [] _=some _ from w_eq_bool (w_res rfl) w_lit) rfl
theorem attach_call {l:OpenLaw}{XP:(Str->Option Value)->Heap->Prop}{YP:World->Heap->Prop}{d:DefRec}
  (hn:l.most=some n) (hdf:d.params.defaults=[])
  (call:∀(w:World) (s₀ s₁:Shared) (mg mb:Str->Option Value) (fa:Addr) (o:Obj) (pm cd doc:Value) (a:Addr) (vs:List Value) (ns:List Int),
   Ground q loose [] XP w s₀ mg mb s₁.heap->YP w s₁.heap->
   s₁.heap.get? fa=some o->o.data= .func (docDef d.name d.params d.body d.scope pm cd doc)->s₁.heap.CodeRec cd d.name->mg d.name=some (.ref fa)->
   s₁.heap.get? a=some { cls:= .type "list",data:= .seq vs.toArray }->IntsAre vs ns->ns.length<=n->s₁.gens= #[]->
   codeAny (model l.prog w) callerA (.call (.ref fa) ⟨[.ref a],[]⟩) (λr s' =>r= .ok (.ret (.bool true))/\OldK s₁.heap s'.heap/\s'.os=s₁.os/\AllBare s'.gens) s₁):
  WalkO q loose XP YP l.row.toRowW d [] (λf vs=>iS f vs):=by
 intro w s₀ s₁ mg mb G Y fa o pm cd doc dV kV ho hd hcd hD hmg hg args vals as hpre hlay hrd hwl hlo;obtain rfl:dV= .none:=Dflts.none hD hdf;obtain rfl:kV= .none:=Dflts.noKw hD;obtain⟨a,vs,ns,rfl,rfl,hobj,hints,hlen⟩:=Yk hn hpre hwl;refine enter_call (d9 (call w _ _ mg mb fa o pm cd doc a vs ns G Y ho (fd_plain hd) hcd hmg hobj hints hlen hg) λr s' hq=> ?_);obtain⟨rfl,h2,h3,h4⟩:=hq;exact⟨.inl ⟨.bool _,.bool _,[],rfl,λ_=>rfl,.bool _,Yl l _,λ_=>⟨List.Pairwise.nil,λ_ hm=>(nomatch hm)⟩⟩,h2,h3,h4⟩
end Att
namespace L2
open PySem PySem.Spec PyProof.Rows
theorem jJ:∀{vs:List Value} {ns:List Int},IntsAre vs ns->zX (ns.map V.int) vs
 | _,_,.nil=> .nil
 | _,_,.cons n t h=> .cons ⟨t,rfl⟩ (jJ h)
def z0D (H:Hp):Prop:=∀b,H b=none\/∃o xs,H b=some (.frz o (.lst xs))
theorem vH {P:Program}{w:World}{K:aa}{mg mb:Str->Option Value}{CX:CXT}{k:Nat}{fa a:Addr}{fd:FuncData}{x:Str}{sp:Sp}{s₁:Shared}{vs:List Value}{ns:List Int}
  (KX:K.In s₁.heap) (hns:s₁.heap.Ns mainGlobals mg) (hb:s₁.heap.Ns builtinsNs mb) (hbb:∀x:Str,x ≠ "__name__"->mb x=bootBuiltins x) (hlim:s₁.heap.NoLimit) (hg:s₁.gens= #[])
  (ha:s₁.heap.get? a=some { cls:= .type "list",data:= .seq vs.toArray }) (hi:IntsAre vs ns) (hl:ns.length<=sizeLine) (hr:ZP k callerA)
  (F:∀base:Heap,K.In base->base.Ns mainGlobals mg->jq P w K mg base CX k fa fd [x] sp) (hbind:∀(s:Shared) (u:Value),BindsTo s fd ⟨[u],[]⟩ [(x,u)])
  (hsp:∀H:Hp,z0D H->SqL K H a (ns.map V.int)->sp [.ref a] H (λv _=>v= .bl true) λ_ _ _=>False)
  (hCX:∀H e s',CX [] H s₁ (λ_ _ _=>False) e s' ->False):
  codeAny (model P w) callerA (.call (.ref fa) ⟨[.ref a],[]⟩) (λr s' =>r= .ok (.ret (.bool true))/\OldK s₁.heap s'.heap/\s'.os=s₁.os/\AllBare s'.gens) s₁:=by
 have rv:=jJ hi;have lenV:=hi.length;have core:∀H,z0D H->SqL K H a (ns.map V.int)->HOk P w H s₁.heap->(∀b,H b ≠ none->b=a)->(H a ≠ none->K.lookup a=none)->
   codeAny (model P w) callerA (.call (.ref fa) ⟨[.ref a],[]⟩) (λr s' =>r= .ok (.ret (.bool true))/\OldK s₁.heap s'.heap/\s'.os=s₁.os/\AllBare s'.gens) s₁:=by
  intro H hO hS hok hA hK;have base_of:∀{b:Addr} {o:Obj},s₁.heap.get? b=some o->H b=none->(kT _ H).get? b=some o:=λe n=>vn e n;have noA:∀{b:Addr} {o:Obj} {es:Array _} {ep:Nat},s₁.heap.get? b=some o->o.data= .dict es ep->H b=none:=λ{b o es ep} e d=>by
   cases q:H b with
   | none=>rfl
   | some u=>
    have e' :=hA b (by rw[q];simp)
    subst e';rw[ha]at e;cases e;have d' :=d;cases d'
  have nsK:∀{b:Addr} {m:Str->Option _},s₁.heap.Ns b m->(kT _ H).Ns b m:=λ{b m} ⟨o,es,ep,e,d,r⟩=>⟨o,es,ep,base_of e (noA e d),d,r⟩;have hKb:=λb o e=>base_of (KX b o e) (by
   cases q:H b with
   | none=>rfl
   | some u=>
    have e' :=hA b (by rw[q];simp)
    subst e';rw[hK (by rw[q];simp)]at e;cases e)
  have hM:Mod K mg _:=⟨hKb,nsK hns,⟨mb,nsK hb,hbb⟩,let ⟨mc,h1,h2⟩:=hlim;⟨mc,nsK h1,h2⟩⟩;have e0:xM P w K mg _ callerA [] _ H:=⟨rfl,hM,λb o e=>xD e,h_ (yW _ _),trivial,λb hb=>absurd (show b∈([]:List _) from hb) (by simp),hok,.of_eq hg⟩
  refine d9 ((F _ hKb (nsK hns)).run _ [] _ H _ _ [.ref a] _ _ hr e0 (hbind _ _) (.cons rfl .nil) (hsp H hO hS)) λr s' h=> ?_;cases r with
  | error e=>exact(hCX H e s' h).elim
  | ok fl=>
   cases fl with
   | next=>exact bN h
   | brk=>exact bN h
   | cont=>exact bN h
   | ret u=>
    obtain⟨v,H',os,bare,un,hok',r',q⟩:=h;have q' :=q;subst q';obtain rfl:u=Value.bool _:=r';refine⟨rfl,OldK.of_keep λb o e=> ?_,os,bare⟩;cases q:H b with
    | none=>exact un.keep b o e q (by intro z;exact absurd (show b∈([]:List _) from z) (by simp)) (by simp)
    | some u=>
     rcases hO b with z | ⟨ob,xs,z⟩
     ·rw[q]at z;cases z
     ·have z2:=un.frzs b ob _ z;obtain⟨e1,_⟩:=hok b _ z;obtain⟨e2,_⟩:=hok' b _ z2;rw[e]at e1;cases e1;exact e2
 cases hk:K.lookup a with
 | some o=>
  have e:=KX a o hk;rw[ha]at e;cases e;refine core (λ_=>none) (λ_=> .inl rfl) (.inr ⟨_,vs.toArray,_,hk,rfl,rfl,rfl,by rw[aC,lenV];exact hl,by simpa using rv⟩) (λb u z=>by have z' :=z;cases z') (λb z=>absurd rfl z) λz=>absurd rfl z
 | none=>
  refine core (λb=>if b=a then some (.frz { cls:= .type "list",data:= .seq vs.toArray } _) else none) (λb=> ?_) (.inl (.inr ⟨{ cls:= .type _,data:= .seq _ },if_pos rfl⟩)) (λb u z=> ?_) (λb z=> ?_) λ_=>hk
  ·by_cases hb:b=a
   ·exact .inr ⟨_,_,if_pos hb⟩
   ·exact .inl (if_neg hb)
  ·by_cases hb:b=a
   ·have z' :=(if_pos hb).symm.trans z;cases z';subst hb;exact⟨ha,by rw[ac];exact hl,vs,_,rv,ha⟩
   ·have z' :=(if_neg hb).symm.trans z;cases z'
  ·by_cases hb:b=a
   ·exact hb
   ·exact absurd (if_neg hb) z
end L2
namespace L2
open PySem PySem.Spec PyProof.Rows
theorem walk_of {l:PySem.W.OpenLaw}{XP:(Str->Option Value)->Heap->Prop}{YP:World->Heap->Prop}{d:DefRec}{K:Params->aa}{CX:World->CXT}{sp:World->Sp}
  (hn:l.most=some n) (hn2:n<=sizeLine) (hdf:d.params.defaults=[]) (hr:ZP k callerA)
  (hY:∀(w:World) (h:Heap),YP w h->(K w.params).In h)
  (F:∀(w:World) (mg:Str->Option Value) (fa:Addr) (h:Heap),(K w.params).In h->h.Ns mainGlobals mg->mg d.name=some (.ref fa)->
   ∃fd:FuncData,(∀(s:Shared) (u:Value),BindsTo s fd ⟨[u],[]⟩ [(x,u)])/\
    ∀base:Heap,(K w.params).In base->base.Ns mainGlobals mg->jq l.prog w (K w.params) mg base (CX w) k fa fd [x] (sp w))
  (hsp:∀(w:World) (H:Hp) (a:Addr) (ns:List Int),ns.length<=n->z0D H->SqL (K w.params) H a (ns.map V.int)->sp w [.ref a] H (λv _=>v= .bl true) λ_ _ _=>False)
  (hCX:∀(w:World) (H:Hp) (s:Shared) (e:Value) (s' :Shared),CX w [] H s (λ_ _ _=>False) e s' ->False):
  PySem.W.WalkO q loose XP YP l.row.toRowW d [] (λf vs=>iS f vs):=by
 refine Att.attach_call hn hdf λw s₀ s₁ mg mb fa o pm cd doc a vs ns G Y ho hd hcd hmg hobj hints hlen hg=> ?_;have KX:=hY w _ Y;obtain⟨fd,hb,hF⟩:=F w mg fa _ KX G.T.g hmg;exact vH KX G.T.g G.T.b G.T.builtins G.T.nolimit hg hobj hints (aA hlen hn2) hr hF hb (λH hO hS=>hsp w H a ns hlen hO hS) λH e s' =>hCX w H _ e s'
end L2
namespace L2
open PySem PySem.Spec PyProof.Rows
noncomputable def Zu (s:Stmt):Arguments:=match s with
 | .FunctionDef _ a _ _ _ _ _ _ _ _=>a
 | _=>{ posonlyargs:=[],args:=[],vararg:=none,kwonlyargs:=[],kw_defaults:=[],kwarg:=none,defaults:=[] }
noncomputable def zS (s:Stmt):List Stmt:=match s with
 | .FunctionDef _ _ b _ _ _ _ _ _ _=>b
 | _=>[]
noncomputable def zu (s:Stmt):Scope:=match s with
 | .FunctionDef _ _ _ _ _ _ sc _ _ _=>sc
 | _=>{ kind:= .function,names:=[],isGenerator:=false,isCoroutine:=false }
abbrev CX0:CXT:=λ_ _ _ _ _ _=>False
structure Fun (K:aa) (x qual:Str) (st:Stmt) (f:Addr) (fd:FuncData):Prop where
 ex:∃(oc:Value) (od:Option Addr) (kV doc pm:Value) (an:Option Addr) (cdv ct:Value) (osl:Array (Option Value)),
  fd=bw x qual (Zu st) (zS st) (zu st) .none kV doc pm an cdv ct/\K.lookup f=some ⟨oc,od,.func fd,osl⟩/\db K cdv qual=true
 kp:bC K (.ref f)=true
section
variable {P:Program}{w:World}{K:aa}{mg:Str->Option Value}{base:Heap}
theorem Fun.ok {x qual:Str}{st:Stmt}{f:Addr}{fd:FuncData}{N ps:List Str}{k:Nat}{sp:Sp}(F:Fun K x qual st f fd)(S:ZY N ps (zu st))(len:∀vs H Q E,sp vs H Q E->vs.length=ps.length)
  (hbody:∀(cdv:Value) (A:Around) (outer:List Env) (s:Shared) (H:Hp) (vs:List V) (Q:VK) (E:XK),ZP k (A.deeper (envOfC qual (zu st) s.heap.objs.size f cdv))->sp vs H Q E->
   ∃t,PSs (Wv CX0 P w K mg base N qual (zu st) f cdv A outer s H E).nox (zS st) t/\t { nx:=λ_ H' =>Q .non H',rt:=Q } (start N vs) H):jq P w K mg base CX0 (k+1) f fd ps sp:=by
 obtain⟨oc,od,kV,doc,pm,an,cdv,ct,osl,rfl,lk,hcd⟩:=F.ex;refine Kx lk hcd S len λA outer s H vs Q E hr hsp=> ?_;obtain⟨t,h,q⟩:=hbody cdv A _ s H vs Q E hr hsp;exact⟨t,h.nox,q⟩
theorem Fun.binds {x qual:Str}{st:Stmt}{f:Addr}{fd:FuncData}{ps:List Str}(F:Fun K x qual st f fd)
  (h:∀(kV doc pm:Value) (an:Option Addr) (cdv ct:Value) (us:List Value),us.length=ps.length->bindArgs (bw x qual (Zu st) (zS st) (zu st) .none kV doc pm an cdv ct) ⟨us,[]⟩=pure (ps.zip us)):Binds K fd ps []:=by
 obtain⟨oc,od,kV,doc,pm,an,cdv,ct,osl,rfl,lk,hcd⟩:=F.ex;exact .all (h kV doc pm an cdv ct)
theorem VP {x qual:Str}{st:Stmt}{f:Addr}{oc:Value}{od an:Option Addr}{osl:Array (Option Value)}{kV doc pm cdv ct:Value}(l:K.lookup f=some ⟨oc,od,.func (bw x qual (Zu st) (zS st) (zu st) .none kV doc pm an cdv ct),osl⟩)
  (c:db K cdv qual=true) (k:bC K (.ref f)=true):Fun K x qual st f (bw x qual (Zu st) (zS st) (zu st) .none kV doc pm an cdv ct):=⟨⟨oc,od,kV,doc,pm,an,cdv,ct,osl,rfl,l,c⟩,k⟩
end
section
theorem pv (i:Nat)(hN:X.N[i]? =some x:=by rfl)(hv:Vis X.env.scope x:=by first | exact Or.inl rfl | exact Or.inr (Or.inl rfl) | exact Or.inr (Or.inr rfl))(hd:(x == ("__debug__":Str))=false:=by decide)
  (hcd:(x == ("__classdict__":Str))=false:=by decide):PE X (.Name x pos) (wg i):=VF hN hv hd hcd
end
def zr (H H' :Hp):Prop:=∀b o,H b=some o->H' b=some o
theorem zr.refl (H:Hp):zr H H:=λ_ _ h=>h
theorem zr.trans (a:zr H H1)(b:zr H1 H2):zr H H2:=λc o h=>b c o (a c o h)
theorem zr.free (e:zr H H')(h:H' l=Option.none):H l=Option.none:=by
 cases q:H l with
 | none=>rfl
 | some o=>
  rw[e l o q]at h;cases h
end L2
namespace L2
open PySem PySem.Spec PyProof.Rows PySem.W
theorem Ua (h:env.frame=some L):frs (env :: outer)=L :: frs outer:=by
 unfold frs;rw[cR,h]
structure z0E (P:Program) (w:World) (outer:List Env) (H:Hp) (s s' :Shared) (ea:Addr) (cls a0:Value) (B:Heap) (H' :Hp):Prop where
 os:s'.os=s.os
 bare:AllBare s'.gens
 fly:Heap.FlyingW B outer ea cls a0 s'.heap
 hok:HOk P w H' B
 un:Un (frs outer) [] H H' s.heap s'.heap
 inB:∀b o,s.heap.get? b=some o->b ∉ frs outer->(H b=none->B.get? b=some o)/\∃o',B.get? b=some o'
def CX1 (P:Program)(w:World):CXT:=λouter H s E e s' =>∃ea cls a0 B H',e= .ref ea/\z0E P w outer H s s' ea cls a0 B H' /\E cls none H'
section
variable {X:Cx}{pins:List (Addr×Obj)}{σ:St}{H H' :Hp}{s s' :Shared}{ea:Addr}{cls a0:Value}{B:Heap}{h' h'' :Heap}
theorem Inv.frNf (I:Inv X pins σ H s):∀b∈frs X.stack,H b=none/\∃o,s.heap.get? b=some o/\∀vs,o.data ≠ .fields vs:=λb hb=>⟨I.stkFree b hb,(I.stack.mem hb).2⟩
theorem Inv.old (I:Inv X pins σ H s)(hX:X.stack=X.env :: X.outer)(hf:X.env.frame=some X.env.locals)(e:X.s₀.heap.get? b=some o)(hb:b ∉ frs X.outer):b ∉ frs X.stack:=by
 rw[hX,Ua hf];intro z;rcases ak.mp z with z | z
 ·exact absurd (aL (ao e) I.ok.above) (by rw[z];exact aX _)
 ·exact hb z
theorem Ym {X:Cx}(hX:X.stack=X.env :: X.outer)(hf:X.env.frame=some X.env.locals){b:Addr}(hb:b∈frs X.outer):b∈frs X.stack:=by
 rw[hX,Ua hf];exact a8 _ hb
theorem z0E.out (I:Inv X pins σ H s)(hX:X.stack=X.env :: X.outer)(hf:X.env.frame=some X.env.locals)(hex:X.ex=[])(L:z0E X.prog X.w X.stack H s s' ea cls a0 B H')
  (fl:Heap.FlyingW B X.outer ea cls a0 h') (sl:s'.heap.UpToSlots h'):z0E X.prog X.w X.outer X.H₀ X.s₀ { s' with heap:=h' } ea cls a0 B H' where
 os:=L.os.trans I.os
 bare:=L.bare
 fly:=fl
 hok:=L.hok
 inB:=λb o e hb=>by
  have nx:b ∉ X.ex:=by rw[hex];simp
  obtain⟨o1,e1⟩:=I.base.there b o e nx;have hb' :=I.old hX hf e hb;exact⟨λn=>(L.inB b o (I.base.keep b o e n hb nx) hb').1 (I.base.free b o e n nx),(L.inB b o1 e1 hb').2⟩
 un:=by
  have nx:∀b,b ∉ X.ex:=λb=>by rw[hex];simp
  have slot:∀b o,X.s₀.heap.get? b=some o->X.H₀ b=none->b∈frs X.outer->∃sl,h'.get? b=some { o with slots:=sl }:=λb o e n hb=>by
   obtain⟨sl1,e1⟩:=I.base.slot b o e n hb (nx b);have n1:=I.base.free b o e n (nx b);obtain⟨sl2,e2⟩:=L.un.slot b _ e1 n1 (Ym hX hf hb) (by simp)
   obtain⟨_,o3,e3,nf⟩:=I.frNf b (Ym hX hf hb);rw[e1]at e3;cases e3;obtain⟨sl4,e4⟩:=sl b _ e2 nf;exact⟨sl4,e4⟩
  refine⟨λb o e n hb _=> ?_,λb o e n hb _=>slot b o e n hb,λb o e n _=> ?_,λb o e _=> ?_,λb xs e=>L.un.tups b xs (I.base.tups b xs e),λb o xs e=>L.un.frzs b o xs (I.base.frzs b o xs e),λb ps q e=>L.un.tbls b ps q (I.base.tbls b ps q e)⟩
  ·exact fl.1 b o ((L.inB b o (I.base.keep b o e n hb (nx b)) (I.old hX hf e hb)).1 (I.base.free b o e n (nx b)))
  ·obtain⟨o1,e1⟩:=I.base.there b o e (nx b);exact L.un.free b o1 e1 (I.base.free b o e n (nx b)) (by simp)
  ·by_cases hb:b∈frs X.outer
   ·obtain⟨sl1,e1⟩:=slot b o e (I.ok.frf b hb) hb;exact⟨_,e1⟩
   ·obtain⟨o1,e1⟩:=I.base.there b o e (nx b);obtain⟨o',e'⟩:=(L.inB b o1 e1 (I.old hX hf e hb)).2;exact⟨o',fl.1 b o' e'⟩
end
section
variable {P:Program}{w:World}{K:Frag}{mg:Str->Option Value}{base:Heap}{N:List Str}{qual:Str}{scope:Scope}{f:Addr}{cd:Value}{A:Around}{outer:List Env}{s:Shared}{H:Hp}{E:XK}
theorem vI:Zo (CX1 P w) (Wv (CX1 P w) P w K mg base N qual scope f cd A outer s H E) E:=by
 intro pins σ H1 s1 e s' I ⟨ea,cls,a0,B,H',he,L,hE⟩;subst he;exact wpAny_leaves_onW I.ok.frames rfl L.fly λh' fl sl=>⟨ea,cls,a0,B,H',rfl,L.out I rfl rfl rfl fl sl,hE⟩
end
end L2
namespace L2
open PySem PySem.Spec PyProof.Rows PySem.W
noncomputable def ExAt (cls:Value)(a:Addr)(h:Heap):Prop:=∃o,h.get? a=some o/\o.cls=cls
section
end
end L2
namespace L2
open PySem PySem.Spec PyProof.Rows PySem.W
section
end
end L2
namespace PySem
open PySem.W
section
end
end PySem
namespace L2
open PySem PySem.Spec PyProof.Rows PySem.W
section
def KG (X:Cx)(E:XK):Prop:=∀(pins:List (Addr×Obj)) (σ:St) (H:Hp) (s:Shared) (e:Value) (s' :Shared) (C:Addr) (m:Str->Option Value) (E' :Value->Shared->Prop) (cenv:Env),Inv X pins σ H s->s.heap.Ns C m->H C=none->X.s₀.heap.objs.size<=C->C ∉ frs X.stack->cenv.frame=X.env.frame->CX1 X.prog X.w X.stack H s E e s' ->
 wpAny (model X.prog X.w) X.A (noteFrame e cenv) (λ_ s'' =>∃m,s''.heap.Ns C m/\∀h',bZ C s''.heap h' ->∀env:Env,env.locals=C->wpAny (model X.prog X.w) X.A (passOn "comprehension.variables-let-go" e env:Sem Value) (λ_ _=>False) X.xe { s'' with heap:=h' }) E' s'
theorem jT (h:E=λ_ _ _=>False):KG X E:=λpins σ H s e s' C m E' cenv I _ _ _ _ _ ⟨_,_,_,_,_,_,_,z⟩=>by subst h;exact z.elim
end
end L2
namespace L2
open PySem PySem.Spec PyProof.Rows
theorem PE.imp (h:PE X e t)(i:∀σ H Q,t' σ H Q->t σ H Q):PE X e t' :=λpins s σ H Q I q=>h _ s σ H Q I (i σ H Q q)
theorem PT.imp (h:PT X e t)(i:∀σ H Q,t' σ H Q->t σ H Q):PT X e t' :=λpins s σ H Q I q=>h _ s σ H Q I (i σ H Q q)
theorem PA.imp (h:PA X e t)(i:∀σ H Q,t' σ H Q->t σ H Q):PA X e t' :=λpos pins s σ H Q I q=>h pos _ s σ H Q I (i σ H Q q)
theorem PS.imp (h:PS X e t)(i:∀D σ H,t' D σ H->t D σ H):PS X e t' :=λpins s σ H D I q=>h _ s σ H D I (i D σ H q)
theorem PSs.imp (h:PSs X e t)(i:∀D σ H,t' D σ H->t D σ H):PSs X e t' :=λpins s σ H D I q=>h _ s σ H D I (i D σ H q)
end L2
namespace PV
open PySem
noncomputable def WA:Expr->Bool
 | .Starred _ _=>false
 | _=>true
theorem zR (h:WA e=true):starEach (e :: rest) env=(false,eval e env) :: starEach rest env:=by
 cases e <;> first | rfl | cases h
theorem st2 (h:WA a=true)(h' :WA b=true):starEach [a,b] env=[(false,eval a env),(false,eval b env)]:=by
 rw[zR h,zR h'];rfl
theorem st1 (h:WA a=true):starEach [a] env=[(false,eval a env)]:=by
 rw[zR h];rfl
theorem Zm {pos:Pos}{env:Env}:∀{es:List Expr},es.all WA=true->((backTo pos (starEach es env)).any λx=>x.fst)=false
 | [],_=>rfl
 | e :: es,h=>by
  rw[cV,ag]at h;rw[zR h.1];have:=Zm (pos:=pos) (env:=env) h.2;show (false || ((backTo pos _).any λx=>x.fst))=false
  rw[this];rfl
open PySem PySem.Spec PyProof.Rows L2
noncomputable abbrev Sg:=L2.St
inductive T where
 | non | bl (b:Bool) | int (i:Int) | str (x:Str) | tup (xs:List T) | lst (xs:List T) | fz (xs:List T)
inductive R (α:Type) where
 | ok (a:α) | ex (c:Nat) | bad
noncomputable def R.bind {α β:Type}(r:R α)(f:α->R β):R β:=match r with
 | .ok a=>f a
 | .ex c=> .ex c
 | .bad=> .bad
mutual
inductive Rep (H:Hp):V->T->Prop where
 | non:Rep H .non .non
 | bl (b:Bool):Rep H (.bl b) (.bl b)
 | int (i:Int):Rep H (.int i) (.int i)
 | str (x:Str):Rep H (.str x) (.str x)
 | tup {a:Addr} {xs:List V} {ts:List T}:H a=some (.tup xs)->zF H xs ts->Rep H (.ref a) (.tup ts)
 | lst {a:Addr} {xs:List V} {ts:List T}:H a=some (.lst xs)->zF H xs ts->Rep H (.ref a) (.lst ts)
 | fz {a:Addr} {o:Obj} {xs:List V} {ts:List T}:H a=some (.frz o (.lst xs))->zF H xs ts->Rep H (.ref a) (.fz ts)
inductive zF (H:Hp):List V->List T->Prop where
 | nil:zF H [] []
 | cons {v:V} {t:T} {vs:List V} {ts:List T}:Rep H v t->zF H vs ts->zF H (v :: vs) (t :: ts)
end
mutual
theorem Rep.mono {H H' :Hp}(s:zr H H'):∀{v:V} {t:T},Rep H v t->Rep H' v t
 | _,_,.non=> .non
 | _,_,.bl b=> .bl b
 | _,_,.int i=> .int i
 | _,_,.str x=> .str x
 | _,_,.tup h r=> .tup (s _ _ h) (zF.mono s r)
 | _,_,.lst h r=> .lst (s _ _ h) (zF.mono s r)
 | _,_,.fz h r=> .fz (s _ _ h) (zF.mono s r)
theorem zF.mono {H H' :Hp}(s:zr H H'):∀{v:List V} {t:List T},zF H v t->zF H' v t
 | _,_,.nil=> .nil
 | _,_,.cons h r=> .cons (Rep.mono s h) (zF.mono s r)
end
theorem zF.length {H:Hp}:∀{vs:List V} {ts:List T},zF H vs ts->vs.length=ts.length
 | _,_,.nil=>rfl
 | _,_,.cons _ r=>congrArg _ (zF.length r)
theorem zF.get {H:Hp}:∀{vs:List V} {ts:List T} {i:Nat} {t:T},zF H vs ts->ts[i]? =some t->∃v,vs[i]? =some v/\Rep H v t
 | _,_,_,_,.nil,e=>by simp at e
 | _,_,0,_,.cons r _,e=>by simp at e;subst e;exact⟨_,rfl,r⟩
 | _,_,i+1,t,.cons _ q,e=>by
  obtain⟨v,h1,h2⟩:=zF.get q (by simpa using e)
  exact⟨v,by simpa using h1,h2⟩
theorem zF.getV {H:Hp}:∀{vs:List V} {ts:List T} {i:Nat} {v:V},zF H vs ts->vs[i]? =some v->∃t,ts[i]? =some t/\Rep H v t
 | _,_,_,_,.nil,e=>by simp at e
 | _,_,0,_,.cons r _,e=>by simp at e;subst e;exact⟨_,rfl,r⟩
 | _,_,i+1,v,.cons _ q,e=>by
  obtain⟨t,h1,h2⟩:=zF.getV q (by simpa using e)
  exact⟨t,by simpa using h1,h2⟩
theorem zF.append {H:Hp}:∀{vs ws:List V} {ts us:List T},zF H vs ts->zF H ws us->zF H (vs++ws) (ts++us)
 | _,_,_,_,.nil,q=>q
 | _,_,_,_,.cons r t,q=> .cons r (zF.append t q)
theorem zF.take {H:Hp}:∀{vs:List V} {ts:List T} (n:Nat),zF H vs ts->zF H (vs.take n) (ts.take n)
 | _,_,0,_=> .nil
 | _,_,_+1,.nil=> .nil
 | _,_,n+1,.cons r t=> .cons r (zF.take n t)
theorem zF.drop {H:Hp}:∀{vs:List V} {ts:List T} (n:Nat),zF H vs ts->zF H (vs.drop n) (ts.drop n)
 | _,_,0,r=>r
 | _,_,_+1,.nil=> .nil
 | _,_,n+1,.cons _ t=>zF.drop n t
theorem zF.rep {H:Hp}{vs:List V}{ts:List T}(h:zF H vs ts):∀n:Nat,zF H (ah n vs).flatten (ah n ts).flatten
 | 0=> .nil
 | n+1=>by
  exact h.append (zF.rep h n)
theorem zF.nil_iff (h:zF H vs ts):vs=[]↔ts=[]:=by
 cases h <;> simp
def zO (B H H' :Hp):Hp:=λb=>match H b with
 | none=>H' b
 | some _=>B b
theorem Z6 (h:H b=none):zO B H H' b=H' b:=by unfold zO;rw[h]
theorem Z7 (h:H b=some o):zO B H H' b=B b:=by unfold zO;rw[h]
theorem zO.ge (s:zr B H)(s' :zr H H'):zr B (zO B H H'):=λb o h=>by
 rw[Z7 (s b o h)];exact h
theorem zO.le (s:zr B H)(s' :zr H H'):zr (zO B H H') H' :=λb o h=>by
 cases q:H b with
 | none=>rw[Z6 q]at h;exact h
 | some u=>rw[Z7 q]at h;exact s' b o (s b o h)
theorem zO.self (B H:Hp)(s:zr B H):zO B H H=B:=by
 funext b
 cases q:H b with
 | none=>
  rw[Z6 q,q];cases z:B b with
  | none=>rfl
  | some o=>rw[s b o z]at q;cases q
 | some u=>rw[Z7 q]
theorem zO.trans (s1:zr H H1)(s2:zr H1 H2):zO (zO B H H1) H1 H2=zO B H H2:=by
 funext b
 cases q:H b with
 | none=>
  rw[Z6 q];cases z:H1 b with
  | none=>rw[Z6 z]
  | some o=>rw[Z7 z,Z6 q,z,s2 b o z]
 | some u=>rw[Z7 q,Z7 (s1 b u q),Z7 q]
inductive Fd where
 | tv (t:T) | tl (ts:List T)
noncomputable abbrev Ob:=Nat×List (Str×Fd)
noncomputable def xX:List Str:=["kind","remaining","done","undone","first","last","answered"]
def InC (vs:List (Str×V)):Prop:=∀f,f ∉ xX->vs.lookup f=none
inductive Sl where
 | un | vl (t:T) | ow (ts:List T) | xc (c:Nat) | ob (k n:Nat) | oc (k:Nat) (fs:List (Str×Fd)) | st (os:List Ob)
noncomputable def Sl.isS:Sl->Bool
 | .ob _ _=>true
 | .st _=>true
 | _=>false
noncomputable def Sl.isO:Sl->Bool
 | .ob _ _=>true
 | .oc _ _=>true
 | .st _=>true
 | _=>false
noncomputable abbrev En:=List Sl
structure Fx where
 B0:Hp
 H0:Hp
 E:XK
 cl:Nat->Value
 as:List Addr
def uA (ρ:En)(σ:Sg)(l:Addr):Prop:=∀(j:Nat) (us:List T),ρ[j]? =some (Sl.ow us)->σ[j]? ≠ some (some (V.ref l))
def FdR (Y:Fx)(B:Hp)(ρ:En)(σ:Sg)(H:Hp)(o:Addr->Prop)(v:V):Fd->Prop
 | .tv t=>Rep B v t
 | .tl ts=>∃l xs,v= .ref l/\B l=none/\Y.H0 l=none/\H l=some (.lst xs)/\zF B xs ts/\uA ρ σ l/\o l
def FsO (B H:Hp)(vs:List (Str×V))(fs:List (Str×Fd)):Prop:=∀(m:Nat) (f:Str) (d:Fd),fs[m]? =some (f,d)->∃v,vs[m]? =some (f,v)/\match d with
 | .tv t=>Rep B v t
 | .tl ts=>∃l xs,v= .ref l/\H l=some (.lst xs)/\zF B xs ts
theorem FsO.mono {B B' H H' :Hp}{vs:List (Str×V)}{fs:List (Str×Fd)}(h:FsO B H vs fs)(s:zr B B')(s' :zr H H'):FsO B' H' vs fs:=λm f d e=>by
 obtain⟨v,e1,r⟩:=h m f d e;refine⟨v,e1, ?_⟩;cases d with
 | tv t=>exact Rep.mono s r
 | tl ts=>obtain⟨l,xs,a,b,c⟩:=r;exact⟨l,xs,a,s' _ _ b,c.mono s⟩
structure StI (Y:Fx) (B:Hp) (ρ:En) (σ:Sg) (H:Hp) (as:List Addr) (O:Addr->Option (Nat×Nat)):Prop where
 pre:Y.as <+:as
 len:∀(i:Nat) (os:List Ob),ρ[i]? =some (Sl.st os)->as.length=os.length
 one:∀(i j:Nat) (os os' :List Ob),ρ[i]? =some (Sl.st os)->ρ[j]? =some (Sl.st os')->i=j
 ob:∀(i k n:Nat),ρ[i]? =some (Sl.ob k n)->∃a C dx vs,as[n]? =some a/\σ[i]? =some (some (V.ref a))/\Y.cl k= .ref C/\H a=some (.ins C dx vs)/\B a=none/\Y.H0 a=none/\InC vs
 oc:∀(i k:Nat) (fs:List (Str×Fd)),ρ[i]? =some (Sl.oc k fs)->∃a C dx vs,σ[i]? =some (some (V.ref a))/\Y.cl k= .ref C/\Y.H0 a=some (.ins C dx vs)/\InC vs/\FsO B Y.H0 vs fs
 st:∀(i:Nat) (os:List Ob),ρ[i]? =some (Sl.st os)->∀(n k:Nat) (fs:List (Str×Fd)),os[n]? =some (k,fs)->∃a C dx vs,as[n]? =some a/\Y.cl k= .ref C/\H a=some (.ins C dx vs)/\B a=none/\Y.H0 a=none/\O a=some (n,0)/\(vs.length=fs.length/\InC vs)/\
  ∀(m:Nat) (f:Str) (d:Fd),fs[m]? =some (f,d)->∃v,vs[m]? =some (f,v)/\FdR Y B ρ σ H (λl=>O l=some (n,m+1)) v d
structure SI (Y:Fx) (B:Hp) (ρ:En) (σ:Sg) (H:Hp):Prop where
 s0:zr Y.B0 Y.H0
 sH:zr Y.H0 H
 sB:zr B H
 old:∀b o,Y.H0 b=some o->B b=Y.B0 b
 len:ρ.length=σ.length
 vl:∀(i:Nat) (t:T),ρ[i]? =some (Sl.vl t)->∃v:V,σ[i]? =some (some v)/\Rep B v t
 ow:∀(i:Nat) (ts:List T),ρ[i]? =some (Sl.ow ts)->∃(a:Addr) (xs:List V),σ[i]? =some (some (V.ref a))/\B a=none/\Y.H0 a=none/\H a=some (.lst xs)/\zF B xs ts/\
  ∀(j:Nat) (us:List T),j ≠ i->ρ[j]? =some (Sl.ow us)->σ[j]? ≠ some (some (V.ref a))
 xc:∀(i:Nat) (c:Nat),ρ[i]? =some (Sl.xc c)->∃a:Addr,σ[i]? =some (some (V.ref a))/\B a=some (.ext (ExAt (Y.cl c) a))
 st:∃as O,StI Y B ρ σ H as O
theorem StI.on {Y Y' :Fx}{B B' :Hp}{ρ ρ' :En}{σ σ' :Sg}{H H' :Hp}{as:List Addr}{O:Addr->Option (Nat×Nat)}(x:StI Y B ρ σ H as O)(hO:∀(i:Nat) (s:Sl),s.isO=true->ρ'[i]? =some s->ρ[i]? =some s/\σ'[i]? =σ[i]?)(hB:zr B B')(hc:Y'.cl=Y.cl)(hA:Y'.as=Y.as)(h0:zr Y.H0 Y'.H0)
  (hH:∀b o,H b=some o->B b=none->Y.H0 b=none->((∃C dx vs,o= .ins C dx vs)\/uA ρ σ b)->H' b=some o/\B' b=none/\Y'.H0 b=none/\(uA ρ σ b->uA ρ' σ' b)):StI Y' B' ρ' σ' H' as O where
 pre:=by rw[hA];exact x.pre
 len:=λi os h=>x.len i os (hO i _ rfl h).1
 one:=λi j os os' h1 h2=>x.one i j os os' (hO i _ rfl h1).1 (hO j _ rfl h2).1
 ob:=λi k n h=>by
  obtain⟨h1,h2⟩:=hO i _ rfl h;obtain⟨a,C,dx,vs,e1,e2,e3,e4,e5,e6⟩:=x.ob i k n h1;obtain⟨g1,g2,g3,_⟩:=hH a _ e4 e5 e6.1 (.inl ⟨_,_,_,rfl⟩);rw[h2,hc];exact⟨a,C,dx,vs,e1,e2,e3,g1,g2,g3,e6.2⟩
 oc:=λi k fs h=>by
  obtain⟨h1,h2⟩:=hO i _ rfl h;obtain⟨a,C,dx,vs,e1,e2,e3,e4,e5⟩:=x.oc i k fs h1;rw[h2,hc];exact⟨a,C,dx,vs,e1,e2,h0 _ _ e3,e4,e5.mono hB h0⟩
 st:=λi os h n k fs e=>by
  obtain⟨a,C,dx,vs,e1,e2,e3,e4,e5,e6,e7,e8⟩:=x.st i os (hO i _ rfl h).1 n k fs e;obtain⟨g1,g2,g3,_⟩:=hH a _ e3 e4 e5 (.inl ⟨_,_,_,rfl⟩);refine⟨a,C,dx,vs,e1,by rw[hc];exact e2,g1,g2,g3,e6,e7,λm f d z=> ?_⟩
  obtain⟨v,z1,z2⟩:=e8 m f d z;refine⟨v,z1, ?_⟩;cases d with
  | tv t=>exact Rep.mono hB z2
  | tl ts=>
   obtain⟨l,xs,p1,p2,p3,p4,p5,p6,p7⟩:=z2;obtain⟨g1,g2,g3,g4⟩:=hH l _ p4 p2 p3 (.inr p6);exact⟨l,xs,p1,g2,g3,g1,p5.mono hB,g4 p6,p7⟩
theorem StI.no (h:∀(i:Nat) (s:Sl),s.isO=true->ρ[i]? ≠ some s):∃as O,StI Y B ρ σ H as O:=⟨Y.as,λ_=>none,cg _,λi os e=>(h i _ rfl e).elim,λi j os os' e=>(h i _ rfl e).elim,λi k n e=>(h i _ rfl e).elim,λi k fs e=>(h i _ rfl e).elim,λi os e=>(h i _ rfl e).elim⟩
theorem SI.grow {Y:Fx}{B:Hp}{ρ:En}{σ:Sg}{H H' :Hp}(I:SI Y B ρ σ H)(s:zr H H'):SI Y (zO B H H') ρ σ H' where
 s0:=I.s0
 sH:=I.sH.trans s
 sB:=zO.le I.sB s
 old:=λb o h=>by rw[Z7 (I.sH b o h)];exact I.old b o h
 len:=I.len
 vl:=λi t h=>let ⟨v,e,r⟩:=I.vl i t h;⟨v,e,r.mono (zO.ge I.sB s)⟩
 ow:=λi ts h=>let ⟨a,xs,e,b,h0,hh,r,d⟩:=I.ow i ts h;⟨a,xs,e,by rw[Z7 hh];exact b,h0,s _ _ hh,r.mono (zO.ge I.sB s),d⟩
 xc:=λi c h=>let ⟨a,e,r⟩:=I.xc i c h;⟨a,e,zO.ge I.sB s a _ r⟩
 st:=let ⟨as,O,x⟩:=I.st;⟨as,O,x.on (λ_ _ _ h=>⟨h,rfl⟩) (zO.ge I.sB s) rfl rfl (zr.refl _) λb o h hb h0 _=>⟨s _ _ h,by rw[Z7 h];exact hb,h0,id⟩⟩
def XP (Y:Fx)(B:Hp)(c:Nat):Prop:=∀(d:Option Addr) (H' :Hp),zr Y.H0 H' ->zr B H' ->Y.E (Y.cl c) d H'
def Po {α β:Type}(Y:Fx)(rel:Hp->Hp->β->α->Prop)(B H:Hp)(r:R α)(Q:β->Hp->Prop):Prop:=match r with
 | .ok a=>∀b H',zr H H' ->rel (zO B H H') H' b a->Q b H'
 | .ex c=>XP Y B c
 | .bad=>False
abbrev rC:Hp->Hp->V->T->Prop:=λB _ v t=>Rep B v t
abbrev rB:Hp->Hp->V->T->Prop:=λ_ H v t=>Rep H v t
abbrev rCs:Hp->Hp->List V->List T->Prop:=λB _ v t=>zF B v t
abbrev rE {α:Type}:Hp->Hp->α->α->Prop:=λ_ _ a b=>a=b
def tS {α β:Type}(Y:Fx)(rel:Hp->Hp->β->α->Prop)(f:En->R α)(ρ:En):Sg->Hp->(β->Hp->Prop)->Prop:=λσ H Q=>∃B,SI Y B ρ σ H/\Po Y rel B H (f ρ) Q
structure Snd (X:Cx) (Y:Fx) (e:Expr) (f:En->R T):Prop where
 mk ::
 go:∀ρ,PE X e (tS Y rC f ρ)
instance {X:Cx}{Y:Fx}{e:Expr}{f:En->R T}:CoeFun (Snd X Y e f) λ_=>∀ρ,PE X e (tS Y rC f ρ):=⟨Snd.go⟩
structure j9 (X:Cx) (Y:Fx) (e:Expr) (f:En->R T):Prop where
 mk ::
 go:∀ρ,PE X e (tS Y rB f ρ)
instance {X:Cx}{Y:Fx}{e:Expr}{f:En->R T}:CoeFun (j9 X Y e f) λ_=>∀ρ,PE X e (tS Y rB f ρ):=⟨j9.go⟩
structure Wj (X:Cx) (Y:Fx) (e:Expr) (f:En->R Bool):Prop where
 mk ::
 go:∀ρ,PT X e (tS Y rE f ρ)
instance {X:Cx}{Y:Fx}{e:Expr}{f:En->R Bool}:CoeFun (Wj X Y e f) λ_=>∀ρ,PT X e (tS Y rE f ρ):=⟨Wj.go⟩
structure uq (X:Cx) (Y:Fx) (es:List Expr) (f:En->R (List T)):Prop where
 mk ::
 go:∀ρ,PA X es (tS Y rCs f ρ)
instance {X:Cx}{Y:Fx}{es:List Expr}{f:En->R (List T)}:CoeFun (uq X Y es f) λ_=>∀ρ,PA X es (tS Y rCs f ρ):=⟨uq.go⟩
theorem step {α α' β β' :Type}{rel:Hp->Hp->β->α->Prop}{rel' :Hp->Hp->β' ->α' ->Prop}{f:En->R α}{k:α->R α'}{Q:β' ->Hp->Prop}{K:β->Hp->Prop}
  (I:SI Y B ρ σ H) (h:Po Y rel' B H ((f ρ).bind k) Q)
  (n:∀a b H1,f ρ= .ok a->zr H H1->rel (zO B H H1) H1 b a->SI Y (zO B H H1) ρ σ H1->Po Y rel' (zO B H H1) H1 (k a) Q->K b H1):tS Y rel f ρ σ H K:=by
 refine⟨B,I, ?_⟩;cases e:f ρ with
 | bad=>rw[e]at h;exact h
 | ex c=>rw[e]at h;exact h
 | ok a=>
  rw[e]at h;intro b H1 s r;refine n a b H1 e s r (I.grow s) ?_;have h' :Po Y _ B H (k a) Q:=h;revert h';cases k a with
  | bad=>exact λh' =>h'
  | ex c=>exact λh' d H' s0 sB' =>h' d H' s0 ((zO.ge I.sB s).trans sB')
  | ok a' =>exact λh' b' H2 s2 r2=>h' b' H2 (s.trans s2) (by rw[← zO.trans s s2];exact r2)
theorem ZH {α β:Type}{rel:Hp->Hp->β->α->Prop}{a:α}{b:β}{Q:β->Hp->Prop}(I:SI Y B ρ σ H)(h:Po Y rel B H (.ok a) Q)(r:rel B H b a):Q b H:=h b H (zr.refl H) (by rw[zO.self B H I.sB];exact r)
theorem Snd.b {X:Cx}{Y:Fx}{e:Expr}{f:En->R T}(h:Snd X Y e f):j9 X Y e f:= .mk λρ=>PE.imp (h ρ) λσ H Q ⟨B,I,q⟩=>⟨B,I,by
 revert q;cases f ρ with
 | bad=>exact λq=>q
 | ex c=>exact λq=>q
 | ok a=>exact λq b H' s r=>q b H' s (r.mono (zO.le I.sB s))⟩
section
def vE (i:Nat):En->R T:=λρ=>match ρ[i]? with
 | some (.vl t)=> .ok t
 | _=> .bad
def vB (i:Nat):En->R T:=λρ=>match ρ[i]? with
 | some (.vl t)=> .ok t
 | some (.ow ts)=> .ok (.lst ts)
 | _=> .bad
def cE (t:T):En->R T:=λ_=> .ok t
theorem z1D (i:Nat)(h:PE X (.Name x pos) (wg i)):Snd X Y (.Name x pos) (vE i):= .mk λρ=>PE.imp h λσ H Q ⟨B,I,q⟩=>by
 unfold vE at q;split at q
 ·rename_i t e;obtain⟨v,e1,r⟩:=I.vl i t e;exact⟨v,e1,ZH I q r⟩
 ·exact q.elim
theorem KH (i:Nat){x:Str}(h:PE X (.Name x pos) (wg i)):j9 X Y (.Name x pos) (vB i):= .mk λρ=>PE.imp h λσ H Q ⟨B,I,q⟩=>by
 unfold vB at q;split at q
 ·rename_i t e;obtain⟨v,e1,r⟩:=I.vl i t e;exact⟨v,e1,ZH I q (r.mono I.sB)⟩
 ·rename_i ts e;obtain⟨a,xs,e1,_,_,hh,r,_⟩:=I.ow i ts e;exact⟨.ref a,e1,ZH I q (.lst hh (r.mono I.sB))⟩
 ·exact q.elim
theorem z1E {i j}:Snd X Y (.Constant (.int i) j pos) (cE (.int i)):= .mk λρ=>PE.imp Kc λσ H Q ⟨B,I,q⟩=>ZH I q (.int i)
theorem s_bl {i j}:Snd X Y (.Constant (.bool i) j pos) (cE (.bl i)):= .mk λρ=>PE.imp z1j λσ H Q ⟨B,I,q⟩=>ZH I q (.bl i)
theorem z1F {j}:Snd X Y (.Constant .none j pos) (cE .non):= .mk λρ=>PE.imp Ke λσ H Q ⟨B,I,q⟩=>ZH I q .non
theorem z1G {i j}:Snd X Y (.Constant (.str i) j pos) (cE (.str i)):= .mk λρ=>PE.imp VG λσ H Q ⟨B,I,q⟩=>ZH I q (.str i)
def zj:En->R (List T):=λ_=> .ok []
def z9 (f:En->R T)(g:En->R (List T)):En->R (List T):=λρ=>(f ρ).bind λt=>(g ρ).bind λts=> .ok (t :: ts)
theorem z1H:uq X Y [] zj:= .mk λρ=>PA.imp zQ λσ H Q ⟨B,I,q⟩=>ZH I q .nil
theorem KI {es:List Expr}{g:En->R (List T)}(h:Snd X Y a fa)(hs:uq X Y es g)(hq:starEach (a :: es) X.env=(false,eval a X.env) :: starEach es X.env:=by exact zR rfl):uq X Y (a :: es) (z9 fa g):= .mk λρ=>
 PA.imp (zz (h ρ) (hs ρ) hq) λσ H Q ⟨B,I,q⟩=>step I q λt v H1 _ s1 r1 I1 q1=>step I1 q1 λts vs H2 _ s2 r2 I2 q2=>ZH I2 q2 (.cons (r1.mono (zO.ge I1.sB s2)) r2)
theorem zr.new (h:H p=none)(o:HO):zr H (upd H p o):=λb u q=>by rw[zv (zL q h)];exact q
theorem ja (h:H p=none)(o:HO):zO B H (upd H p o) p=some o:=by rw[Z6 h,zA]
noncomputable def bnd:Nat:=16777216
theorem Zp (h:n<=bnd):n<=sizeLine:=by exact h
def Zh (g:En->R (List T)):En->R T:=λρ=>(g ρ).bind λts=>if ts.length<=bnd then .ok (.tup ts) else .bad
def j7 (g:En->R (List T)):En->R T:=λρ=>(g ρ).bind λts=>if ts.length<=bnd then .ok (.lst ts) else .bad
theorem xY {ρ:En}{σ:Sg}{B H:Hp}{xs:List V}{ts:List T}(I:SI Y B ρ σ H)(r:zF B xs ts){p:Addr}(h:H p=none):Rep (zO B H (upd H p (.tup xs))) (.ref p) (.tup ts):=
 .tup (ja h _) (r.mono (zO.ge I.sB (zr.new h _)))
theorem xZ {ρ:En}{σ:Sg}{B H:Hp}{xs:List V}{ts:List T}(I:SI Y B ρ σ H)(r:zF B xs ts){p:Addr}(h:H p=none):Rep (zO B H (upd H p (.lst xs))) (.ref p) (.lst ts):=
 .lst (ja h _) (r.mono (zO.ge I.sB (zr.new h _)))
theorem z1I {es:List Expr}{g:En->R (List T)}{x1}(h:uq X Y es g):Snd X Y (.Tuple es x1 pos) (Zh g):= .mk λρ=>PE.imp (VN (h ρ)) λσ H Q ⟨B,I,q⟩=>
 step I q λts vs H1 _ s1 r1 I1 q1=>by
  split at q1
  ·rename_i hb;refine⟨by rw[r1.length];exact Zp hb,λp hp=>q1 _ _ (zr.new hp _) (xY I1 r1 hp)⟩
  ·exact q1.elim
theorem z1J {es:List Expr}{g:En->R (List T)}(h:uq X Y es g):Snd X Y (.List es pos) (j7 g):= .mk λρ=>PE.imp (Wq (h ρ)) λσ H Q ⟨B,I,q⟩=>
 step I q λts vs H1 _ s1 r1 I1 q1=>by
  split at q1
  ·rename_i hb;refine⟨by rw[r1.length];exact Zp hb,λp hp=>q1 _ _ (zr.new hp _) (xZ I1 r1 hp)⟩
  ·exact q1.elim
end
end PV
namespace PV
open PySem PySem.Spec PyProof.Rows L2
noncomputable def eqL (f:T->T->Option Bool):List T->List T->Option Bool
 | [],[]=>some true
 | [],_ :: _=>some false
 | _ :: _,[]=>some false
 | x :: xs,y :: ys=>match f x y with
  | none=>none
  | some b=>match eqL f xs ys with
   | none=>none
   | some c=>some (b && c)
noncomputable def b2 (b:Bool):Int:=if b then 1 else 0
def eqF:Nat->T->T->Option Bool
 | _,.non,.non=>some true
 | _,.bl a,.bl b=>some (a == b)
 | _,.bl a,.int j=>some (b2 a == j)
 | _,.int i,.bl b=>some (i == b2 b)
 | _,.int i,.int j=>some (i == j)
 | _,.str x,.str y=>some (x == y)
 | n+1,.tup xs,.tup ys=>eqL (eqF n) xs ys
 | n+1,.lst xs,.lst ys=>eqL (eqF n) xs ys
 | n+1,.fz xs,.lst ys=>eqL (eqF n) xs ys
 | n+1,.lst xs,.fz ys=>eqL (eqF n) xs ys
 | n+1,.fz xs,.fz ys=>eqL (eqF n) xs ys
 | 0,.tup _,.tup _=>none
 | 0,.lst _,.lst _=>none
 | 0,.fz _,.lst _=>none
 | 0,.lst _,.fz _=>none
 | 0,.fz _,.fz _=>none
 | _,.non,_=>some false
 | _,.bl _,_=>some false
 | _,.int _,_=>some false
 | _,.str _,_=>some false
 | _,.tup _,_=>some false
 | _,.lst _,_=>some false
 | _,.fz _,_=>some false
mutual
theorem Rep.fn {H:Hp}:∀{v:V} {t t' :T},Rep H v t->Rep H v t' ->t=t'
 | _,_,_,.non,.non=>rfl
 | _,_,_,.bl _,.bl _=>rfl
 | _,_,_,.int _,.int _=>rfl
 | _,_,_,.str _,.str _=>rfl
 | _,_,_,.tup h r,.tup h' r' =>by
  rw[h]at h';cases h';rw[zF.fn r r']
 | _,_,_,.tup h r,.lst h' r' =>by rw[h]at h';cases h'
 | _,_,_,.tup h r,.fz h' r' =>by rw[h]at h';cases h'
 | _,_,_,.lst h r,.tup h' r' =>by rw[h]at h';cases h'
 | _,_,_,.lst h r,.lst h' r' =>by
  rw[h]at h';cases h';rw[zF.fn r r']
 | _,_,_,.lst h r,.fz h' r' =>by rw[h]at h';cases h'
 | _,_,_,.fz h r,.tup h' r' =>by rw[h]at h';cases h'
 | _,_,_,.fz h r,.lst h' r' =>by rw[h]at h';cases h'
 | _,_,_,.fz h r,.fz h' r' =>by
  rw[h]at h';cases h';rw[zF.fn r r']
theorem zF.fn {H:Hp}:∀{v:List V} {t t' :List T},zF H v t->zF H v t' ->t=t'
 | _,_,_,.nil,.nil=>rfl
 | _,_,_,.cons h r,.cons h' r' =>by rw[Rep.fn h h',zF.fn r r']
end
theorem Zn {f:T->T->Option Bool}(hf:∀x b,f x x=some b->b=true):∀(xs:List T) (b:Bool),eqL f xs xs=some b->b=true
 | [],b,h=>by
  have h' :=h;cases h';rfl
 | x :: xs,b,h=>by
  unfold eqL at h;cases e:f x x with
  | none=>rw[e]at h;cases h
  | some c=>
   rw[e]at h;cases e' :eqL f xs xs with
   | none=>rw[e']at h;cases h
   | some d=>
    rw[e']at h;cases h;rw[hf x c e,Zn hf xs d e'];rfl
theorem Zb:∀(n:Nat) (t:T) (b:Bool),eqF n t t=some b->b=true
 | n,.non,b,h=>by unfold eqF at h;cases h;rfl
 | n,.bl x,b,h=>by unfold eqF at h;cases h;simp
 | n,.int x,b,h=>by unfold eqF at h;cases h;simp
 | n,.str x,b,h=>by unfold eqF at h;cases h;simp
 | 0,.tup x,b,h=>by cases h
 | 0,.lst x,b,h=>by cases h
 | 0,.fz x,b,h=>by cases h
 | n+1,.tup x,b,h=>by exact Zn (Zb n) x b h
 | n+1,.lst x,b,h=>by exact Zn (Zb n) x b h
 | n+1,.fz x,b,h=>by exact Zn (Zb n) x b h
theorem Yn {f:T->T->Option Bool}:∀{xs ys:List T} {b:Bool},eqL f xs ys=some b->
  ∃e:Nat->Bool,(∀j x y,xs[j]? =some x->ys[j]? =some y->f x y=some (e j))/\((a_ (min xs.length ys.length)).all e && xs.length == ys.length)=b
 | [],[],b,h=>by
  have h' :=h;cases h';exact⟨λ_=>true,λj x y h=>by simp at h,by simp⟩
 | [],y :: ys,b,h=>by
  have h' :=h;cases h';exact⟨λ_=>true,λj x y h=>by simp at h,by simp⟩
 | x :: xs,[],b,h=>by
  have h' :=h;cases h';exact⟨λ_=>true,λj x y h h' =>by simp at h',by simp⟩
 | x :: xs,y :: ys,b,h=>by
  unfold eqL at h;cases e:f x y with
  | none=>rw[e]at h;cases h
  | some c=>
   rw[e]at h;cases e' :eqL f xs ys with
   | none=>rw[e']at h;cases h
   | some d=>
    rw[e']at h;cases h;obtain⟨g,h1,h2⟩:=Yn e';refine⟨λj=>match j with | 0=>c | j+1=>g j,λj u v hu hv=> ?_, ?_⟩
    ·cases j with
     | zero=>simp at hu hv;subst hu hv;exact e
     | succ j=>exact h1 j u v (by simpa using hu) (by simpa using hv)
    ·have z:min (x :: xs).length (y :: ys).length=min xs.length ys.length+1:=by simp only[am];omega
     rw[z,cx,cV,ib];have z2:((x :: xs).length == (y :: ys).length)=(xs.length == ys.length):=by simp
     rw[z2,← h2,Bool.and_assoc];rfl
section
theorem ZJ (I:L2.Inv X pins σ H s)(h:H a=some (.tup xs))(r:zF H xs ts):∃its:List Value,zX xs its/\s.heap.IsTuple a its.toArray/\ts.length=its.length/\xs.length<=sizeLine:=by
 obtain⟨its,rv,p,z⟩:=I.tuple (SqT.of h);exact⟨its,rv,p,by rw[← r.length];exact rv.length,z⟩
theorem zT (I:L2.Inv X pins σ H s)(h:Rd H a (.lst xs))(r:zF H xs ts):∃its:List Value,zX xs its/\s.heap.IsList a its.toArray/\ts.length=its.length/\xs.length<=sizeLine:=by
 obtain⟨its,rv,p,z⟩:=I.list (.inl h);exact⟨its,rv,p.isList,by rw[← r.length];exact rv.length,z⟩
end
noncomputable abbrev EqN (A:Around)(s:Shared)(u u' :Value)(b:Bool):Prop:=cb A s u u' b/\fg A s u u' b/\df A s u u' (!b)
section
theorem Yo {f:T->T->Option Bool}{e:Nat->Bool}(r:zF H xs ts)(r' :zF H ys us)(v:zX xs its)(v' :zX ys its')
  (he:∀(j:Nat) (x y:T),ts[j]? =some x->us[j]? =some y->f x y=some (e j))
  (ih:∀(x y:T) (b:Bool) (p q:V) (u w:Value),f x y=some b->Rep H p x->Rep H q y->Z4 p u->Z4 q w->EqN A s u w b) (j:Nat) (h1:j < its.toArray.size) (h2:j < its'.toArray.size):
  cb A s its.toArray[j] its'.toArray[j] (e j):=by
 have l1:=v.length;have l2:=v'.length;have k1:j < xs.length:=by simp at h1;omega
 have k2:j < ys.length:=by simp at h2;omega
 obtain⟨t,et,rt⟩:=r.getV (ae k1);obtain⟨t',et',rt'⟩:=r'.getV (ae k2);obtain⟨u,eu,ru⟩:=v.get (ae k1);obtain⟨u',eu',ru'⟩:=v'.get (ae k2);have q1:=by
  have:its[j]? =some its.toArray[j]:=by simp at h1 ⊢
  rw[eu]at this;exact(aB this).symm
 have q2:=by
  have:its'[j]? =some its'.toArray[j]:=by simp at h2 ⊢
  rw[eu']at this;exact(aB this).symm
 rw[q1,q2];exact(ih t t' _ _ _ u u' (he j t t' et et') rt rt' ru ru').1
theorem X0 {A:Around}{a c:Addr}{xs ys:List V}{ts us:List T}{b:Bool}{f:T->T->Option Bool}(I:L2.Inv X pins σ H s)(hu:A.units < cLine)(ha:H a=some (.tup xs))(hc:H c=some (.tup ys))(r:zF H xs ts)(r' :zF H ys us)
  (hb:eqL f ts us=some b) (hr:∀x b,f x x=some b->b=true)
  (ih:∀(x y:T) (b:Bool) (p q:V) (u w:Value),f x y=some b->Rep H p x->Rep H q y->Z4 p u->Z4 q w->EqN A.in1 s u w b):EqN A s (.ref a) (.ref c) b:=by
 obtain⟨its,v,p,l,_⟩:=ZJ I ha r;obtain⟨its',v',p',l',_⟩:=ZJ I hc r';obtain⟨e,he,hb'⟩:=Yn hb;have hp:=Yo r r' v v' he ih;have z:((a_ (min its.toArray.size its'.toArray.size)).all e && its.toArray.size == its'.toArray.size)=b:=by
  rw[← hb'];simp[l,l']
 have R:=fg.tuples p p' hu hp;have N:=df.tuples p p' hu hp;rw[z]at R;have N' :df A s (.ref a) (.ref c) (!b):=by
  rw[← z];exact N
 refine⟨?_,R,N'⟩
 by_cases hac:a=c
 ·subst hac;rw[ha]at hc;cases hc;have:=r.fn r';subst this;rw[Zn hr ts b hb];exact iJ _
 ·exact g7 hac R
theorem wS {A:Around}{a c:Addr}{xs ys:List V}{ts us:List T}{b:Bool}{f:T->T->Option Bool}(I:L2.Inv X pins σ H s)(hu:A.units < cLine)(ha:Rd H a (.lst xs))(hc:Rd H c (.lst ys))(r:zF H xs ts)(r' :zF H ys us)
  (hb:eqL f ts us=some b) (hr:∀x b,f x x=some b->b=true)
  (ih:∀(x y:T) (b:Bool) (p q:V) (u w:Value),f x y=some b->Rep H p x->Rep H q y->Z4 p u->Z4 q w->EqN A.in1 s u w b):EqN A s (.ref a) (.ref c) b:=by
 obtain⟨its,v,p,l,_⟩:=zT I ha r;obtain⟨its',v',p',l',_⟩:=zT I hc r';obtain⟨e,he,hb'⟩:=Yn hb;have hp:=Yo r r' v v' he ih;have RN:fg A s (.ref a) (.ref c) b/\df A s (.ref a) (.ref c) (!b):=by
  by_cases hl:its.toArray.size=its'.toArray.size
  ·have z:(a_ its.toArray.size).all e=b:=by
    rw[← hb'];have:ts.length=us.length:=by simp at hl;omega
    rw[this];have k:its.toArray.size=us.length:=by simp;omega
    rw[k];simp
   have R:=fg.lists p p' hl hu hp;have N:=df.lists p p' hl hu hp;rw[z]at R;refine⟨R, ?_⟩;rw[← z];exact N
  ·have hl' :(its.toArray.size != its'.toArray.size)=true:=by simpa using hl
   have z:b=false:=by
    rw[← hb'];have:¬ ts.length=us.length:=by simp at hl;omega
    simp[this]
   subst z;exact⟨fg.lists_lengths p p' hl' hu,df.lists_lengths p p' hl' hu⟩
 refine⟨?_,RN.1,RN.2⟩
 by_cases hac:a=c
 ·subst hac;have hxy:xs=ys:=by
   rcases ha with ha | ⟨o,ha⟩ <;> rcases hc with hc | ⟨o',hc⟩ <;> (rw[ha]at hc;cases hc) <;> rfl
  subst hxy;have:=r.fn r';subst this;rw[Zn hr ts b hb];exact iJ _
 ·exact g7 hac RN.1
end
section
variable {X:Cx}{pins:List (Addr×Obj)}{σ:Sg}{H:Hp}{s:Shared}
theorem JH {A:Around}:A.in1.units=A.units+1:=rfl
set_option maxHeartbeats 2000000 in
theorem Yp (I:L2.Inv X pins σ H s):∀(A:Around),A.units < cLine->∀(x y:T) (b:Bool) (p q:V) (u w:Value),eqF 0 x y=some b->Rep H p x->Rep H q y->Z4 p u->Z4 q w->EqN A s u w b:=by
 intro A hu x y b p q u w h rp rq ru rw';have hu' :=hu;cases rp with
 | non=>
  obtain rfl:u=Value.none:=ru;cases rq with
  | non=>obtain rfl:w=Value.none:=rw';unfold eqF at h;cases h;exact⟨.same _,.none_none,.none_none⟩
  | bl c=>obtain rfl:w=Value.bool c:=rw';unfold eqF at h;cases h;exact⟨.none_bool _,.none_bool _,.none_bool _⟩
  | int c=>obtain⟨t,rfl⟩:=rw';unfold eqF at h;cases h;exact⟨.none_int _ _,.none_int _ _,.none_int _ _⟩
  | str c=>obtain⟨t,rfl⟩:=rw';unfold eqF at h;cases h;exact⟨.none_str _ _,.none_str _ _,.none_str _ _⟩
  | tup h1 r1=>obtain rfl:w=Value.ref _:=rw';unfold eqF at h;cases h;obtain⟨i,_,p,_⟩:=ZJ I h1 r1;exact⟨.none_tuple p hu',.none_tuple p hu',.none_tuple p hu'⟩
  | lst h1 r1=>obtain rfl:w=Value.ref _:=rw';unfold eqF at h;cases h;obtain⟨i,_,p,_⟩:=zT I (.inl h1) r1;exact⟨.none_list p hu',.none_list p hu',.none_list p hu'⟩
  | fz h1 r1=>obtain rfl:w=Value.ref _:=rw';unfold eqF at h;cases h;obtain⟨i,_,p,_⟩:=zT I (.inr ⟨_,h1⟩) r1;exact⟨.none_list p hu',.none_list p hu',.none_list p hu'⟩
 | bl d=>
  obtain rfl:u=Value.bool d:=ru;cases rq with
  | non=>obtain rfl:w=Value.none:=rw';unfold eqF at h;cases h;exact⟨.bool_none _,.bool_none _,.bool_none _⟩
  | bl c=>obtain rfl:w=Value.bool c:=rw';unfold eqF at h;cases h;exact⟨.bool_bool _ _,.bool_bool _ _,.bool_bool _ _⟩
  | int c=>obtain⟨t,rfl⟩:=rw';unfold eqF at h;cases h;exact⟨.bool_int _ _ _,.bool_int _ _ _,.bool_int _ _ _⟩
  | str c=>obtain⟨t,rfl⟩:=rw';unfold eqF at h;cases h;exact⟨.bool_str _ _ _,.bool_str _ _ _,.bool_str _ _ _⟩
  | tup h1 r1=>obtain rfl:w=Value.ref _:=rw';unfold eqF at h;cases h;obtain⟨i,_,p,_⟩:=ZJ I h1 r1;exact⟨.bool_tuple _ p hu',.bool_tuple _ p hu',.bool_tuple _ p hu'⟩
  | lst h1 r1=>obtain rfl:w=Value.ref _:=rw';unfold eqF at h;cases h;obtain⟨i,_,p,_⟩:=zT I (.inl h1) r1;exact⟨.bool_list _ p hu',.bool_list _ p hu',.bool_list _ p hu'⟩
  | fz h1 r1=>obtain rfl:w=Value.ref _:=rw';unfold eqF at h;cases h;obtain⟨i,_,p,_⟩:=zT I (.inr ⟨_,h1⟩) r1;exact⟨.bool_list _ p hu',.bool_list _ p hu',.bool_list _ p hu'⟩
 | int d=>
  obtain⟨t0,rfl⟩:=ru;cases rq with
  | non=>obtain rfl:w=Value.none:=rw';unfold eqF at h;cases h;exact⟨.int_none _ _,.int_none _ _,.int_none _ _⟩
  | bl c=>obtain rfl:w=Value.bool c:=rw';unfold eqF at h;cases h;exact⟨.int_bool _ _ _,.int_bool _ _ _,.int_bool _ _ _⟩
  | int c=>obtain⟨t,rfl⟩:=rw';unfold eqF at h;cases h;exact⟨.int_int _ _ _ _,.int_int _ _ _ _,.int_int _ _ _ _⟩
  | str c=>obtain⟨t,rfl⟩:=rw';unfold eqF at h;cases h;exact⟨.int_str _ _ _ _,.int_str _ _ _ _,.int_str _ _ _ _⟩
  | tup h1 r1=>obtain rfl:w=Value.ref _:=rw';unfold eqF at h;cases h;obtain⟨i,_,p,_⟩:=ZJ I h1 r1;exact⟨.int_tuple _ _ p hu',.int_tuple _ _ p hu',.int_tuple _ _ p hu'⟩
  | lst h1 r1=>obtain rfl:w=Value.ref _:=rw';unfold eqF at h;cases h;obtain⟨i,_,p,_⟩:=zT I (.inl h1) r1;exact⟨.int_list _ _ p hu',.int_list _ _ p hu',.int_list _ _ p hu'⟩
  | fz h1 r1=>obtain rfl:w=Value.ref _:=rw';unfold eqF at h;cases h;obtain⟨i,_,p,_⟩:=zT I (.inr ⟨_,h1⟩) r1;exact⟨.int_list _ _ p hu',.int_list _ _ p hu',.int_list _ _ p hu'⟩
 | str d=>
  obtain⟨t0,rfl⟩:=ru;cases rq with
  | non=>obtain rfl:w=Value.none:=rw';unfold eqF at h;cases h;exact⟨.str_none _ _,.str_none _ _,.str_none _ _⟩
  | bl c=>obtain rfl:w=Value.bool c:=rw';unfold eqF at h;cases h;exact⟨.str_bool _ _ _,.str_bool _ _ _,.str_bool _ _ _⟩
  | int c=>obtain⟨t,rfl⟩:=rw';unfold eqF at h;cases h;exact⟨.str_int _ _ _ _,.str_int _ _ _ _,.str_int _ _ _ _⟩
  | str c=>obtain⟨t,rfl⟩:=rw';unfold eqF at h;cases h;exact⟨.str_str _ _ _ _,.str_str _ _ _ _,.str_str _ _ _ _⟩
  | tup h1 r1=>obtain rfl:w=Value.ref _:=rw';unfold eqF at h;cases h;obtain⟨i,_,p,_⟩:=ZJ I h1 r1;exact⟨.str_tuple _ _ p hu',.str_tuple _ _ p hu',.str_tuple _ _ p hu'⟩
  | lst h1 r1=>obtain rfl:w=Value.ref _:=rw';unfold eqF at h;cases h;obtain⟨i,_,p,_⟩:=zT I (.inl h1) r1;exact⟨.str_list _ _ p hu',.str_list _ _ p hu',.str_list _ _ p hu'⟩
  | fz h1 r1=>obtain rfl:w=Value.ref _:=rw';unfold eqF at h;cases h;obtain⟨i,_,p,_⟩:=zT I (.inr ⟨_,h1⟩) r1;exact⟨.str_list _ _ p hu',.str_list _ _ p hu',.str_list _ _ p hu'⟩
 | tup h0 r0=>
  obtain rfl:u=Value.ref _:=ru;obtain⟨i0,_,p0,_⟩:=ZJ I h0 r0;cases rq with
  | non=>obtain rfl:w=Value.none:=rw';unfold eqF at h;cases h;exact⟨.tuple_none p0 hu',.tuple_none p0 hu',.tuple_none p0 hu'⟩
  | bl c=>obtain rfl:w=Value.bool c:=rw';unfold eqF at h;cases h;exact⟨.tuple_bool _ p0 hu',.tuple_bool _ p0 hu',.tuple_bool _ p0 hu'⟩
  | int c=>obtain⟨t,rfl⟩:=rw';unfold eqF at h;cases h;exact⟨.tuple_int _ _ p0 hu',.tuple_int _ _ p0 hu',.tuple_int _ _ p0 hu'⟩
  | str c=>obtain⟨t,rfl⟩:=rw';unfold eqF at h;cases h;exact⟨.tuple_str _ _ p0 hu',.tuple_str _ _ p0 hu',.tuple_str _ _ p0 hu'⟩
  | tup h1 r1=>unfold eqF at h;cases h
  | lst h1 r1=>obtain rfl:w=Value.ref _:=rw';unfold eqF at h;cases h;obtain⟨i,_,p,_⟩:=zT I (.inl h1) r1;exact⟨.tuple_list p0 p hu',.tuple_list p0 p hu',.tuple_list p0 p hu'⟩
  | fz h1 r1=>obtain rfl:w=Value.ref _:=rw';unfold eqF at h;cases h;obtain⟨i,_,p,_⟩:=zT I (.inr ⟨_,h1⟩) r1;exact⟨.tuple_list p0 p hu',.tuple_list p0 p hu',.tuple_list p0 p hu'⟩
 | lst h0 r0=>
  obtain rfl:u=Value.ref _:=ru;obtain⟨i0,_,p0,_⟩:=zT I (.inl h0) r0;cases rq with
  | non=>obtain rfl:w=Value.none:=rw';unfold eqF at h;cases h;exact⟨.list_none p0 hu',.list_none p0 hu',.list_none p0 hu'⟩
  | bl c=>obtain rfl:w=Value.bool c:=rw';unfold eqF at h;cases h;exact⟨.list_bool _ p0 hu',.list_bool _ p0 hu',.list_bool _ p0 hu'⟩
  | int c=>obtain⟨t,rfl⟩:=rw';unfold eqF at h;cases h;exact⟨.list_int _ _ p0 hu',.list_int _ _ p0 hu',.list_int _ _ p0 hu'⟩
  | str c=>obtain⟨t,rfl⟩:=rw';unfold eqF at h;cases h;exact⟨.list_str _ _ p0 hu',.list_str _ _ p0 hu',.list_str _ _ p0 hu'⟩
  | tup h1 r1=>obtain rfl:w=Value.ref _:=rw';unfold eqF at h;cases h;obtain⟨i,_,p,_⟩:=ZJ I h1 r1;exact⟨.list_tuple p0 p hu',.list_tuple p0 p hu',.list_tuple p0 p hu'⟩
  | lst h1 r1=>unfold eqF at h;cases h
  | fz h1 r1=>unfold eqF at h;cases h
 | fz h0 r0=>
  obtain rfl:u=Value.ref _:=ru;obtain⟨i0,_,p0,_⟩:=zT I (.inr ⟨_,h0⟩) r0;cases rq with
  | non=>obtain rfl:w=Value.none:=rw';unfold eqF at h;cases h;exact⟨.list_none p0 hu',.list_none p0 hu',.list_none p0 hu'⟩
  | bl c=>obtain rfl:w=Value.bool c:=rw';unfold eqF at h;cases h;exact⟨.list_bool _ p0 hu',.list_bool _ p0 hu',.list_bool _ p0 hu'⟩
  | int c=>obtain⟨t,rfl⟩:=rw';unfold eqF at h;cases h;exact⟨.list_int _ _ p0 hu',.list_int _ _ p0 hu',.list_int _ _ p0 hu'⟩
  | str c=>obtain⟨t,rfl⟩:=rw';unfold eqF at h;cases h;exact⟨.list_str _ _ p0 hu',.list_str _ _ p0 hu',.list_str _ _ p0 hu'⟩
  | tup h1 r1=>obtain rfl:w=Value.ref _:=rw';unfold eqF at h;cases h;obtain⟨i,_,p,_⟩:=ZJ I h1 r1;exact⟨.list_tuple p0 p hu',.list_tuple p0 p hu',.list_tuple p0 p hu'⟩
  | lst h1 r1=>unfold eqF at h;cases h
  | fz h1 r1=>unfold eqF at h;cases h
set_option maxHeartbeats 2000000 in
theorem vJ (I:L2.Inv X pins σ H s):∀(n:Nat) (A:Around),A.units+n < cLine->∀(x y:T) (b:Bool) (p q:V) (u w:Value),eqF n x y=some b->Rep H p x->Rep H q y->Z4 p u->Z4 q w->EqN A s u w b:=by
 intro n
 induction n with
 | zero=>exact λA hu x y b p q u w h=>Yp I A (by omega) x y b p q u w h
 | succ n ih=>
  intro A hu x y b p q u w h rp rq ru rw';have low:=λh=>Yp I A (by omega) x y b p q u w h rp rq ru rw'
  have hu' :A.units < cLine:=by omega
  have ih' :=ih A.in1 (by rw[JH];omega)
  cases rp with
  | tup h0 r0=>
   cases rq with
   | tup h1 r1=>
    obtain rfl:u=Value.ref _:=ru;obtain rfl:w=Value.ref _:=rw';exact X0 I hu' h0 h1 r0 r1 h (Zb n) ih'
   | _=>exact low (by exact h)
  | lst h0 r0=>
   cases rq with
   | lst h1 r1=>
    obtain rfl:u=Value.ref _:=ru;obtain rfl:w=Value.ref _:=rw';exact wS I hu' (.inl h0) (.inl h1) r0 r1 h (Zb n) ih'
   | fz h1 r1=>
    obtain rfl:u=Value.ref _:=ru;obtain rfl:w=Value.ref _:=rw';exact wS I hu' (.inl h0) (.inr ⟨_,h1⟩) r0 r1 h (Zb n) ih'
   | _=>exact low (by exact h)
  | fz h0 r0=>
   cases rq with
   | lst h1 r1=>
    obtain rfl:u=Value.ref _:=ru;obtain rfl:w=Value.ref _:=rw';exact wS I hu' (.inr ⟨_,h0⟩) (.inl h1) r0 r1 h (Zb n) ih'
   | fz h1 r1=>
    obtain rfl:u=Value.ref _:=ru;obtain rfl:w=Value.ref _:=rw';exact wS I hu' (.inr ⟨_,h0⟩) (.inr ⟨_,h1⟩) r0 r1 h (Zb n) ih'
   | _=>exact low (by exact h)
  | _=>exact low (by cases rq <;> (exact h))
end
section
def rG (Y:Fx)(g:T->T->R T):R2:=λx y H Q=>∃B t t',zr B H/\Rep B x t/\Rep B y t' /\Po Y rC B H (g t t') Q
def zd (g:T->T->R T)(fa fb:En->R T):En->R T:=λρ=>(fa ρ).bind λx=>(fb ρ).bind λy=>g x y
theorem uB (ho:OpR X (binaryOp op) (rG Y g))(ha:Snd X Y a fa)(hb:Snd X Y b fb):Snd X Y (.BinOp a op b pos) (zd g fa fb):= .mk λρ=>
 PE.imp (Ko ho (ha ρ) (hb ρ)) λσ H Q ⟨B,I,q⟩=>step I q λt v H1 _ s1 r1 I1 q1=>step I1 q1 λt' v' H2 _ s2 r2 I2 q2=>
  ⟨_,t,t',I2.sB,r1.mono (zO.ge I1.sB s2),r2,q2⟩
theorem po0 (sB:zr B H)(q:Po Y rC B H g Q)(e:g= .ok t)(r:Rep B v t):Q v H:=by
 subst e;exact q v H (zr.refl H) (by rw[zO.self B H sB];exact r)
theorem KJ (sB:zr B H)(q:Po Y rC B H g Q)(e:g= .ok (.tup ts))(r:zF B xs ts)(h:H p=none):Q (.ref p) (upd H p (.tup xs)):=by
 subst e;exact q _ _ (zr.new h _) (.tup (ja h _) (r.mono (zO.ge sB (zr.new h _))))
theorem KK (sB:zr B H)(q:Po Y rC B H g Q)(e:g= .ok (.lst ts))(r:zF B xs ts)(h:H p=none):Q (.ref p) (upd H p (.lst xs)):=by
 subst e;exact q _ _ (zr.new h _) (.lst (ja h _) (r.mono (zO.ge sB (zr.new h _))))
def zD:T->T->R T
 | .int i,.int j=> .ok (.int (i+j))
 | .bl x,.int j=> .ok (.int (b2 x+j))
 | .int i,.bl y=> .ok (.int (i+b2 y))
 | .str x,.str y=>if x.length+y.length<=bnd then .ok (.str (x++y)) else .bad
 | .tup xs,.tup ys=>if xs.length+ys.length<=bnd then .ok (.tup (xs++ys)) else .bad
 | .lst xs,.lst ys=>if xs.length+ys.length<=bnd then .ok (.lst (xs++ys)) else .bad
 | _,_=> .bad
theorem vK {prog:Program}{w:World}{A:Around}{E:Value->Shared->Prop}{s:Shared}{t b:Addr}{vs ws:List Value}{Q:Value->Shared->Prop}(ht:IsTup s.heap t vs.toArray)(hb:IsTup s.heap b ws.toArray)(hv:vs=[])
  (h1:Q (.ref b) s):wpAny (model prog w) A (binaryOp .Add (.ref t) (.ref b)) Q E s:=by
 obtain⟨⟨cls,dd,data,sl⟩,ho,hc,n,hd⟩:=id ht;obtain⟨⟨cls2,dd2,data2,sl2⟩,ho2,hc2,n2,hd2⟩:=id hb;subst hc hd hc2 hd2;exact concat_meets ⟨_,ho,rfl⟩ ⟨_,ho2,rfl⟩ noFill_tuple_add seq_tuple_add de d5 (cT _ _)
   (tuple_addW0 t b _ _ n n2 dd dd2 sl sl2 (by simp[hv])) ⟨ho,ho2,h1⟩
theorem Yq:OpR X (binaryOp .Add) (rG Y zD):=by
 intro pins s σ H x y v u Q I rx ry h;obtain⟨B,t,t',sB,r,r',q⟩:=h;cases r with
 | int i=>
  cases r' with
  | int j=>exact Kp pins s σ H _ _ v u Q I rx ry ⟨i,j,rfl,rfl,po0 sB q rfl (.int _)⟩
  | bl y=>exact Y4 pins s σ H _ _ v u Q I rx ry ⟨i,y,rfl,rfl,po0 sB q rfl (.int _)⟩
  | _=>exact q.elim
 | bl x=>
  cases r' with
  | int j=>
   obtain rfl:v=Value.bool x:=rx;obtain⟨tk,rfl⟩:=ry;exact IntBool.add_bool_int (⟨.int _,H,I.tok _,⟨_,rfl⟩,po0 sB q rfl (.int _)⟩)
  | _=>exact q.elim
 | str x=>
  cases r' with
  | str y=>
   by_cases hb:x.length+y.length<=bnd
   ·exact ye pins s σ H _ _ v u Q I rx ry ⟨x,y,rfl,rfl,Zp hb,po0 sB q (if_pos hb) (.str _)⟩
   ·rw[show zD (.str x) (.str y)= .bad from if_neg hb]at q;exact q.elim
  | _=>exact q.elim
 | @tup a xs ts h1 r1=>
  cases r' with
  | @tup a' ys us h2 r2=>
   by_cases hb:ts.length+us.length<=bnd
   ·have eg:zD (.tup ts) (.tup us)= .ok _:=if_pos hb;have hz:xs.length+ys.length<=sizeLine:=by rw[r1.length,r2.length];exact Zp hb
    by_cases hx:xs=[]
    ·obtain rfl:v=Value.ref a:=rx;obtain rfl:u=Value.ref a' :=ry;obtain⟨its,rv,p,_⟩:=I.tuple (SqT.of (sB _ _ h1));obtain⟨its',rv',p',_⟩:=I.tuple (SqT.of (sB _ _ h2));have et:=r1.nil_iff.mp hx;refine vK p p' (rv.nil_iff.mpr hx) ⟨.ref a',H,I,rfl,po0 sB q eg ?_⟩;rw[et];exact .tup h2 r2
    ·refine xR _ s σ H _ _ v u Q I rx ry ⟨a,a',xs,ys,rfl,rfl,SqT.of (sB _ _ h1),SqT.of (sB _ _ h2),hx,hz,λhy=> ?_,λhy p hp=> ?_⟩
     ·refine po0 sB q eg ?_;rw[r2.nil_iff.mp hy,aW];exact .tup h1 r1
     ·exact KJ sB q eg (r1.append r2) hp
   ·rw[show zD (.tup ts) (.tup us)= .bad from if_neg hb]at q;exact q.elim
  | _=>exact q.elim
 | @lst a xs ts h1 r1=>
  cases r' with
  | @lst a' ys us h2 r2=>
   by_cases hb:ts.length+us.length<=bnd
   ·have eg:zD (.lst ts) (.lst us)= .ok _:=if_pos hb;have hz:xs.length+ys.length<=sizeLine:=by rw[r1.length,r2.length];exact Zp hb
    exact KD _ s σ H _ _ v u Q I rx ry ⟨a,a',xs,ys,rfl,rfl,sB _ _ h1,sB _ _ h2,hz,λp hp=>KK sB q eg (r1.append r2) hp⟩
   ·rw[show zD (.lst ts) (.lst us)= .bad from if_neg hb]at q;exact q.elim
  | _=>exact q.elim
 | _=>cases r' <;> exact q.elim
theorem z1K (ha:Snd X Y a fa)(hb:Snd X Y b fb):Snd X Y (.BinOp a .Add b pos) (zd zD fa fb):=uB Yq ha hb
noncomputable def jv:T->T->R T
 | .int i,.int j=> .ok (.int (i - j))
 | _,_=> .bad
noncomputable def jw:T->T->R T
 | .int i,.int j=>if 0 < j then .ok (.int (i % j)) else .bad
 | _,_=> .bad
noncomputable def wT:T->T->R T
 | .int i,.int j=>if 0 < j/\j < 1073741824 then .ok (.int (i / j)) else .bad
 | _,_=> .bad
instance (i j:Int):Decidable (uo i j):=by unfold uo;infer_instance
def Za:T->T->R T
 | .int i,.int j=>if uo i j then .ok (.int (i*j)) else .bad
 | .lst xs,.int k=>if 0<=k/\k < 1000000/\xs.length*k.toNat<=bnd then .ok (.lst (ah k.toNat xs).flatten) else .bad
 | .tup xs,.int k=>if 2<=k/\k < 1000000/\xs ≠ []/\xs.length*k.toNat<=bnd then .ok (.tup (ah k.toNat xs).flatten) else .bad
 | _,_=> .bad
theorem X1:OpR X (binaryOp .Sub) (rG Y jv):=by
 intro pins s σ H x y v u Q I rx ry h;obtain⟨B,t,t',sB,r,r',q⟩:=h;cases r with
 | int i=>
  cases r' with
  | int j=>exact Kq _ s σ H _ _ v u Q I rx ry ⟨i,j,rfl,rfl,po0 sB q rfl (.int _)⟩
  | _=>exact q.elim
 | _=>cases r' <;> exact q.elim
theorem X2:OpR X (binaryOp .Mod) (rG Y jw):=by
 intro pins s σ H x y v u Q I rx ry h;obtain⟨B,t,t',sB,r,r',q⟩:=h;cases r with
 | int i=>
  cases r' with
  | int j=>
   by_cases hj:0 < j
   ·exact Ks _ s σ H _ _ v u Q I rx ry ⟨i,j,rfl,rfl,hj,po0 sB q (if_pos hj) (.int _)⟩
   ·rw[show jw (.int i) (.int j)= .bad from if_neg hj]at q;exact q.elim
  | _=>exact q.elim
 | _=>cases r' <;> exact q.elim
theorem vL:OpR X (binaryOp .FloorDiv) (rG Y wT):=by
 intro pins s σ H x y v u Q I rx ry h;obtain⟨B,t,t',sB,r,r',q⟩:=h;cases r with
 | int i=>
  cases r' with
  | int j=>
   by_cases hj:0 < j/\j < 1073741824
   ·exact xG _ s σ H _ _ v u Q I rx ry ⟨i,j,rfl,rfl,hj,po0 sB q (if_pos hj) (.int _)⟩
   ·rw[show wT (.int i) (.int j)= .bad from if_neg hj]at q;exact q.elim
  | _=>exact q.elim
 | _=>cases r' <;> exact q.elim
theorem yn (l:Addr)(items:Array Value)(n:Nat)(dd:Option Addr)(sl:Array (Option Value))(x:Int)(u:Tok)(h1:2<=x)(h2:x < 1000000)(hne:items.isEmpty=false)(hsz:items.size*x.toNat<=sizeLine):
  Meets (Builtin.«tuple.__mul__» ⟨[.ref l,.int x u],[]⟩) (λ_ R s=>s.heap.get? l=some { cls:= .type "tuple",dict:=dd,data:= .seq items n,slots:=sl }/\
   R (.ok (.ret (Value.ref s.heap.objs.size))) { s with heap:=s.heap.push { cls:=Value.type "tuple",data:=Data.seq (dU (λx1 x2=>x1++x2) #[] (ah x.toNat items)) },toks:=s.toks }):=
 .of_wp λprog w A R s h=>by
  obtain⟨hl,h⟩:=h;have e0:(items.size:Int)*x=((items.size*x.toNat:Nat):Int):=by
   have:x=((x.toNat:Nat):Int):=by omega
   rw[dH,← this]
  have sl1:(sizeLine:Nat)=16777216:=bP;have c1:¬ (decide (x < -(2 ^ 63)) || decide (x ≥ 2 ^ 63))=true:=by simp;omega
  have c2:¬ (items.isEmpty || x == 1)=true:=by simp[hne];omega
  have c3:¬ (decide (x<=0) || items.isEmpty)=true:=by simp[hne];omega
  have c4:¬ ((items.size:Int)*x > (2 ^ 63 - 1) / 8):=by rw[e0];omega
  have c5:¬ dW ((items.size:Int)*x)=true:=by
   unfold dW;rw[e0];intro z;have:=of_decide_eq_true z;omega
  unfold Builtin.«tuple.__mul__»
  wp_walk using wpAny_loadPart' hl
  rw[if_neg c1]
  wp_walk using wpAny_loadPart' hl
  rw[if_neg c2]
  try dsimp only
  rw[if_neg c3]
  try dsimp only
  rw[if_neg c4]
  try dsimp only
  rw[if_neg c5]
  try dsimp only
  have hsz' :sizeOk (.seq (dU (λx1 x2=>x1++x2) #[] (ah x.toNat items))):=by
   show (dU (λx1 x2=>x1++x2) #[] _).size<=sizeLine;have:=jI items.toList x.toNat [];have q:=by
    simpa using this
   rw[q,aC,jS,cu];exact hsz
  exact a7 (aZ (aq ⟨_,rfl,h⟩) hsz')
theorem WB:seqRepeat? (.type "tuple")=pure (some (.builtin "tuple.__mul__")):=by
 unfold seqRepeat?;rw[iy (name:="__mul__") eP.lookup (by decide+kernel),iy (name:="__rmul__") ic.lookup (by decide+kernel)]
 rfl
theorem Jj:fillsNumberSlot (.type "tuple") "mul"=pure false:=
 PySem.fillsNumberSlot_seq eP.lookup (by decide+kernel) ic.lookup (by decide+kernel)
theorem wn (a:Int)(t:Tok)(l:Addr)(items:Array Value)(n:Nat)(dd:Option Addr)(sl:Array (Option Value)):
  Meets (Builtin.«int.__rmul__» ⟨[.int a t,.ref l],[]⟩) (λ_ R s=>s.heap.get? l=some { cls:= .type "tuple",dict:=dd,data:= .seq items n,slots:=sl }/\R (.ok (.ret Value.notImplemented)) s):=
 .of_wp λprog w A R s h=>by obtain⟨hl,h⟩:=h;wp_walk;exact⟨_,rfl,h⟩
theorem X3 {t:Tok}(p:IsTup s.heap l its.toArray)(hne:its ≠ [])(h1:2<=k)(h2:k < 1000000)
  (hsz:its.length*k.toNat<=sizeLine) (q:Q (.ref s.heap.objs.size) { s with heap:=s.heap.push { cls:= .type "tuple",data:= .seq (ah k.toNat its).flatten.toArray } }):
  wpAny (model prog w) A (binaryOp .Mult (.ref l) (.int k t)) Q E s:=by
 obtain⟨⟨cls,dd,data,sl⟩,ho,hc,n,hd⟩:=id p;subst hc hd;refine wpAny_binaryOp_repeat_ref (by decide) ⟨_,ho,rfl⟩ (λs' =>typeIs_int s' k t) Jj iI dG WB iw.lookup
  (du dG (typeIs_int s k t) ix (ia _ _) (wn k t l _ n dd sl)
   ⟨ho,rfl,⟨_,ho,rfl⟩,du eP ⟨_,ho,rfl⟩ F.entry_tuple_mul (F.args_tuple_mul_2 _ _) (yn l _ n dd sl k t h1 h2 (by simpa using hne) (by simpa using hsz)) ⟨ho, ?_⟩⟩)
 have:=jI its k.toNat [];rw[this];exact q
theorem X4:OpR X (binaryOp .Mult) (rG Y Za):=by
 intro pins s σ H x y v u Q I rx ry h;obtain⟨B,t,t',sB,r,r',q⟩:=h;cases r with
 | int i=>
  cases r' with
  | int j=>
   by_cases hj:uo i j
   ·exact Kr _ s σ H _ _ v u Q I rx ry ⟨i,j,rfl,rfl,hj,po0 sB q (if_pos hj) (.int _)⟩
   ·rw[show Za (.int i) (.int j)= .bad from if_neg hj]at q;exact q.elim
  | _=>exact q.elim
 | @lst l xs ts h1 r1=>
  cases r' with
  | int k=>
   by_cases hk:0<=k/\k < 1000000/\ts.length*k.toNat<=bnd
   ·have eg:Za (.lst ts) (.int k)= .ok _:=if_pos hk;exact KF _ s σ H _ _ v u Q I rx ry ⟨l,k,xs,rfl,rfl,sB _ _ h1,by omega,by omega,by rw[r1.length];exact Zp hk.2.2,λp hp=>KK sB q eg (r1.rep _) hp⟩
   ·rw[show Za (.lst ts) (.int k)= .bad from if_neg hk]at q;exact q.elim
  | _=>exact q.elim
 | @tup l xs ts h1 r1=>
  cases r' with
  | int k=>
   by_cases hk:2<=k/\k < 1000000/\ts ≠ []/\ts.length*k.toNat<=bnd
   ·have eg:Za (.tup ts) (.int k)= .ok _:=if_pos hk;obtain rfl:v=Value.ref l:=rx;obtain⟨tk,rfl⟩:=ry;obtain⟨its,rv,p,_⟩:=I.tuple (SqT.of (sB _ _ h1));have ln:=r1.length.symm.trans rv.length;have hne:its ≠ []:=λz=>hk.2.2.1 (by rw[z]at ln;exact eQ.mp ln)
    refine X3 p hne hk.1 hk.2.1 (by rw[← ln];exact Zp hk.2.2.2) ⟨.ref _,upd H _ (.tup (ah k.toNat xs).flatten),I.laid (λb u e=>a9 _ e) (aj _) ?_,rfl, ?_⟩
    ·exact⟨by rw[jS,r1.length,cu];exact Zp hk.2.2.2,(ah _ its).flatten,rv.rep _,⟨_,af _ rfl,rfl,_,rfl⟩,.inr ⟨_,af _ rfl,rfl⟩⟩
    ·exact KJ sB q eg (r1.rep _) (I.hok.fresh (aj _))
   ·rw[show Za (.tup ts) (.int k)= .bad from if_neg hk]at q;exact q.elim
  | _=>exact q.elim
 | _=>cases r' <;> exact q.elim
theorem z1L (ha:Snd X Y a fa)(hb:Snd X Y b fb):Snd X Y (.BinOp a .Sub b pos) (zd jv fa fb):=uB X1 ha hb
theorem z1M (ha:Snd X Y a fa)(hb:Snd X Y b fb):Snd X Y (.BinOp a .Mod b pos) (zd jw fa fb):=uB X2 ha hb
theorem KL (ha:Snd X Y a fa)(hb:Snd X Y b fb):Snd X Y (.BinOp a .FloorDiv b pos) (zd wT fa fb):=uB vL ha hb
theorem z1N (ha:Snd X Y a fa)(hb:Snd X Y b fb):Snd X Y (.BinOp a .Mult b pos) (zd Za fa fb):=uB X4 ha hb
def uC (fa:En->R T):En->R T:=λρ=>(fa ρ).bind λx=>match x with
 | .int i=> .ok (.int (-i))
 | _=> .bad
theorem z1O (ha:Snd X Y a fa):Snd X Y (.UnaryOp .USub a pos) (uC fa):= .mk λρ=>PE.imp (z1t Kt (ha ρ)) λσ H Q ⟨B,I,q⟩=>step I q λt v H1 _ s1 r1 I1 q1=>by
 cases r1 with
 | int i=>exact⟨i,rfl,po0 I1.sB q1 rfl (.int _)⟩
 | _=>exact q1.elim
def wj (g:T->T->R Bool):R2:=λx y H Q=>∃t t' b,Rep H x t/\Rep H y t' /\g t t' = .ok b/\Q (.bl b) H
def ZR (g:T->T->R Bool)(fa fb:En->R T):En->R T:=λρ=>(fa ρ).bind λx=>(fb ρ).bind λy=>(g x y).bind λb=> .ok (.bl b)
def zE (g:T->T->R Bool)(fa fb:En->R T):En->R Bool:=λρ=>(fa ρ).bind λx=>(fb ρ).bind λy=>g x y
noncomputable def Nx (g:T->T->R Bool):Prop:=∀t t' c,g t t' ≠ .ex c
theorem Yr (nx:Nx g)(ho:OpR X (compareOp op) (wj g))(ha:j9 X Y a fa)(hb:j9 X Y b fb)(hm:behindInMarks op b=false):Snd X Y (.Compare a [op] [b] pos) (ZR g fa fb):= .mk λρ=>
 PE.imp (Y5 ho (ha ρ) (hb ρ) hm) λσ H Q ⟨B,I,q⟩=>step I q λt v H1 _ s1 r1 I1 q1=>step I1 q1 λt' v' H2 _ s2 r2 I2 q2=>by
  cases e:g t t' with
  | bad=>rw[e]at q2;exact q2.elim
  | ex c=>exact absurd e (nx _ _ _)
  | ok b=>rw[e]at q2;exact⟨t,t',b,r1.mono s2,r2,e,ZH I2 q2 (.bl b)⟩
theorem WC (nx:Nx g)(ho:OpR X (compareOp op) (wj g))(ha:j9 X Y a fa)(hb:j9 X Y b fb)(hm:behindInMarks op b=false):Wj X Y (.Compare a [op] [b] pos) (zE g fa fb):= .mk λρ=>
 PT.imp (Y6 ho (ha ρ) (hb ρ) hm) λσ H Q ⟨B,I,q⟩=>step I q λt v H1 _ s1 r1 I1 q1=>step I1 q1 λt' v' H2 _ s2 r2 I2 q2=>by
  cases e:g t t' with
  | bad=>rw[e]at q2;exact q2.elim
  | ex c=>exact absurd e (nx _ _ _)
  | ok b=>rw[e]at q2;exact⟨t,t',b,r1.mono s2,r2,e,b,rfl,ZH I2 q2 rfl⟩
def eqC (t t' :T):R Bool:=match eqF 30 t t' with
 | some b=> .ok b
 | none=> .bad
def neC (t t' :T):R Bool:=match eqF 30 t t' with
 | some b=> .ok (!b)
 | none=> .bad
theorem X5:Nx eqC:=λt t' c h=>by unfold eqC at h;split at h <;> cases h
theorem X6:Nx neC:=λt t' c h=>by unfold neC at h;split at h <;> cases h
theorem Ys (hu:X.A.units+64 < cLine):OpR X (compareOp .Eq) (wj eqC):=by
 intro pins s σ H x y v u Q I rx ry h;obtain⟨t,t',b,r,r',e,q⟩:=h;unfold eqC at e;split at e
 ·rename_i k ek;have e' :=by injection e
  subst e';exact(vJ I 30 X.A (by omega) t t' k x y v u ek r r' rx ry).2.1 _ _ _ _ ⟨.bl k,H,I,rfl,q⟩
 ·cases e
theorem Yt (hu:X.A.units+64 < cLine):OpR X (compareOp .NotEq) (wj neC):=by
 intro pins s σ H x y v u Q I rx ry h;obtain⟨t,t',b,r,r',e,q⟩:=h;unfold neC at e;split at e
 ·rename_i k ek;cases e;exact(vJ I 30 X.A (by omega) t t' k x y v u ek r r' rx ry).2.2 _ _ _ _ ⟨.bl _,H,I,rfl,q⟩
 ·cases e
noncomputable def ltC:T->T->R Bool
 | .int i,.int j=> .ok (decide (i < j))
 | _,_=> .bad
noncomputable def leC:T->T->R Bool
 | .int i,.int j=> .ok (decide (i<=j))
 | .str x,.str y=> .ok (!decide (y.cps.toList < x.cps.toList))
 | _,_=> .bad
noncomputable def gtC:T->T->R Bool
 | .int i,.int j=> .ok (decide (j < i))
 | _,_=> .bad
noncomputable def geC:T->T->R Bool
 | .int i,.int j=> .ok (decide (j<=i))
 | _,_=> .bad
theorem z1P:Nx ltC:=λt t' c h=>by unfold ltC at h;split at h <;> cases h
theorem wU:Nx leC:=λt t' c h=>by unfold leC at h;split at h <;> cases h
theorem z1Q:Nx gtC:=λt t' c h=>by unfold gtC at h;split at h <;> cases h
theorem z1R:Nx geC:=λt t' c h=>by unfold geC at h;split at h <;> cases h
theorem KM:OpR X (compareOp .Lt) (wj ltC):=by
 intro pins s σ H x y v u Q I rx ry h;obtain⟨t,t',b,r,r',e,q⟩:=h;unfold ltC at e;split at e
 ·rename_i i j;cases e;cases r;cases r';exact z1u _ s σ H _ _ v u Q I rx ry ⟨i,j,rfl,rfl,q⟩
 ·cases e
theorem KN:OpR X (compareOp .Gt) (wj gtC):=by
 intro pins s σ H x y v u Q I rx ry h;obtain⟨t,t',b,r,r',e,q⟩:=h;unfold gtC at e;split at e
 ·rename_i i j;cases e;cases r;cases r';exact z1w _ s σ H _ _ v u Q I rx ry ⟨i,j,rfl,rfl,q⟩
 ·cases e
theorem KO:OpR X (compareOp .GtE) (wj geC):=by
 intro pins s σ H x y v u Q I rx ry h;obtain⟨t,t',b,r,r',e,q⟩:=h;unfold geC at e;split at e
 ·rename_i i j;cases e;cases r;cases r';exact z1x _ s σ H _ _ v u Q I rx ry ⟨i,j,rfl,rfl,q⟩
 ·cases e
theorem jK:OpR X (compareOp .LtE) (wj leC):=by
 intro pins s σ H x y v u Q I rx ry h;obtain⟨t,t',b,r,r',e,q⟩:=h;unfold leC at e;split at e
 ·rename_i i j;cases e;cases r;cases r';exact z1v _ s σ H _ _ v u Q I rx ry ⟨i,j,rfl,rfl,q⟩
 ·cases e;cases r;cases r';obtain⟨t1,rfl⟩:=rx;obtain⟨t2,rfl⟩:=ry;exact PySem.P.le_str ⟨.bl _,H,I,rfl,q⟩
 ·cases e
end
section
variable {X:Cx}{Y:Fx}{a b c d:Expr}{fa fb fc fd:En->R T}{pos:Pos}
noncomputable def Wk (f:T->Option Bool):List T->Option Bool
 | []=>some false
 | t :: r=>match f t with
  | none=>none
  | some b=>match Wk f r with
   | none=>none
   | some c=>some (b || c)
def inC (t t' :T):R Bool:=match t' with
 | .tup ys=>match Wk (λy=>eqF 30 y t) ys with | some b=> .ok b | none=> .bad
 | .lst ys=>match Wk (λy=>eqF 30 y t) ys with | some b=> .ok b | none=> .bad
 | _=> .bad
def vM (t t' :T):R Bool:=(inC t t').bind λb=> .ok (!b)
theorem vN:Nx inC:=λt t' c h=>by
 unfold inC at h;split at h
 ·split at h <;> cases h
 ·split at h <;> cases h
 ·cases h
theorem KP:Nx vM:=λt t' c h=>by
 unfold vM at h;cases e:inC t t' with
 | bad=>rw[e]at h;cases h
 | ex k=>exact absurd e (vN _ _ _)
 | ok k=>rw[e]at h;cases h
open Classical in
theorem Yu (f:T->Option Bool):∃e:Value->Bool,∀(v:V) (t:T) (u:Value) (b:Bool),Z4 v u->Rep H v t->f t=some b->e u=b:=by
 refine⟨λu=>decide (∃v t,Z4 v u/\Rep H v t/\f t=some true),λv t u b rv r e=> ?_⟩;cases b with
 | true=>exact decide_eq_true ⟨v,t,rv,r,e⟩
 | false=>
  refine decide_eq_false ?_
  rintro⟨v',t',rv',r',e'⟩
  have:=rv.inj rv';subst this;have:=r.fn r';subst this;rw[e]at e';cases e'
theorem Yv {H:Hp}{f:T->Option Bool}{e:Value->Bool}(he:∀(v:V) (t:T) (u:Value) (b:Bool),Z4 v u->Rep H v t->f t=some b->e u=b):∀{xs:List V} {ts:List T} {its:List Value} {b:Bool},
  zX xs its->zF H xs ts->Wk f ts=some b->its.any e=b/\∀u∈its,∃v t k,Z4 v u/\Rep H v t/\f t=some k
 | _,_,_,b,.nil,.nil,h=>by
  have h' :=h;cases h';exact⟨rfl,λu hu=>by simp at hu⟩
 | _,_,_,b,.cons rv vs,.cons r rs,h=>by
  rename_i v u vals us t ts;unfold Wk at h;cases q:f t with
  | none=>rw[q]at h;cases h
  | some k=>
   rw[q]at h;cases q' :Wk f ts with
   | none=>rw[q']at h;cases h
   | some k' =>
    rw[q']at h;cases h;obtain⟨h1,h2⟩:=Yv he vs rs q';refine⟨by rw[eD,h1,he v t u k rv r q],λw hw=> ?_⟩
    rcases ak.mp hw with rfl | hw
    ·exact⟨v,t,k,rv,r,q⟩
    ·exact h2 w hw
theorem Yw (hu:X.A.units+64 < cLine)(neg:Bool):OpR X (compareOp (if neg then .NotIn else .In)) (wj (if neg then vM else inC)):=by
 intro pins s σ H x y v u Q I rx ry h;obtain⟨t,t',b,r,r',e,q⟩:=h;have hs:∃k,inC t t' = .ok k/\b=(if neg then !k else k):=by
  cases neg with
  | false=>exact⟨b,e,rfl⟩
  | true=>
   have e' :vM t t' = .ok b:=e;unfold vM at e';cases z:inC t t' with
   | bad=>rw[z]at e';cases e'
   | ex k=>exact absurd z (vN _ _ _)
   | ok k=>rw[z]at e';cases e';exact⟨k,rfl,rfl⟩
 obtain⟨k,ek,rfl⟩:=hs;unfold inC at ek;obtain⟨f,hf⟩:=Yu λy=>eqF 30 y t;have eqa:∀w,(∃v t' k,Z4 v w/\Rep H v t' /\eqF 30 t' t=some k)->cb X.A.in1 s w v (f w):=λw ⟨v',t',k,rv,rr,ee⟩=>by
  rw[hf v' t' w k rv rr ee];exact(vJ I 30 _ (by rw[JH];omega) t' t k v' x w v ee rr r rv rx).1
 split at ek
 ·split at ek
  ·rename_i k' hk;cases ek;cases r' with
   | @tup l xs _ h1 r1=>
    obtain rfl:u=Value.ref l:=ry;obtain⟨its,rv,p,_⟩:=ZJ I h1 r1;obtain⟨h2,h3⟩:=Yv hf rv r1 hk;have h4:its.toArray.any f=k:=by simpa using h2
    cases neg with
    | false=>exact SeqAt.in_tupleAt f p (λw hw=>eqa w (h3 w (by simpa using hw))) (by rw[h4];exact⟨.bl k,H,I,rfl,q⟩)
    | true=>exact SeqAt.notIn_tupleAt f p (λw hw=>eqa w (h3 w (by simpa using hw))) (by rw[h4];exact⟨.bl _,H,I,rfl,q⟩)
  ·cases ek
 ·split at ek
  ·rename_i k' hk;cases ek;cases r' with
   | @lst l xs _ h1 r1=>
    obtain rfl:u=Value.ref l:=ry;obtain⟨its,rv,p,_⟩:=zT I (.inl h1) r1;obtain⟨h2,h3⟩:=Yv hf rv r1 hk;have h4:its.toArray.any f=k:=by simpa using h2
    cases neg with
    | false=>exact SeqAt.in_listAt f p (λw hw=>eqa w (h3 w (by simpa using hw))) (by rw[h4];exact⟨.bl k,H,I,rfl,q⟩)
    | true=>exact SeqAt.notIn_listAt f p (λw hw=>eqa w (h3 w (by simpa using hw))) (by rw[h4];exact⟨.bl _,H,I,rfl,q⟩)
  ·cases ek
 ·cases ek
theorem VQ (hu:X.A.units+64 < cLine):OpR X (compareOp .In) (wj inC):=Yw hu false
theorem X7 (hu:X.A.units+64 < cLine):OpR X (compareOp .NotIn) (wj vM):=Yw hu true
noncomputable def X8 (t t' :T):R Bool:=match t' with
 | .non=>match t with | .non=> .ok true | _=> .ok false
 | .bl k=>match t with | .bl j=> .ok (j == k) | _=> .ok false
 | _=> .bad
def WD (t t' :T):R Bool:=(X8 t t').bind λb=> .ok (!b)
theorem KQ:Nx X8:=λt t' c h=>by
 unfold X8 at h;split at h
 ·split at h <;> cases h
 ·split at h <;> cases h
 ·cases h
theorem KR:Nx WD:=λt t' c h=>by
 unfold WD at h;cases e:X8 t t' with
 | bad=>rw[e]at h;cases h
 | ex k=>exact absurd e (KQ _ _ _)
 | ok k=>rw[e]at h;cases h
theorem X9 (neg:Bool):OpR X (compareOp (if neg then .IsNot else .Is)) (wj (if neg then WD else X8)):=by
 intro pins s σ H x y v u Q I rx ry h;obtain⟨t,t',b,r,r',e,q⟩:=h;have hs:∃k,X8 t t' = .ok k/\b=(if neg then !k else k):=by
  cases neg with
  | false=>exact⟨b,e,rfl⟩
  | true=>
   have e' :WD t t' = .ok b:=e;unfold WD at e';cases z:X8 t t' with
   | bad=>rw[z]at e';cases e'
   | ex k=>exact absurd z (KQ _ _ _)
   | ok k=>rw[z]at e';cases e';exact⟨k,rfl,rfl⟩
 obtain⟨k,ek,rfl⟩:=hs;have go:plainIs v u=true/\(v == u)=k:=by
  cases r' with
  | non=>
   obtain rfl:u=Value.none:=ry;cases r with
   | non=>obtain rfl:v=Value.none:=rx;cases ek;exact⟨rfl,rfl⟩
   | bl j=>obtain rfl:v=Value.bool j:=rx;cases ek;exact⟨rfl,rfl⟩
   | int j=>obtain⟨t,rfl⟩:=rx;cases ek;exact⟨rfl,rfl⟩
   | str j=>obtain⟨t,rfl⟩:=rx;cases ek;exact⟨rfl,rfl⟩
   | tup _ _=>obtain rfl:v=Value.ref _:=rx;cases ek;exact⟨rfl,rfl⟩
   | lst _ _=>obtain rfl:v=Value.ref _:=rx;cases ek;exact⟨rfl,rfl⟩
   | fz _ _=>obtain rfl:v=Value.ref _:=rx;cases ek;exact⟨rfl,rfl⟩
  | bl k' =>
   obtain rfl:u=Value.bool k' :=ry;cases r with
   | non=>obtain rfl:v=Value.none:=rx;cases ek;exact⟨rfl,rfl⟩
   | bl j=>obtain rfl:v=Value.bool j:=rx;cases ek;exact⟨rfl,by cases j <;> cases k' <;> rfl⟩
   | int j=>obtain⟨t,rfl⟩:=rx;cases ek;exact⟨rfl,rfl⟩
   | str j=>obtain⟨t,rfl⟩:=rx;cases ek;exact⟨rfl,rfl⟩
   | tup _ _=>obtain rfl:v=Value.ref _:=rx;cases ek;exact⟨rfl,rfl⟩
   | lst _ _=>obtain rfl:v=Value.ref _:=rx;cases ek;exact⟨rfl,rfl⟩
   | fz _ _=>obtain rfl:v=Value.ref _:=rx;cases ek;exact⟨rfl,rfl⟩
  | _=>cases ek
 cases neg with
 | false=>exact wpAny_is_plain go.1 (by rw[go.2];exact⟨.bl k,H,I,rfl,q⟩)
 | true=>exact wpAny_isNot_plain go.1 (by rw[go.2];exact⟨.bl _,H,I,rfl,q⟩)
theorem Xa:OpR X (compareOp .IsNot) (wj WD):=X9 true
def chE (g g' :T->T->R Bool)(fa fb fc:En->R T):En->R T:=λρ=>(fa ρ).bind λx=>(fb ρ).bind λy=>(g x y).bind λk=>if k=true then (fc ρ).bind λz=>(g' y z).bind λk' => .ok (.bl k') else .ok (.bl false)
def chT (g g' :T->T->R Bool)(fa fb fc:En->R T):En->R Bool:=λρ=>(fa ρ).bind λx=>(fb ρ).bind λy=>(g x y).bind λk=>if k=true then (fc ρ).bind λz=>g' y z else .ok false
theorem Xb (nx:Nx g)(nx' :Nx g')(ho:OpR X (compareOp op) (wj g))(ho' :OpR X (compareOp op') (wj g'))(ha:j9 X Y a fa)(hb:j9 X Y b fb)(hc:j9 X Y c fc)
  (hm:lastMarks [op,op'] [b,c]=false:=by with_unfolding_all rfl):Snd X Y (.Compare a [op,op'] [b,c] pos) (chE g g' fa fb fc):= .mk λρ=>
 PE.imp (vq ho ho' (ha ρ) (hb ρ) (hc ρ) hm) λσ H Q ⟨B,I,q⟩=>step I q λt v H1 _ s1 r1 I1 q1=>step I1 q1 λt' v' H2 _ s2 r2 I2 q2=>by
  cases e:g t t' with
  | bad=>rw[e]at q2;exact q2.elim
  | ex c=>exact absurd e (nx _ _ _)
  | ok k=>
   rw[e]at q2;refine⟨t,t',k,r1.mono s2,r2,e,k,rfl, ?_⟩;cases k with
   | false=>exact ZH I2 q2 (.bl _)
   | true=>
    refine step I2 q2 λt3 v3 H3 _ s3 r3 I3 q3=> ?_
    ·cases e:g' t' t3 with
     | bad=>rw[e]at q3;exact q3.elim
     | ex c=>exact absurd e (nx' _ _ _)
     | ok k=>rw[e]at q3;exact⟨t',t3,k,r2.mono s3,r3,e,ZH I3 q3 (.bl k)⟩
theorem Xc (nx:Nx g)(nx' :Nx g')(ho:OpR X (compareOp op) (wj g))(ho' :OpR X (compareOp op') (wj g'))(ha:j9 X Y a fa)(hb:j9 X Y b fb)(hc:j9 X Y c fc)
  (hm:lastMarks [op,op'] [b,c]=false:=by with_unfolding_all rfl):Wj X Y (.Compare a [op,op'] [b,c] pos) (chT g g' fa fb fc):= .mk λρ=>
 PT.imp (vt ho ho' (ha ρ) (hb ρ) (hc ρ) hm) λσ H Q ⟨B,I,q⟩=>step I q λt v H1 _ s1 r1 I1 q1=>step I1 q1 λt' v' H2 _ s2 r2 I2 q2=>by
  cases e:g t t' with
  | bad=>rw[e]at q2;exact q2.elim
  | ex c=>exact absurd e (nx _ _ _)
  | ok k=>
   rw[e]at q2;refine⟨t,t',k,r1.mono s2,r2,e,k,rfl, ?_⟩;cases k with
   | false=>exact⟨false,rfl,ZH I2 q2 rfl⟩
   | true=>
    refine step I2 q2 λt3 v3 H3 _ s3 r3 I3 q3=> ?_
    ·cases e:g' t' t3 with
     | bad=>rw[e]at q3;exact q3.elim
     | ex c=>exact absurd e (nx' _ _ _)
     | ok k=>rw[e]at q3;exact⟨t',t3,k,r2.mono s3,r3,e,k,rfl,ZH I3 q3 rfl⟩
def Xd (r r' r'' :R2)(ta tb tc td:TE):TE:=λσ H Q=>ta σ H λx H1=>tb σ H1 λy H2=>r x y H2 λz H3=>∃k,z= .bl k/\
 (if k=true then tc σ H3 λw' H4=>r' y w' H4 λz' H5=>∃k',z' = .bl k' /\(if k' =true then td σ H5 λw2 H6=>r'' w' w2 H6 Q else Q (.bl false) H5) else Q (.bl false) H3)
theorem Yx (ho:OpR X (compareOp op) r)(ho' :OpR X (compareOp op') r')(ho'' :OpR X (compareOp op'') r'')(ha:PE X a ta)(hb:PE X b tb)(hc:PE X c tc)(hd:PE X d td)
  (hm:lastMarks [op,op',op''] [b,c,d]=false:=by with_unfolding_all rfl):PE X (.Compare a [op,op',op''] [b,c,d] pos) (Xd r r' r'' ta tb tc td):=by
 intro pins s σ H Q I h;refine Compare_chain (thn (ha _ s σ H _ I h) λv s1 ⟨x,H1,I1,r1,q1⟩=>chain_link (thn (hb _ s1 σ H1 _ I1 q1) λu s2 ⟨y,H2,I2,r2,q2⟩=>
  thn (ho _ s2 σ H2 x y v u _ I2 r1 r2 q2) λd' s3 ⟨z,H3,I3,r3,k,e,q3⟩=> ?_)) hm
 subst e;cases r3;refine aY ?_;cases k with
 | false=>exact ite_ff ⟨.bl _,H3,I3,rfl,q3⟩
 | true=>
  refine ite_tt (chain_link (thn (hc _ s3 σ H3 _ I3 q3) λw' s4 ⟨z',H4,I4,r4,q4⟩=>thn (ho' _ s4 σ H4 y z' u w' _ I4 r2 r4 q4) λd2 s5 ⟨z5,H5,I5,r5,k5,e5,q5⟩=> ?_));subst e5;cases r5;refine aY ?_;cases k5 with
  | false=>exact ite_ff ⟨.bl _,H5,I5,rfl,q5⟩
  | true=>exact ite_tt (chain_last (thn (hd _ s5 σ H5 _ I5 q5) λw6 s6 ⟨z6,H6,I6,r6,q6⟩=>ho'' _ s6 σ H6 z' z6 w' w6 Q I6 r4 r6 q6))
def ch3E (g g' g'' :T->T->R Bool)(fa fb fc fd:En->R T):En->R T:=λρ=>(fa ρ).bind λx=>(fb ρ).bind λy=>(g x y).bind λk=>if k=true then (fc ρ).bind λz=>(g' y z).bind λk' =>
 if k' =true then (fd ρ).bind λw=>(g'' z w).bind λk'' => .ok (.bl k'') else .ok (.bl false) else .ok (.bl false)
theorem vO (nx:Nx g)(nx' :Nx g')(nx'' :Nx g'')(ho:OpR X (compareOp op) (wj g))(ho' :OpR X (compareOp op') (wj g'))(ho'' :OpR X (compareOp op'') (wj g''))
  (ha:j9 X Y a fa) (hb:j9 X Y b fb) (hc:j9 X Y c fc) (hd:j9 X Y d fd)
  (hm:lastMarks [op,op',op''] [b,c,d]=false:=by with_unfolding_all rfl):Snd X Y (.Compare a [op,op',op''] [b,c,d] pos) (ch3E g g' g'' fa fb fc fd):= .mk λρ=>
 PE.imp (Yx ho ho' ho'' (ha ρ) (hb ρ) (hc ρ) (hd ρ) hm) λσ H Q ⟨B,I,q⟩=>step I q λt v H1 _ s1 r1 I1 q1=>step I1 q1 λt' v' H2 _ s2 r2 I2 q2=>by
  cases e:g t t' with
  | bad=>rw[e]at q2;exact q2.elim
  | ex c=>exact absurd e (nx _ _ _)
  | ok k=>
   rw[e]at q2;refine⟨t,t',k,r1.mono s2,r2,e,k,rfl, ?_⟩;cases k with
   | false=>exact ZH I2 q2 (.bl _)
   | true=>
    refine step I2 q2 λt3 v3 H3 _ s3 r3 I3 q3=> ?_
    ·cases e:g' t' t3 with
     | bad=>rw[e]at q3;exact q3.elim
     | ex c=>exact absurd e (nx' _ _ _)
     | ok k=>
      rw[e]at q3;refine⟨t',t3,k,r2.mono s3,r3,e,k,rfl, ?_⟩;cases k with
      | false=>exact ZH I3 q3 (.bl _)
      | true=>
       refine step I3 q3 λt4 v4 H4 _ s4 r4 I4 q4=> ?_
       ·cases e:g'' t3 t4 with
        | bad=>rw[e]at q4;exact q4.elim
        | ex c=>exact absurd e (nx'' _ _ _)
        | ok k=>rw[e]at q4;exact⟨t3,t4,k,r3.mono s4,r4,e,ZH I4 q4 (.bl k)⟩
variable {rest:List Expr}{ga gb:En->R Bool}
def jx (fa fb:En->R T):En->R T:=λρ=>(fa ρ).bind λx=>match x with
 | .bl true=>fb ρ
 | .bl false=> .ok (.bl false)
 | _=> .bad
def orE (fa fb:En->R T):En->R T:=λρ=>(fa ρ).bind λx=>match x with
 | .bl true=> .ok (.bl true)
 | .bl false=>fb ρ
 | _=> .bad
def vc (fa:En->R T):En->R T:=λρ=>(fa ρ).bind λx=>match x with
 | .bl k=> .ok (.bl (!k))
 | _=> .bad
theorem z1S {op}(h:Snd X Y a fa):Snd X Y (.BoolOp op [a] pos) fa:= .mk λρ=>Ki (h ρ)
theorem z1T (ha:Snd X Y a fa)(hb:Snd X Y (.BoolOp .And (b :: rest) pos) fb):Snd X Y (.BoolOp .And (a :: b :: rest) pos) (jx fa fb):= .mk λρ=>
 PE.imp (VI (ha ρ) (hb ρ)) λσ H Q ⟨B,I,q⟩=>step I q λt v H1 _ s1 r1 I1 q1=>by
  cases r1 with
  | bl k=>
   refine⟨k,rfl, ?_⟩;cases k with
   | true=>exact⟨_,I1,q1⟩
   | false=>exact ZH I1 q1 (.bl _)
  | _=>exact q1.elim
theorem s_or (ha:Snd X Y a fa)(hb:Snd X Y (.BoolOp .Or (b :: rest) pos) fb):Snd X Y (.BoolOp .Or (a :: b :: rest) pos) (orE fa fb):= .mk λρ=>
 PE.imp (z1m (ha ρ) (hb ρ)) λσ H Q ⟨B,I,q⟩=>step I q λt v H1 _ s1 r1 I1 q1=>by
  cases r1 with
  | bl k=>
   refine⟨k,rfl, ?_⟩;cases k with
   | false=>exact⟨_,I1,q1⟩
   | true=>exact ZH I1 q1 (.bl _)
  | _=>exact q1.elim
theorem z1U (ha:Snd X Y a fa):Snd X Y (.UnaryOp .Not a pos) (vc fa):= .mk λρ=>
 PE.imp (Kj (ha ρ)) λσ H Q ⟨B,I,q⟩=>step I q λt v H1 _ s1 r1 I1 q1=>by
  cases r1 with
  | bl k=>exact⟨k,rfl,ZH I1 q1 (.bl _)⟩
  | _=>exact q1.elim
structure yQ (X:Cx) (Y:Fx) (e:Expr) (f:En->R Bool):Prop where
 mk ::
 go:∀ρ,PW X e (tS Y rE f ρ)
instance {X:Cx}{Y:Fx}{e:Expr}{f:En->R Bool}:CoeFun (yQ X Y e f) λ_=>∀ρ,PW X e (tS Y rE f ρ):=⟨yQ.go⟩
theorem yQ.t (h:yQ X Y e f):Wj X Y e f:= .mk λρ=>(h ρ).pt
theorem PW.imp (h:PW X e t)(i:∀σ H Q,t' σ H Q->t σ H Q):PW X e t' :=λwh pins s σ H Q I q=>h wh _ s σ H Q I (i σ H Q q)
def KS (fa fb:En->R Bool):En->R Bool:=λρ=>(fa ρ).bind λx=>if x=true then fb ρ else .ok false
def orT (fa fb:En->R Bool):En->R Bool:=λρ=>(fa ρ).bind λx=>if x=true then .ok true else fb ρ
def uD (fa:En->R Bool):En->R Bool:=λρ=>(fa ρ).bind λx=> .ok (!x)
theorem KT (h:Wj X Y a ga):yQ X Y (.BoolOp .And [a] pos) ga:= .mk λρ=>xF (h ρ)
theorem z1V (h:Wj X Y a ga):yQ X Y (.BoolOp .Or [a] pos) ga:= .mk λρ=>VH (h ρ)
theorem z1W (ha:Wj X Y a ga)(hb:yQ X Y (.BoolOp .And (b :: rest) pos) gb):yQ X Y (.BoolOp .And (a :: b :: rest) pos) (KS ga gb):= .mk λρ=>
 PW.imp (Kf (ha ρ) (hb ρ)) λσ H Q ⟨B,I,q⟩=>step I q λt v H1 _ s1 r1 I1 q1=>by
  have r1' :=r1;subst r1';cases v with
  | true=>exact⟨_,I1,q1⟩
  | false=>exact ZH I1 q1 rfl
theorem w_or (ha:Wj X Y a ga)(hb:yQ X Y (.BoolOp .Or (b :: rest) pos) gb):yQ X Y (.BoolOp .Or (a :: b :: rest) pos) (orT ga gb):= .mk λρ=>
 PW.imp (Kg (ha ρ) (hb ρ)) λσ H Q ⟨B,I,q⟩=>step I q λt v H1 _ s1 r1 I1 q1=>by
  have r1' :=r1;subst r1';cases v with
  | false=>exact⟨_,I1,q1⟩
  | true=>exact ZH I1 q1 rfl
theorem z1X (ha:Wj X Y a ga):Wj X Y (.UnaryOp .Not a pos) (uD ga):= .mk λρ=>
 PT.imp (Kh (ha ρ)) λσ H Q ⟨B,I,q⟩=>step I q λt v H1 _ s1 r1 I1 q1=>by
  have r1' :=r1;subst r1';exact ZH I1 q1 rfl
noncomputable def tru:T->R Bool
 | .bl k=> .ok k
 | .non=> .ok false
 | .int i=> .ok (i != 0)
 | .tup xs=> .ok (!xs.isEmpty)
 | .lst xs=> .ok (!xs.isEmpty)
 | _=> .bad
def jG (fa:En->R T):En->R Bool:=λρ=>(fa ρ).bind tru
theorem isE (r:zF H xs ts):(!xs.isEmpty)= !ts.isEmpty:=by cases r <;> rfl
theorem z1Y (ha:j9 X Y a fa)(he:∀whole,isTrue a X.env whole=(do let v ← whole;standAt a.pos;holding [v] (truthy v)):=by intro _;rfl):Wj X Y a (jG fa):= .mk λρ=>
 PT.imp (vv (ha ρ) he) λσ H Q ⟨B,I,q⟩=>step I q λt v H1 _ s1 r1 I1 q1=>by
  cases r1 with
  | bl k=>exact⟨k,rfl,ZH I1 q1 rfl⟩
  | non=>exact⟨false,rfl,ZH I1 q1 rfl⟩
  | int i=>exact⟨_,rfl,ZH I1 q1 rfl⟩
  | tup h r=>exact⟨_,.inr (.inl ⟨_,SqT.of h,rfl⟩),ZH I1 q1 (isE r)⟩
  | lst h r=>exact⟨_,.inl ⟨_,SqL.of h,rfl⟩,ZH I1 q1 (isE r)⟩
  | _=>exact q1.elim
def ifE (g:En->R Bool)(fa fb:En->R T):En->R T:=λρ=>(g ρ).bind λk=>if k=true then fa ρ else fb ρ
theorem s_if (hc:Wj X Y c ga)(ha:Snd X Y a fa)(hb:Snd X Y b fb):Snd X Y (.IfExp c a b pos) (ifE ga fa fb):= .mk λρ=>
 PE.imp (vo (hc ρ) (ha ρ) (hb ρ)) λσ H Q ⟨B,I,q⟩=>step I q λt v H1 _ s1 r1 I1 q1=>by
  have r1' :=r1;subst r1';cases v with
  | true=>exact⟨_,I1,q1⟩
  | false=>exact⟨_,I1,q1⟩
end
end PV
namespace PV
open PySem PySem.Spec PyProof.Rows L2
section
variable {X:Cx}{Y:Fx}{a b c d:Expr}{fa fb fc fd:En->R T}{pos p:Pos}
def ap1 (g:T->R T)(fa:En->R T):En->R T:=λρ=>(fa ρ).bind g
noncomputable abbrev St1 (X:Cx)(a:Expr):Prop:=starEach [a] X.env=[(false,eval a X.env)]
theorem JI {id:String}{x:Str}{r:List V->Hp->VK->Prop}{g:T->R T}(hc:Zc X (.builtin id) r)(hr:∀v t B H Q,Rep H v t->zr B H->Po Y rC B H (g t) Q->r [v] H Q)
  (gl:Gl X x) (mg:X.mg x=none) (bt:bootBuiltins x=some (.builtin id)) (ha:j9 X Y a fa) (hs:St1 X a:=by exact st1 rfl) (hn:x ≠ "__name__":=by decide) (hd:(x == ("__debug__":Str))=false:=by decide):Snd X Y (.Call (.Name x p) [a] [] pos) (ap1 g fa):= .mk λρ=>
 PE.imp (ZF hc gl mg bt (zz (ha ρ) zQ hs) hn hd hs rfl) λσ H Q ⟨B,I,q⟩=>step I q λt v H1 _ s1 r1 I1 q1=>hr v t _ H1 Q r1 I1.sB q1
theorem Yy {id:String}{x:Str}{r:List V->Hp->VK->Prop}{g:T->R T}(hc:Zc X (.type id) r)(hr:∀v t B H Q,Rep B v t->zr B H->Po Y rC B H (g t) Q->r [v] H Q)
  (gl:Gl X x) (mg:X.mg x=none) (bt:bootBuiltins x=some (.type id)) (ha:Snd X Y a fa) (hs:St1 X a:=by exact st1 rfl) (hn:x ≠ "__name__":=by decide) (hd:(x == ("__debug__":Str))=false:=by decide):Snd X Y (.Call (.Name x p) [a] [] pos) (ap1 g fa):= .mk λρ=>
 PE.imp (ZD hc gl mg bt (zz (ha ρ) zQ hs) hn hd hs rfl) λσ H Q ⟨B,I,q⟩=>step I q λt v H1 _ s1 r1 I1 q1=>hr v t _ H1 Q r1 I1.sB q1
def Zj:T->R T
 | .tup xs=> .ok (.int xs.length)
 | .lst xs=> .ok (.int xs.length)
 | .fz xs=> .ok (.int xs.length)
 | .str x=>if x.length<=bnd then .ok (.int x.length) else .bad
 | _=> .bad
theorem z1Z (v:V)(t:T)(B H:Hp)(Q:VK)(r:Rep H v t)(sB:zr B H)(q:Po Y rC B H (Zj t) Q):
  (∃p ys,[v]=[V.ref p]/\(SqL X.K H p ys\/SqT X.K H p ys)/\Q (V.int ys.length) H)\/(∃z,[v]=[V.str z]/\z.length<=sizeLine/\Q (V.int z.length) H):=by
 cases r with
 | tup h r=>exact .inl ⟨_,_,rfl,.inr (SqT.of h),po0 sB q rfl (by rw[r.length];exact .int _)⟩
 | lst h r=>exact .inl ⟨_,_,rfl,.inl (SqL.of h),po0 sB q rfl (by rw[r.length];exact .int _)⟩
 | fz h r=>exact .inl ⟨_,_,rfl,.inl (.inl (.inr ⟨_,h⟩)),po0 sB q rfl (by rw[r.length];exact .int _)⟩
 | str x=>
  by_cases hb:x.length<=bnd
  ·exact .inr ⟨x,rfl,Zp hb,po0 sB q (if_pos hb) (.int _)⟩
  ·rw[show Zj (.str x)= .bad from if_neg hb]at q;exact q.elim
 | _=>exact q.elim
theorem z20 (gl:Gl X "len")(mg:X.mg "len"=none)(ha:j9 X Y a fa)(hs:St1 X a:=by exact st1 rfl):Snd X Y (.Call (.Name "len" p) [a] [] pos) (ap1 Zj fa):=
 JI (Wy.or Wz) z1Z gl mg PySem.boot_len ha hs
noncomputable def z0F:T->R T
 | .tup xs=> .ok (.tup xs)
 | .lst xs=> .ok (.tup xs)
 | _=> .bad
theorem z21 (v:V)(t:T)(B H:Hp)(Q:VK)(r:Rep B v t)(sB:zr B H)(q:Po Y rC B H (z0F t) Q):
  ∃p ys,[v]=[V.ref p]/\((SqL X.K H p ys/\∀l,H l=none->Q (.ref l) (upd H l (.tup ys)))\/(SqT X.K H p ys/\Q (.ref p) H)):=by
 cases r with
 | tup h r=>exact⟨_,_,rfl,.inr ⟨SqT.of (sB _ _ h),po0 sB q rfl (.tup h r)⟩⟩
 | lst h r=>exact⟨_,_,rfl,.inl ⟨SqL.of (sB _ _ h),λl hl=>KJ sB q rfl r hl⟩⟩
 | _=>exact q.elim
theorem Xe (gl:Gl X "tuple")(mg:X.mg "tuple"=none)(ha:Snd X Y a fa)(hs:St1 X a:=by exact st1 rfl):Snd X Y (.Call (.Name "tuple" p) [a] [] pos) (ap1 z0F fa):=
 Yy jH z21 gl mg (PyProof.Rows.Boot.«tuple») ha hs
noncomputable def tyN:T->String
 | .non=>"NoneType"
 | .bl _=>"bool"
 | .int _=>"int"
 | .str _=>"str"
 | .tup _=>"tuple"
 | .lst _=>"list"
 | .fz _=>"list"
def isT (n:String)(t:T):Bool:=tyN t == n || (n == "int" && tyN t == "bool")
theorem z22 (K:aa)(r:Rep H v t):yh K H v (.type (tyN t)):=by
 cases r with
 | non=>exact .non
 | bl b=>exact .bl b
 | int b=>exact .int b
 | str b=>exact .str b
 | tup h _=>exact .tup h
 | lst h _=>exact .lst h
 | fz h _=>exact .frz h
theorem vP:Zc X (.builtin "isinstance") (λxs H Q=>∃v n t,xs=[v,.ty n]/\Rep H v t/\bp X.K (.type (tyN t)) (.type n)=some (isT n t)/\Q (.bl (isT n t)) H):=by
 intro pins s σ H xs us Q I rv h;obtain⟨v,n,t,rfl,r,hk,q⟩:=h;obtain⟨u,w,rfl,ru,rw'⟩:=uy rv;obtain rfl:w=Value.type n:=rw';exact Yc I ru (z22 X.K r) hk λtk=>⟨.bl _,H,I.tok tk,rfl,q⟩
def Wl (n:String)(t:T):R T:= .ok (.bl (isT n t))
theorem Xf (K:aa)(t:T):bp K (.type (tyN t)) (.type "int")=some (isT "int" t):=by cases t <;> rfl
theorem vQ (K:aa)(t:T):bp K (.type (tyN t)) (.type "bool")=some (isT "bool" t):=by cases t <;> rfl
theorem Xg (K:aa)(t:T):bp K (.type (tyN t)) (.type "str")=some (isT "str" t):=by cases t <;> rfl
theorem WF (K:aa)(t:T):bp K (.type (tyN t)) (.type "tuple")=some (isT "tuple" t):=by cases t <;> rfl
theorem vR (K:aa)(t:T):bp K (.type (tyN t)) (.type "list")=some (isT "list" t):=by cases t <;> rfl
theorem vS (hk:∀t,bp X.K (.type (tyN t)) (.type n)=some (isT n t))(gl:Gl X "isinstance")(mg:X.mg "isinstance"=none)(gl' :Gl X (aH n))(mg' :X.mg (aH n)=none)(bt:bootBuiltins (aH n)=some (.type n))(ha:j9 X Y a fa)
  (hs:starEach [a,.Name (aH n) p'] X.env=[(false,eval a X.env),(false,eval (.Name (aH n) p') X.env)]:=by exact st2 rfl rfl) (hs2:starEach [.Name (aH n) p'] X.env=[(false,eval (.Name (aH n) p') X.env)]:=by exact st1 rfl)
  (hn:aH n ≠ "__name__":=by decide) (hd:(aH n == ("__debug__":Str))=false:=by decide) (hz:((backTo pos (starEach [.Name (aH n) p'] X.env)).any λx=>x.fst)=false:=by exact Zm rfl):
  Snd X Y (.Call (.Name "isinstance" p) [a,.Name (aH n) p'] [] pos) (ap1 (Wl n) fa):= .mk λρ=>
 PE.imp (ZF vP gl mg PyProof.Rows.Boot.«isinstance» (zz (ha ρ) (zz (uw (v:= .ty n) gl' mg' bt rfl hn hd) zQ hs2) (by rw[hs,hs2])) (by decide) (by decide) (by rw[hs,hs2]) hz) λσ H Q ⟨B,I,q⟩=>
  step I q λt v H1 _ s1 r1 I1 q1=>⟨v,n,t,rfl,r1,hk t,po0 I1.sB q1 rfl (.bl _)⟩
def atT (xs:List T)(i:Int):R T:=match atI xs i with
 | some t=> .ok t
 | none=> .bad
def ixT:T->T->R T
 | .tup xs,.int i=>atT xs i
 | .lst xs,.int i=>atT xs i
 | .fz xs,.int i=>atT xs i
 | .str z,.int i=>if z.length<=bnd then match atI z.cps.toList i with | some c=> .ok (.str ⟨#[c]⟩) | none=> .bad else .bad
 | _,_=> .bad
theorem JJ (r:zF H xs ts)(h:atI ts i=some t):∃v,atI xs i=some v/\Rep H v t:=by
 unfold atI at h ⊢;rw[r.length];cases e:ixN _ i with
 | none=>rw[e]at h;cases h
 | some j=>
  rw[e]at h;obtain⟨v,h1,h2⟩:=r.get (h);exact⟨v,h1,h2⟩
theorem s_ix (ha:Snd X Y a fa)(hb:Snd X Y b fb)(hs:jR b:=by exact λ_ _=>rfl):Snd X Y (.Subscript a b pos) (zd ixT fa fb):= .mk λρ=>
 PE.imp (ym Ww (ha ρ) (hb ρ) hs) λσ H Q ⟨B,I,q⟩=>step I q λt v H1 _ s1 r1 I1 q1=>step I1 q1 λt' v' H2 _ s2 r2 I2 q2=>by
  have r1:=r1.mono (zO.ge I1.sB s2);cases r2 with
  | int i=>
   cases r1 with
   | @tup _ xs ts h r=>
    have q2:Po Y rC _ H2 (atT ts i) Q:=q2;unfold atT at q2;split at q2
    ·rename_i t' e;obtain⟨w,e1,e2⟩:=JJ r e;exact .inr (.inl ⟨_,xs,i,w,rfl,rfl,SqT.of (I2.sB _ _ h),e1,po0 I2.sB q2 rfl e2⟩)
    ·exact q2.elim
   | @lst _ xs ts h r=>
    have q2:Po Y rC _ H2 (atT ts i) Q:=q2;unfold atT at q2;split at q2
    ·rename_i t' e;obtain⟨w,e1,e2⟩:=JJ r e;exact .inl ⟨_,xs,i,w,rfl,rfl,SqL.of (I2.sB _ _ h),e1,po0 I2.sB q2 rfl e2⟩
    ·exact q2.elim
   | @fz _ _ xs ts h r=>
    have q2:Po Y rC _ H2 (atT ts i) Q:=q2;unfold atT at q2;split at q2
    ·rename_i t' e;obtain⟨w,e1,e2⟩:=JJ r e;exact .inl ⟨_,xs,i,w,rfl,rfl,.inl (.inr ⟨_,I2.sB _ _ h⟩),e1,po0 I2.sB q2 rfl e2⟩
    ·exact q2.elim
   | str z=>
    have q2:Po Y rC _ H2 (if z.length<=bnd then match atI z.cps.toList i with | some c=> .ok _ | none=> .bad else .bad) Q:=q2
    split at q2
    ·rename_i hb;split at q2
     ·rename_i c e;exact .inr (.inr ⟨z,i,c,rfl,rfl,Zp hb,e,po0 I2.sB q2 rfl (.str _)⟩)
     ·exact q2.elim
    ·exact q2.elim
   | _=>exact q2.elim
  | _=>cases r1 <;> exact q2.elim
structure Xh (X:Cx) (Y:Fx) (e:Option Expr) (f:En->R (Option Int)):Prop where
 mk ::
 go:∀ρ,PO X e (tS Y rE f ρ)
instance {X:Cx}{Y:Fx}{e:Option Expr}{f:En->R (Option Int)}:CoeFun (Xh X Y e f) λ_=>∀ρ,PO X e (tS Y rE f ρ):=⟨Xh.go⟩
def noO:En->R (Option Int):=λ_=> .ok none
def Jk (fa:En->R T):En->R (Option Int):=λρ=>(fa ρ).bind λt=>match t with
 | .int i=> .ok (some i)
 | _=> .bad
theorem PO.imp {e:Option Expr}{t t' :TO}(h:PO X e t)(i:∀σ H Q,t' σ H Q->t σ H Q):PO X e t' :=λpins s σ H Q I q=>h _ s σ H Q I (i σ H Q q)
theorem KU:Xh X Y none noO:= .mk λρ=>PO.imp xP λσ H Q ⟨B,I,q⟩=>ZH I q rfl
theorem KW (ha:Snd X Y a fa):Xh X Y (some a) (Jk fa):= .mk λρ=>PO.imp (xQ (ha ρ)) λσ H Q ⟨B,I,q⟩=>step I q λt v H1 _ s1 r1 I1 q1=>by
 cases r1 with
 | int i=>exact⟨i,rfl,ZH I1 q1 rfl⟩
 | _=>exact q1.elim
noncomputable def cut (xs:List T)(lo hi:Option Int):List T:=(xs.drop (HT.sIx xs.length 0 lo)).take (HT.sIx xs.length xs.length hi - HT.sIx xs.length 0 lo)
def slT (t:T)(lo hi:Option Int):R T:=match t with
 | .tup xs=> .ok (.tup (cut xs lo hi))
 | .lst xs=> .ok (.lst (cut xs lo hi))
 | _=> .bad
def slE (fa:En->R T)(fl fh:En->R (Option Int)):En->R T:=λρ=>(fa ρ).bind λt=>(fl ρ).bind λlo=>(fh ρ).bind λhi=>slT t lo hi
theorem Yz {lo hi:Option Int}(r:zF H xs ts):zF H (kU xs lo hi) (cut ts lo hi):=by
 unfold kU cut;rw[r.length];exact(r.drop _).take _
theorem jU {lo hi:Option Int}(ht:IsTup s.heap t items)(hs:s.heap.IsSliceOf sl vl vu .none)(pl:IsPart vl lo)(pu:IsPart vu hi)
  (hw:HT.sIx items.size 0 lo=0/\HT.sIx items.size items.size hi=items.size) (h:Q (.ref t) s):wpAny (model prog w) A (getItem (.ref t) (.ref sl)) Q E s:=by
 obtain⟨os,hos,hcs,hds⟩:=id hs;have hTs:s.TypeIs (.ref sl) _:=⟨os,hos,hcs⟩;unfold getItem
 try with_reducible refine bQ ?_
 refine a7 (wpAny_sequenceKey ht.typeIs (by decide) ?_)
 refine a7 (bn ht.typeIs bc
  (bH bc ht.typeIs entry_tuple_getitem ?_ (args_tuple_getitem _ _)))
 show wpAny _ _ (dS _ >>= _) _ _ s;refine a7 (tupleItemsOf_ ht ?_);refine a7 (cM hTs ?_);refine a7 (HT.sliceApplied_gen hs pl pu ?_);have hyes:(((HT.sIx items.size 0 lo):Int) == 0 && (1:Int) == 1 && (HT.sIx items.size items.size hi - HT.sIx items.size 0 lo) == items.size)=true:=by
  rw[hw.1,hw.2];simp
 show wpAny _ _ (if (((HT.sIx _ 0 lo:Nat):Int) == 0 && (1) == 1 && (HT.sIx _ _ hi - HT.sIx _ 0 lo) == items.size)=true then _ else _) _ _ s
 rw[if_pos hyes];refine a7 (a7 (cM ht.typeIs (aq ?_)));exact a7 (c_ (aq ⟨_,rfl,aq h⟩))
theorem yo:SlR X (λx lo hi H Q=>∃a xs,x= .ref a/\SqT X.K H a xs/\(HT.sIx xs.length 0 lo=0/\HT.sIx xs.length xs.length hi=xs.length)/\Q (.ref a) H):=by
 intro pins s σ H x v vl vu lo hi sl Q I rx hs pl pu h;obtain⟨a,xs,rfl,hx,hw,q⟩:=h;obtain rfl:v=Value.ref a:=rx;obtain⟨its,r,ht,hz⟩:=I.tuple hx;have hlen:its.toArray.size=xs.length:=by exact r.length.symm
 refine⟨"tuple",_,bc.lookup,ht.typeIs, ?_⟩;exact jU ht hs pl pu (by rw[hlen];exact hw) ⟨.ref a,H,I,rfl,q⟩
theorem Xi {lo hi:Option Int}(h1:HT.sIx xs.length 0 lo=0)(h2:HT.sIx xs.length xs.length hi=xs.length):cut xs lo hi=xs:=by
 unfold cut;rw[h1,h2];simp
theorem Xj {lo hi:Option Expr}{fl fh:En->R (Option Int)}(ha:Snd X Y a fa)(hl:Xh X Y lo fl)(hh:Xh X Y hi fh):Snd X Y (.Subscript a (.Slice lo hi none p2) pos) (slE fa fl fh):= .mk λρ=>
 PE.imp (vG (Ky.or (yo.or xU)) (ha ρ) (hl ρ) (hh ρ)) λσ H Q ⟨B,I,q⟩=>step I q λt v H1 _ s1 r1 I1 q1=>step I1 q1 λl l' H2 _ s2 el I2 q2=>step I2 q2 λh h' H3 _ s3 eh I3 q3=>by
  have el' :=el;have eh' :=eh;subst el' eh';have r1:=r1.mono ((zO.ge I1.sB s2).trans (zO.ge I2.sB s3));cases r1 with
  | @tup _ xs ts hx r=>
   by_cases hw:HT.sIx xs.length 0 l' =0/\HT.sIx xs.length xs.length h' =xs.length
   ·refine .inr (.inl ⟨_,xs,rfl,SqT.of (I3.sB _ _ hx),hw,po0 I3.sB q3 rfl ?_⟩);rw[r.length]at hw;rw[Xi hw.1 hw.2];exact .tup hx r
   ·exact .inl ⟨_,xs,rfl,SqT.of (I3.sB _ _ hx),hw,λp hp=>KJ I3.sB q3 rfl (Yz r) hp⟩
  | @lst _ xs ts hx r=>
   exact .inr (.inr ⟨_,xs,rfl,SqL.of (I3.sB _ _ hx),λp hp=>KK I3.sB q3 rfl (Yz r) hp⟩)
  | _=>exact q3.elim
noncomputable def YA (t t' :T):R T:=match t,t' with
 | .int i,.int j=> .ok (.int (if j < i then j else i))
 | _,_=> .bad
theorem KY (hc:X.calm=true)(gl:Gl X "min")(mg:X.mg "min"=none)(ha:Snd X Y a fa)(hb:Snd X Y b fb)
  (hs:starEach [a,b] X.env=[(false,eval a X.env),(false,eval b X.env)]:=by exact st2 rfl rfl) (hs2:starEach [b] X.env=[(false,eval b X.env)]:=by exact st1 rfl):
  Snd X Y (.Call (.Name "min" p) [a,b] [] pos) (zd YA fa fb):= .mk λρ=>
 PE.imp (ZF (Y8 hc) gl mg PyProof.Rows.Boot.«min» (zz (ha ρ) (zz (hb ρ) zQ hs2) (by rw[hs,hs2])) (by decide) (by decide) (by rw[hs,hs2]) (by rw[hs2];rfl)) λσ H Q ⟨B,I,q⟩=>
  step I q λt v H1 _ s1 r1 I1 q1=>step I1 q1 λt' v' H2 _ s2 r2 I2 q2=>by
   cases r1 with
   | int i=>
    cases r2 with
    | int j=>exact⟨i,j,rfl,po0 I2.sB q2 rfl (.int _)⟩
    | _=>exact q2.elim
   | _=>cases r2 <;> exact q2.elim
noncomputable def ur:List T->Option Bool
 | []=>some true
 | .bl k :: r=>match ur r with | some j=>some (k && j) | none=>none
 | _ :: _=>none
def Xk:T->R T
 | .lst ts=>match ur ts with | some k=> .ok (.bl k) | none=> .bad
 | _=> .bad
theorem YB:∀{H:Hp} {xs:List V} {ts:List T} {its:List Value} {k:Bool},zF H xs ts->zX xs its->ur ts=some k->∃tr:Nat->Bool,(∀i v,its[i]? =some v->v=Value.bool (tr i))/\(a_ its.length).all tr=k
 | _,_,_,_,k,.nil,.nil,h=>by
  have h' :=h;cases h';exact⟨λ_=>true,λi v e=>by simp at e,rfl⟩
 | H,_,_,_,k,.cons r rs,.cons (b:=u) rv vs,h=>by
  cases r with
  | bl b=>
   unfold ur at h;split at h
   ·rename_i j e;cases h;obtain⟨tr,h1,h2⟩:=YB rs vs e;obtain rfl:u=Value.bool b:=rv;refine⟨λi=>match i with | 0=>b | i+1=>tr i,λi v e=> ?_, ?_⟩
    ·cases i with
     | zero=>simp at e;exact e.symm
     | succ i=>exact h1 i v (by simpa using e)
    ·rw[am,cx,cV,ib,← h2];rfl
   ·cases h
  | _=>cases h
theorem YC (hh:X.A.handled=none):Zc X (.builtin "all") (λvs H Q=>∃l xs ts k,vs=[.ref l]/\H l=some (.lst xs)/\zF H xs ts/\ur ts=some k/\Q (.bl k) H):=by
 intro pins s σ H vs us Q I rv h;obtain⟨l,xs,ts,k,rfl,hl,r,hk,q⟩:=h;obtain⟨u,rfl,ru⟩:=Zt rv;obtain rfl:u=Value.ref l:=ru;obtain⟨its,rv,p,_⟩:=zT I (.inl hl) r;obtain⟨tr,h1,h2⟩:=YB r rv hk;refine call_all_walk (c8 p ?_);have hlt:=I.hok.lt hl;have old:∀b o,s.heap.get? b=some o->(s.heap.push { cls:= .type "list_iterator",data:= .fields #[.ref l,.int 0 0] }).get? b=some o:=λb o e=>a9 _ e;refine⟨s.heap.objs.size,_,_,_,_,_,tr,rfl,dX (A:=X.A.in1) hh _ l (aD hlt) its.toArray, ?_, ?_,λh' tk hk' => ?_⟩
 ·refine⟨?_,p.at λo e=>old _ o e⟩;exact⟨_,af _ rfl,rfl,rfl⟩
 ·intro i v s' Q' E' hi hq;rw[h1 i v (by simpa using hi)]
  exact aY hq
 ·rw[aC,h2];refine⟨.bl k,H,I.kept (λb o e=>hk' b o ?_ (old b o e)),rfl,q⟩;simp;exact aD (ao e)
theorem z23 (hh:X.A.handled=none)(gl:Gl X "all")(mg:X.mg "all"=none)(ha:j9 X Y a fa)(hs:St1 X a:=by exact st1 rfl):Snd X Y (.Call (.Name "all" p) [a] [] pos) (ap1 Xk fa):=
 JI (YC hh) (λv t B H Q r sB q=>by
  cases r with
  | @lst l xs ts h r=>
   have q:Po Y rC B H (match ur ts with | some k=> .ok _ | none=> .bad) Q:=q
   split at q
   ·rename_i k e;exact⟨l,xs,ts,k,rfl,h,r,e,po0 sB q rfl (.bl k)⟩
   ·exact q.elim
  | _=>exact q.elim) gl mg PyProof.Rows.Boot.«all» ha hs
end
inductive RS where
 | nx (ρ:En) | rt (t:T) | bk (ρ:En) | ct (ρ:En) | ex (c:Nat) | bad | rf (ts:List T)
noncomputable def R.s {α:Type}(r:R α)(k:α->RS):RS:=match r with
 | .ok a=>k a
 | .ex c=> .ex c
 | .bad=> .bad
def PoS (Y:Fx)(B:Hp)(r:RS)(D:va):Prop:=match r with
 | .nx ρ' =>∀σ' H' B',zr B B' ->SI Y B' ρ' σ' H' ->D.nx σ' H'
 | .rt t=>∀v H',zr Y.H0 H' ->Rep (zO Y.B0 Y.H0 H') v t->D.rt v H'
 | .bk ρ' =>∀σ' H' B',zr B B' ->SI Y B' ρ' σ' H' ->D.bk σ' H'
 | .ct ρ' =>∀σ' H' B',zr B B' ->SI Y B' ρ' σ' H' ->D.ct σ' H'
 | .ex c=>XP Y B c
 | .bad=>False
 | .rf ts=>∀a xs H' B',zr Y.H0 H' ->Y.H0 a=none->H' a=some (.lst xs)->zF B' xs ts->B' a=none->zr B' (zO Y.B0 Y.H0 H')->D.rt (.ref a) H'
theorem PoS.up {r:RS}{D:va}(s:zr B B')(h:PoS Y B r D):PoS Y B' r D:=by
 cases r with
 | nx ρ=>exact λσ' H' B2 s2 I=>h σ' H' B2 (s.trans s2) I
 | bk ρ=>exact λσ' H' B2 s2 I=>h σ' H' B2 (s.trans s2) I
 | ct ρ=>exact λσ' H' B2 s2 I=>h σ' H' B2 (s.trans s2) I
 | rt t=>exact h
 | rf t=>exact h
 | ex c=>exact λd H' s0 sB=>h d H' s0 (s.trans sB)
 | bad=>exact h
def tSS (Y:Fx)(f:En->RS)(ρ:En):TS:=λD σ H=>∃B,SI Y B ρ σ H/\PoS Y B (f ρ) D
structure jV (X:Cx) (Y:Fx) (e:Stmt) (f:En->RS):Prop where
 mk ::
 go:∀ρ,PS X e (tSS Y f ρ)
instance {X:Cx}{Y:Fx}{e:Stmt}{f:En->RS}:CoeFun (jV X Y e f) λ_=>∀ρ,PS X e (tSS Y f ρ):=⟨jV.go⟩
structure wx (X:Cx) (Y:Fx) (e:List Stmt) (f:En->RS):Prop where
 mk ::
 go:∀ρ,PSs X e (tSS Y f ρ)
instance {X:Cx}{Y:Fx}{e:List Stmt}{f:En->RS}:CoeFun (wx X Y e f) λ_=>∀ρ,PSs X e (tSS Y f ρ):=⟨wx.go⟩
theorem jy {α β:Type}{rel:Hp->Hp->β->α->Prop}{f:En->R α}{k:α->RS}{D:va}{K:β->Hp->Prop}
  (I:SI Y B ρ σ H) (h:PoS Y B ((f ρ).s k) D)
  (n:∀a b H1,f ρ= .ok a->zr H H1->rel (zO B H H1) H1 b a->SI Y (zO B H H1) ρ σ H1->PoS Y (zO B H H1) (k a) D->K b H1):tS Y rel f ρ σ H K:=by
 refine⟨B,I, ?_⟩;cases e:f ρ with
 | bad=>rw[e]at h;exact h
 | ex c=>rw[e]at h;exact h
 | ok a=>
  rw[e]at h;exact λb H1 s r=>n a b H1 e s r (I.grow s) (PoS.up (zO.ge I.sB s) h)
theorem zq {α:Type}{xs:List α}{x y:α}(h:(xs.set i x)[j]? =some y):(j=i/\y=x)\/(j ≠ i/\xs[j]? =some y):=by
 by_cases e:j=i
 ·subst e
  by_cases hl:j < xs.length
  ·rw[aT hl]at h;exact .inl ⟨rfl,(aB h).symm⟩
  ·rw[aU (by rw[aE];omega)]at h;cases h
 ·rw[ay (aS e)]at h;exact .inr ⟨e,h⟩
theorem WG {α:Type}{xs:List α}{x y:α}(h:(xs.set i x)[i]? =some y):i < xs.length:=by
 by_cases hl:i < xs.length
 ·exact hl
 ·rw[aU (by rw[aE];omega)]at h;cases h
theorem StI.set {O:Addr->Option (Nat×Nat)}(x:StI Y B ρ σ H as O)(i:Nat)(s:Sl)(v:Option V)(h1:s.isO=false)(h3:∀ts,s ≠ .ow ts):StI Y B (ρ.set i s) (σ.set i v) H as O:=
 x.on (λj y hy h=>by
  rcases zq h with ⟨_,e⟩ | ⟨hj,h'⟩
  ·rw[e,h1]at hy;cases hy
  ·exact⟨h',ay (aS hj)⟩) (zr.refl _) rfl rfl (zr.refl _) λb o hb b0 h0 _=>⟨hb,b0,h0,λok j us h=>by
  rcases zq h with ⟨_,e⟩ | ⟨hj,h'⟩
  ·exact absurd e.symm (h3 us)
  ·rw[ay (aS hj)];exact ok j us h'⟩
theorem SI.setV (I:SI Y B ρ σ H)(i:Nat)(r:Rep B v t):SI Y B (ρ.set i (.vl t)) (σ.set i (some v)) H where
 s0:=I.s0
 sH:=I.sH
 sB:=I.sB
 old:=I.old
 len:=by rw[aE,aE];exact I.len
 vl:=λj u h=>by
  rcases zq h with ⟨rfl,e⟩ | ⟨hj,h'⟩
  ·cases e;exact⟨v,aT (by rw[← I.len];exact WG h),r⟩
  ·obtain⟨w,e,rr⟩:=I.vl j u h';exact⟨w,by rw[ay (aS hj)];exact e,rr⟩
 ow:=λj us h=>by
  rcases zq h with ⟨rfl,e⟩ | ⟨hj,h'⟩
  ·cases e
  ·obtain⟨a,xs,e,b0,h0,hh,rr,d⟩:=I.ow j us h';refine⟨a,xs,by rw[ay (aS hj)];exact e,b0,h0,hh,rr,λk ws hk hw=> ?_⟩
   rcases zq hw with ⟨rfl,e'⟩ | ⟨hk',hw'⟩
   ·cases e'
   ·rw[ay (aS hk')];exact d k ws hk hw'
 xc:=λj c h=>by
  rcases zq h with ⟨rfl,e⟩ | ⟨hj,h'⟩
  ·cases e
  ·obtain⟨a,e,r⟩:=I.xc j c h';exact⟨a,by rw[ay (aS hj)];exact e,r⟩
 st:=let ⟨as,O,x⟩:=I.st;⟨as,O,x.set i _ _ rfl (λ_=>Sl.noConfusion)⟩
theorem SI.newO (I:SI Y B ρ σ H)(i:Nat)(hp:H p=none)(r:zF B xs ts):SI Y B (ρ.set i (.ow ts)) (σ.set i (some (.ref p))) (upd H p (.lst xs)) where
 s0:=I.s0
 sH:=I.sH.trans (zr.new hp _)
 sB:=I.sB.trans (zr.new hp _)
 old:=I.old
 len:=by rw[aE,aE];exact I.len
 vl:=λj u h=>by
  rcases zq h with ⟨rfl,e⟩ | ⟨hj,h'⟩
  ·cases e
  ·obtain⟨w,e,rr⟩:=I.vl j u h';exact⟨w,by rw[ay (aS hj)];exact e,rr⟩
 ow:=λj us h=>by
  have op:∀k ws a,ρ[k]? =some (Sl.ow ws)->σ[k]? =some (some (V.ref a))->a ≠ p:=λk ws a h1 h2=>by
   obtain⟨a',xs',e,_,_,hh,_⟩:=I.ow k ws h1;rw[e]at h2;cases h2;exact zL hh hp
  rcases zq h with ⟨rfl,e⟩ | ⟨hj,h'⟩
  ·cases e;refine⟨p,xs,aT (by rw[← I.len];exact WG h),I.sB.free hp,I.sH.free hp,zA,r,λk ws hk hw=> ?_⟩
   rcases zq hw with ⟨rfl,e'⟩ | ⟨hk',hw'⟩
   ·exact absurd rfl hk
   ·rw[ay (aS hk')];exact λz=>op k ws p hw' z rfl
  ·obtain⟨a,xs',e,b0,h0,hh,rr,d⟩:=I.ow j us h';refine⟨a,xs',by rw[ay (aS hj)];exact e,b0,h0,by rw[zv (op j us a h' e)];exact hh,rr,λk ws hk hw=> ?_⟩
   rcases zq hw with ⟨rfl,e'⟩ | ⟨hk',hw'⟩
   ·rw[aT (by rw[← I.len];exact WG hw)]
    intro z;exact op j us a h' e (by injection z with z;injection z with z;injection z with z;exact z.symm)
   ·rw[ay (aS hk')];exact d k ws hk hw'
 xc:=λj c h=>by
  rcases zq h with ⟨rfl,e⟩ | ⟨hj,h'⟩
  ·cases e
  ·obtain⟨a,e,r⟩:=I.xc j c h';exact⟨a,by rw[ay (aS hj)];exact e,r⟩
 st:=by
  obtain⟨as,O,x⟩:=I.st;refine⟨as,O,x.on (λj y hy h=> ?_) (zr.refl _) rfl rfl (zr.refl _) λb o hb b0 h0 _=> ?_⟩
  ·rcases zq h with ⟨_,e⟩ | ⟨hj,h'⟩
   ·subst e;cases hy
   ·exact⟨h',ay (aS hj)⟩
  ·have hne:b ≠ p:=zL hb hp;refine⟨by rw[zv hne];exact hb,b0,h0,λok j us h=> ?_⟩
   rcases zq h with ⟨rfl,e⟩ | ⟨hj,h'⟩
   ·rw[aT (by rw[← I.len];exact WG h)]
    intro z;injection z with z;injection z with z;injection z with z;exact hne z.symm
   ·rw[ay (aS hj)];exact ok j us h'
theorem SI.chg (I:SI Y B ρ σ H)(i:Nat)(hi:ρ[i]? =some (.ow ts))(he:σ[i]? =some (some (.ref p)))(r:zF B ys us):SI Y B (ρ.set i (.ow us)) σ (upd H p (.lst ys)):=by
 obtain⟨p',xs,e,b0,h0,hh,rr,d⟩:=I.ow i ts hi;rw[he]at e;cases e;have nb:∀b o,B b=some o->b ≠ p:=λb o h z=>by subst z;rw[b0]at h;cases h
 have n0:∀b o,Y.H0 b=some o->b ≠ p:=λb o h z=>by subst z;rw[h0]at h;cases h
 refine⟨I.s0,λb o h=>by rw[zv (n0 b o h)];exact I.sH b o h,λb o h=>by rw[zv (nb b o h)];exact I.sB b o h,I.old,by rw[aE];exact I.len,λj u h=> ?_,λj ws h=> ?_,λj c h=> ?_, ?_⟩
 rotate_right
 ·obtain⟨as,O,x⟩:=I.st;refine⟨as,O,x.on (λj y hy h=> ?_) (zr.refl _) rfl rfl (zr.refl _) λb o hb b0' h0' cs=> ?_⟩
  ·rcases zq h with ⟨_,e⟩ | ⟨hj,h'⟩
   ·subst e;cases hy
   ·exact⟨h',rfl⟩
  ·have hne:b ≠ p:=λz=>by
    subst z;rcases cs with ⟨C,dx,vs,ez⟩ | ok
    ·rw[hh]at hb;cases hb;cases ez
    ·exact ok i ts hi he
   refine⟨by rw[zv hne];exact hb,b0',h0',λok j us h=> ?_⟩
   rcases zq h with ⟨rfl,e⟩ | ⟨hj,h'⟩
   ·rw[he];intro z;injection z with z;injection z with z;injection z with z;exact hne z.symm
   ·exact ok j us h'
 rotate_right
 ·rcases zq h with ⟨rfl,z⟩ | ⟨hj,h'⟩
  ·cases z
  ·exact I.xc j c h'
 ·rcases zq h with ⟨rfl,z⟩ | ⟨hj,h'⟩
  ·cases z
  ·exact I.vl j u h'
 ·rcases zq h with ⟨rfl,z⟩ | ⟨hj,h'⟩
  ·cases z;refine⟨p,ys,he,b0,h0,zA,r,λk vs hk hw=> ?_⟩;rcases zq hw with ⟨rfl,e'⟩ | ⟨hk',hw'⟩
   ·exact absurd rfl hk
   ·exact d k vs hk hw'
  ·obtain⟨a,xs',e,c0,g0,gg,ss,d'⟩:=I.ow j ws h';have hne:a ≠ p:=λz=>by subst z;exact d j ws hj h' e
   refine⟨a,xs',e,c0,g0,by rw[zv hne];exact gg,ss,λk vs hk hw=> ?_⟩
   rcases zq hw with ⟨rfl,e'⟩ | ⟨hk',hw'⟩
   ·rw[he];intro z;injection z with z;injection z with z;injection z with z;exact hne z.symm
   ·exact d' k vs hk hw'
noncomputable def frz1:Sl->Sl
 | .ow ts=> .vl (.lst ts)
 | .ob _ _=> .un
 | .st _=> .un
 | x=>x
def frz (ρ:En):En:=ρ.map frz1
theorem SI.up (I:SI Y B ρ σ H):zr B (zO B Y.H0 H):=λb o h=>by
 cases q:Y.H0 b with
 | none=>rw[Z6 q];exact I.sB b o h
 | some u=>rw[Z7 q];exact h
theorem SI.frz (I:SI Y B ρ σ H):SI Y (zO B Y.H0 H) (PV.frz ρ) σ H:=by
 have up:zr B (zO B _ H):=λb o h=>by
  cases q:Y.H0 b with
  | none=>rw[Z6 q];exact I.sB b o h
  | some u=>rw[Z7 q];exact h
 refine⟨I.s0,I.sH,λb o h=> ?_,λb o h=>by rw[Z7 h];exact I.old b o h,by unfold PV.frz;rw[ac];exact I.len,λj t h=> ?_,λj ts h=> ?_,λj c h=> ?_, ?_⟩
 rotate_right
 ·have no:∀(j:Nat) (y:Sl),y.isS=true->(PV.frz ρ)[j]? ≠ some y:=λj y hy h=>by
   unfold PV.frz at h;rw[ar]at h;cases e:ρ[j]? with
   | none=>rw[e]at h;cases h
   | some x=>rw[e]at h;cases x <;> (cases h;cases hy)
  obtain⟨as,O,x⟩:=I.st;refine⟨Y.as,λ_=>none,cg _,λi os e=>(no i _ rfl e).elim,λi j os os' e=>(no i _ rfl e).elim,λi k n e=>(no i _ rfl e).elim,λi k fs h=> ?_,λi os e=>(no i _ rfl e).elim⟩;have h' :ρ[i]? =some (Sl.oc k fs):=by
   unfold PV.frz at h;rw[ar]at h;cases e:ρ[i]? with
   | none=>rw[e]at h;cases h
   | some x=>rw[e]at h;cases x <;> (cases h;try rfl)
  obtain⟨a,C,dx,vs,e1,e2,e3,e4,e5⟩:=x.oc i k fs h';exact⟨a,C,dx,vs,e1,e2,e3,e4,e5.mono up (zr.refl _)⟩
 rotate_right
 ·unfold PV.frz at h;rw[ar]at h;cases e:ρ[j]? with
  | none=>rw[e]at h;cases h
  | some x=>
   rw[e]at h;cases x with
   | xc d=>
    cases h;obtain⟨a,e1,r⟩:=I.xc j _ e;exact⟨a,e1,up a _ r⟩
   | un=>cases h
   | vl _=>cases h
   | ow _=>cases h
   | ob _ _=>cases h
   | oc _ _=>cases h
   | st _=>cases h
 ·cases q:Y.H0 b with
  | none=>rw[Z6 q]at h;exact h
  | some u=>rw[Z7 q]at h;exact I.sB b o h
 ·unfold PV.frz at h;rw[ar]at h;cases e:ρ[j]? with
  | none=>rw[e]at h;cases h
  | some x=>
   rw[e]at h;cases x with
   | un=>cases h
   | vl u=>
    cases h;obtain⟨v,e1,r⟩:=I.vl j _ e;exact⟨v,e1,r.mono up⟩
   | ow us=>
    cases h;obtain⟨a,xs,e1,b0,h0,hh,rr,_⟩:=I.ow j us e;exact⟨.ref a,e1,.lst (by rw[Z6 h0];exact hh) (rr.mono up)⟩
   | xc _=>cases h
   | ob _ _=>cases h
   | oc _ _=>cases h
   | st _=>cases h
 ·unfold PV.frz at h;rw[ar]at h;cases e:ρ[j]? with
  | none=>rw[e]at h;cases h
  | some x=>
   rw[e]at h;cases x with
   | un=>cases h
   | vl u=>cases h
   | ow us=>cases h
   | xc _=>cases h
   | ob _ _=>cases h
   | oc _ _=>cases h
   | st _=>cases h
theorem Ub {Y:Fx}{B H H' :Hp}(s0:zr Y.H0 H)(old:∀b o,Y.H0 b=some o->B b=Y.B0 b)(s:zr H H')(sB:zr B H):zr (zO B H H') (zO Y.B0 Y.H0 H'):=λb o h=>by
 cases q:H b with
 | none=>
  rw[Z6 q]at h;rw[Z6 (s0.free q)];exact h
 | some u=>
  rw[Z7 q]at h;cases z:Y.H0 b with
  | none=>rw[Z6 z];exact s b o (sB b o h)
  | some w=>rw[Z7 z,← old b w z];exact h
section
variable {X:Cx}{Y:Fx}{a b c d:Expr}{fa fb fc fd:En->R T}{pos p:Pos}{st:Stmt}{sts sts' :List Stmt}{f g:En->RS}
def nxS:En->RS:=λρ=> .nx ρ
def zB (f g:En->RS):En->RS:=λρ=>match f ρ with
 | .nx ρ' =>g ρ'
 | r=>r
theorem z24:wx X Y [] nxS:= .mk λρ=>PSs.imp yX λD σ H ⟨B,I,q⟩=>q σ H B (zr.refl B) I
theorem z25 (h:jV X Y st f):wx X Y [st] f:= .mk λρ=>ux (h ρ)
theorem KZ (h1:jV X Y st f)(h2:wx X Y sts g):wx X Y (st :: sts) (zB f g):= .mk λρ=>by
 refine PSs.imp (wN (u:=λD σ H=>∃ρ',tSS Y g ρ' D σ H) (h1 ρ) ?_) ?_
 ·intro pins s σ H D I ⟨ρ',q⟩;exact h2 ρ' _ s σ H D I q
 ·intro D σ H ⟨B,I,q⟩;refine⟨B,I, ?_⟩;unfold zB at q;cases e:f ρ with
  | nx ρ' =>
   rw[e]at q;intro σ' H' B' s' I';exact⟨ρ',B',I',PoS.up s' q⟩
  | rt t=>rw[e]at q;exact q
  | rf t=>rw[e]at q;exact q
  | bk ρ' =>rw[e]at q;exact q
  | ct ρ' =>rw[e]at q;exact q
  | ex c=>rw[e]at q;exact q
  | bad=>rw[e]at q;exact q
def zK (i:Nat)(fa:En->R T):En->RS:=λρ=>(fa ρ).s λt=> .nx (ρ.set i (.vl t))
theorem g9 (hN:X.N.Nodup)(hi:X.N[i]? =some x)(hx:L2.Loc X.env.scope x)(ha:Snd X Y a fa)(hs:swapsWith a (some (.Name x p')) pos.line X.env=pure false:=by rfl)
  (hf:X.fn x=true\/X.env.scope.names.lookup x=some .local:=by first | exact .inl rfl | exact .inr rfl | assumption):jV X Y (.Assign [.Name x p'] a pos) (zK i fa):= .mk λρ=>
 PS.imp (U4 hN hi hx (ha ρ) hs hf) λD σ H ⟨B,I,q⟩=>jy I q λt v H1 _ s1 r1 I1 q1=>q1 _ _ _ (zr.refl _) (I1.setV i r1)
def yR (i:Nat)(ga:En->R (List T)):En->RS:=λρ=>(ga ρ).s λts=>if ts.length<=bnd then .nx (ρ.set i (.ow ts)) else .bad
theorem gc (hN:X.N.Nodup)(hi:X.N[i]? =some x)(hx:L2.Loc X.env.scope x)(ha:uq X Y es ga)(hs:swapsWith (.List es p) (some (.Name x p')) pos.line X.env=pure false:=by rfl)
  (hf:X.fn x=true\/X.env.scope.names.lookup x=some .local:=by first | exact .inl rfl | exact .inr rfl | assumption):jV X Y (.Assign [.Name x p'] (.List es p) pos) (yR i ga):= .mk λρ=>
 PS.imp (U4 hN hi hx (Wq (ha ρ)) hs hf) λD σ H ⟨B,I,q⟩=>jy I q λts vs H1 _ s1 r1 I1 q1=>by
  split at q1
  ·rename_i hb;exact⟨by rw[r1.length];exact Zp hb,λp hp=>q1 _ _ _ (zr.refl _) (I1.newO i hp r1)⟩
  ·exact q1.elim
def zG (fa:En->R T):En->RS:=λρ=>(fa (frz ρ)).s λt=> .rt t
theorem z26 (ha:Snd X Y a fa):jV X Y (.Return (some a) pos) (zG fa):= .mk λρ=>
 PS.imp (Wo (ha _)) λD σ H ⟨B,I,q⟩=>by
  refine⟨_,I.frz, ?_⟩;unfold zG at q;cases e:fa _ with
  | bad=>rw[e]at q;exact q
  | ex c=>
   rw[e]at q;exact λd H' s0 sG=>q d H' s0 (I.up.trans sG)
  | ok t=>
   rw[e]at q;intro v H' s r;have J:=I.frz;exact q v H' (I.sH.trans s) (r.mono (Ub J.sH J.old s J.sB))
def ifS (g:En->R Bool)(f1 f2:En->RS):En->RS:=λρ=>(g ρ).s λk=>if k=true then f1 ρ else f2 ρ
theorem z27 (hc:Wj X Y c ga)(h1:wx X Y sts f)(h2:wx X Y sts' g):jV X Y (.If c sts sts' pos) (ifS ga f g):= .mk λρ=>
 PS.imp (Kk (hc ρ) (h1 ρ) (h2 ρ)) λD σ H ⟨B,I,q⟩=>jy I q λt v H1 _ s1 r1 I1 q1=>by
  have r1' :=r1;subst r1';cases v with
  | true=>exact⟨_,I1,q1⟩
  | false=>exact⟨_,I1,q1⟩
def JK (fa:En->R T):En->RS:=λρ=>(fa ρ).s λ_=> .nx ρ
theorem gh (ha:Snd X Y a fa)(hs:swapsWith a none pos.line X.env=pure false:=by rfl):jV X Y (.Expr a pos) (JK fa):= .mk λρ=>
 PS.imp (JB (ha ρ) hs) λD σ H ⟨B,I,q⟩=>jy I q λt v H1 _ s1 r1 I1 q1=>q1 _ _ _ (zr.refl _) I1
def Uc (i:Nat)(fa:En->R T):En->RS:=λρ=>match ρ[i]? with
 | some (.ow ts)=>(fa ρ).s λt=>if ts.length < bnd then .nx (ρ.set i (.ow (ts++[t]))) else .bad
 | _=> .bad
def vd (i:Nat)(fa:En->R T):En->RS:=λρ=>match ρ[i]? with
 | some (.ow ts)=>(fa ρ).s λt=>match t with
  | .lst us=>if ts.length+us.length<=bnd then .nx (ρ.set i (.ow (ts++us))) else .bad
  | _=> .bad
 | _=> .bad
theorem VR (h:n < bnd):n < sizeLine:=by exact h
theorem z28 (hv:PE X (.Name x px) (wg i))(ha:Snd X Y a fa)(hb:attributeBase (.Name x px) "append" X.env (eval (.Name x px) X.env)=eval (.Name x px) X.env:=by rfl)(hs:St1 X a:=by exact st1 rfl)
  (hz:(pa.endLine == p.line)=true:=by rfl) (hw:swapsWith (.Call (.Attribute (.Name x px) "append" pa) [a] [] p) none pos.line X.env=pure false:=by rfl):jV X Y (.Expr (.Call (.Attribute (.Name x px) "append" pa) [a] [] p) pos) (Uc i fa):= .mk λρ=>by
 have e1:(((((backTo p (starEach [a] X.env)).all λx=> !x.fst) && (backToKw p (keywordEach [] X.env)).all λx=>x.fst.isSome) && decide (([a].length+([]:List Keyword).length+if ([]:List Keyword).isEmpty=true then 0 else 1) < 30))=true):=by rw[hs];rfl
 refine PS.imp (JB (Yi ci eF eG JF hv (zz (ha ρ) zQ hs) hb e1 hz hs rfl) hw) λD σ H ⟨B,I,q⟩=> ?_;unfold Uc at q;split at q
 ·rename_i ts e;obtain⟨l,xs,e1,b0,h0,hh,rr,d⟩:=I.ow i ts e;refine⟨.ref l,e1,.inl ⟨rfl,_,SqL.of hh⟩, ?_⟩;refine jy I q λt v H1 _ s1 r1 I1 q1=> ?_;split at q1
  ·rename_i hb;refine⟨l,xs,v,rfl,rfl,s1 _ _ hh,by rw[rr.length];exact VR hb, ?_⟩
   exact q1 _ _ _ (zr.refl _) (I1.chg i e e1 ((rr.mono (zO.ge I.sB s1)).append (.cons r1 .nil)))
  ·exact q1.elim
 ·exact q.elim
theorem z29 (hv:PE X (.Name x px) (wg i))(ha:Snd X Y a fa)(hb:attributeBase (.Name x px) "extend" X.env (eval (.Name x px) X.env)=eval (.Name x px) X.env:=by rfl)(hs:St1 X a:=by exact st1 rfl)
  (hz:(pa.endLine == p.line)=true:=by rfl) (hw:swapsWith (.Call (.Attribute (.Name x px) "extend" pa) [a] [] p) none pos.line X.env=pure false:=by rfl):jV X Y (.Expr (.Call (.Attribute (.Name x px) "extend" pa) [a] [] p) pos) (vd i fa):= .mk λρ=>by
 have e1:(((((backTo p (starEach [a] X.env)).all λx=> !x.fst) && (backToKw p (keywordEach [] X.env)).all λx=>x.fst.isSome) && decide (([a].length+([]:List Keyword).length+if ([]:List Keyword).isEmpty=true then 0 else 1) < 30))=true):=by rw[hs];rfl
 refine PS.imp (JB (Yi ci PySem.F.slot_list_extend PySem.F.type_list_extend Yj hv (zz (ha ρ) zQ hs) hb e1 hz hs rfl) hw) λD σ H ⟨B,I,q⟩=> ?_;unfold vd at q;split at q
 ·rename_i ts e;obtain⟨l,xs,e1,b0,h0,hh,rr,d⟩:=I.ow i ts e;refine⟨.ref l,e1,.inl ⟨rfl,_,SqL.of hh⟩, ?_⟩;refine jy I q λt v H1 _ s1 r1 I1 q1=> ?_;cases r1 with
  | @lst b zs us hb r=>
   have q1:PoS Y _ (if ts.length+us.length<=bnd then .nx _ else .bad) D:=q1
   split at q1
   ·rename_i hl;refine⟨l,b,xs,zs,rfl,rfl,s1 _ _ hh,I1.sB _ _ hb,by rw[rr.length,r.length];exact Zp hl, ?_⟩
    exact q1 _ _ _ (zr.refl _) (I1.chg i e e1 ((rr.mono (zO.ge I.sB s1)).append r))
   ·exact q1.elim
  | _=>exact q1.elim
 ·exact q.elim
end
def spP (cl:Nat->Value)(n:Nat)(g:List T->R T):Sp:=λvs H Q E=>∃B ts,ts.length=n/\zr B H/\zF B vs ts/\Po ⟨B,H,E,cl,[]⟩ rC B H (g ts) Q
theorem spP.len (vs:List V)(H:Hp)(Q:VK)(E:XK)(h:spP cl n g vs H Q E):vs.length=n:=by
 obtain⟨B,ts,hl,_,r,_⟩:=h;rw[r.length,hl]
def za (n:Nat)(g:List T->R T)(ga:En->R (List T)):En->R T:=λρ=>(ga ρ).bind λts=>if ts.length=n then g ts else .bad
section
theorem gm (F:jq X.prog X.w X.K X.mg X.base CX k f fd ps (spP Y.cl n g))(hr:ZP k X.A)(gl:Gl X x)(mg:X.mg x=some (.ref f))
  (kp:bC X.K (.ref f)=true) (bd:L2.Binds X.K fd ps []) (hx:Zo CX X Y.E) (ha:uq X Y (a :: es) ga) (hd:(x == ("__debug__":Str))=false:=by decide)
  (hs:starEach (a :: es) X.env=(false,eval a X.env) :: starEach es X.env:=by exact zR rfl) (hz:((backTo pos (starEach es X.env)).any λx=>x.fst)=false:=by exact Zm rfl):Snd X Y (.Call (.Name x p) (a :: es) [] pos) (za n g ga):= .mk λρ=>
 PE.imp (Ye F hr gl mg kp bd .nil hx (ha ρ) hd hs hz) λσ H Q ⟨B,I,q⟩=>step I q λts vs H1 _ s1 r1 I1 q1=>by
  split at q1
  ·rename_i hn;rw[aW];refine⟨_,ts,hn,I1.sB,r1, ?_⟩;revert q1;cases g ts with
   | bad=>exact λq1=>q1
   | ex c=>exact λq1 d H' s sB=>q1 d H' (I1.sH.trans s) sB
   | ok t=>exact λq1=>q1
  ·exact q1.elim
end
noncomputable def zy:RS->R T
 | .rt t=> .ok t
 | .rf ts=> .ok (.lst ts)
 | .nx _=> .ok .non
 | .ex c=> .ex c
 | _=> .bad
def en0 (n:Nat)(ts:List T):En:=ts.map Sl.vl++ah (n - ts.length) Sl.un
theorem zF.vl {H:Hp}:∀{vs:List V} {ts:List T} {i:Nat} {t:T} {n m:Nat},zF H vs ts->(ts.map Sl.vl++ah n Sl.un)[i]? =some (Sl.vl t)->∃v:V,(vs.map some++ah m none)[i]? =some (some v)/\Rep H v t
 | _,_,i,t,n,m,.nil,h=>by
  simp only[cy,bX]at h;rw[aO]at h;split at h
  ·cases h
  ·cases h
 | _,_,0,t,n,m,.cons r _,h=>by
  simp at h;subst h;exact⟨_,rfl,r⟩
 | _,_,i+1,t,n,m,.cons _ q,h=>by
  obtain⟨v,h1,h2⟩:=zF.vl q (by simpa using h)
  exact⟨v,by simpa using h1,h2⟩
theorem VS {n:Nat}:∀{ts:List T} {i:Nat} {us:List T},(ts.map Sl.vl++ah n Sl.un)[i]? =some (Sl.ow us)->False
 | [],i,us,h=>by
  simp only[cy,bX]at h;rw[aO]at h;split at h
  ·cases h
  ·cases h
 | t :: ts,0,us,h=>by simp at h
 | t :: ts,i+1,us,h=>VS (by simpa using h)
theorem VT {n:Nat}:∀{ts:List T} {i:Nat} {c:Nat},(ts.map Sl.vl++ah n Sl.un)[i]? =some (Sl.xc c)->False
 | [],i,us,h=>by
  simp only[cy,bX]at h;rw[aO]at h;split at h
  ·cases h
  ·cases h
 | t :: ts,0,us,h=>by simp at h
 | t :: ts,i+1,us,h=>VT (by simpa using h)
theorem uE {n:Nat}{x:Sl}(h1:∀t,x ≠ .vl t)(h2:x ≠ .un):∀{ts:List T} {i:Nat},(ts.map Sl.vl++ah n Sl.un)[i]? =some x->False
 | [],i,h=>by
  simp only[cy,bX]at h;rw[aO]at h;split at h
  ·exact h2 (aB h).symm
  ·cases h
 | t :: ts,0,h=>h1 t (aB (by simpa using h)).symm
 | t :: ts,i+1,h=>uE h1 h2 (by simpa using h)
theorem SI.start {Y:Fx}{N:List Str}{vs:List V}{ts:List T}(s:zr Y.B0 Y.H0)(r:zF Y.B0 vs ts):SI Y Y.B0 (en0 N.length ts) (L2.start N vs) Y.H0 where
 s0:=s
 sH:=zr.refl _
 sB:=s
 old:=λ_ _ _=>rfl
 len:=by unfold en0 L2.start;simp[r.length]
 vl:=λi t h=>r.vl h
 ow:=λi ts h=>(VS h).elim
 xc:=λi c h=>(VT h).elim
 st:=StI.no λi s hs h=>uE (λt z=>by rw[z]at hs;cases hs) (λz=>by rw[z]at hs;cases hs) h
section
variable {P:Program}{w:World}{K:aa}{mg:Str->Option Value}{base:Heap}
theorem z2a {cl:Nat->Value}{x qual:Str}{st:Stmt}{f:Addr}{fd:FuncData}{N ps:List Str}{k n:Nat}{fb:En->RS}{g:List T->R T}(F:Fun K x qual st f fd)(S:ZY N ps (zu st))(hn:n=ps.length)
  (hb:∀(cdv:Value) (A:Around) (outer:List Env) (s:Shared) (H:Hp) (E:XK) (Y:Fx),Y.cl=cl->ZP k (A.deeper (envOfC qual (zu st) s.heap.objs.size f cdv))->
   wx (Wv CX0 P w K mg base N qual (zu st) f cdv A outer s H E).nox Y (zS st) fb)
  (hg:∀ts,ts.length=n->g ts=zy (fb (en0 N.length ts))):jq P w K mg base CX0 (k+1) f fd ps (spP cl n g):=by
 subst hn;refine F.ok S spP.len λcdv A outer s H vs Q E hr ⟨B,ts,hl,sB,r,q⟩=> ?_;refine⟨_,hb cdv A _ s H E ⟨B,H,E,cl,[]⟩ rfl hr _,B,SI.start sB r, ?_⟩;rw[hg ts hl]at q;revert q;cases fb _ with
 | rt t=>exact λq v H' s r=>q v H' s r
 | rf t=>exact λq a xs H' B' s0 n e r _ l=>q _ H' s0 (.lst (by rw[Z6 n];exact e) (r.mono l))
 | nx ρ=>exact λq σ' H' B' _ I=>q _ H' I.sH .non
 | ex c=>exact λq=>q
 | bk ρ=>exact λq=>q.elim
 | ct ρ=>exact λq=>q.elim
 | bad=>exact λq=>q
end
abbrev rI:Hp->Hp->It->List T->Prop:=λB1 _ J ts=>∀B2 H2,zr B1 B2->zr B2 H2->(∀i,i < ts.length->J.go i H2)/\(∀(i:Nat) t x H3,ts[i]? =some t->J.yld i H2 x H3->zr H2 H3/\Rep (zO B2 H2 H3) x t)/\(∀i,ts.length<=i->J.stop i H2)
structure Wm (X:Cx) (Y:Fx) (tg iter:Expr) (f:En->R (List T)):Prop where
 mk ::
 go:∀ρ,PI X tg iter (tS Y rI f ρ)
instance {X:Cx}{Y:Fx}{tg iter:Expr}{f:En->R (List T)}:CoeFun (Wm X Y tg iter f) λ_=>∀ρ,PI X tg iter (tS Y rI f ρ):=⟨Wm.go⟩
section
theorem PI.imp (h:PI X tg e t)(i:∀σ H Q,t' σ H Q->t σ H Q):PI X tg e t' :=λpins s σ H Q I q=>h _ s σ H Q I (i σ H Q q)
theorem gp {K:aa}{B1 H1:Hp}{a:Addr}{xs:List V}{ts:List T}(h:B1 a=some (.tup xs))(r:zF B1 xs ts):rI B1 H1 (Itt K a) ts:=λB2 H2 s1 s2=>by
 have h2:=s2 _ _ (s1 _ _ h);refine⟨λi hi=> ?_,λi t x H3 e y=> ?_,λi hi=>⟨xs,SqT.of h2,by rw[r.length];exact hi⟩⟩
 ·obtain⟨v,e,_⟩:=r.get (ae hi);exact⟨xs,v,SqT.of h2,e⟩
 ·obtain⟨rfl,y⟩:=y;obtain⟨v,e1,r1⟩:=r.get e;have:=y xs (SqT.of h2);rw[e1]at this;cases this;refine⟨zr.refl _, ?_⟩;rw[zO.self B2 _ s2];exact r1.mono s1
theorem gq {K:aa}{B1 H1:Hp}{a:Addr}{xs:List V}{ts:List T}(h:B1 a=some (.lst xs))(r:zF B1 xs ts):rI B1 H1 (Itl K a) ts:=λB2 H2 s1 s2=>by
 have h2:=s2 _ _ (s1 _ _ h);refine⟨λi hi=> ?_,λi t x H3 e y=> ?_,λi hi=>⟨xs,SqL.of h2,by rw[r.length];exact hi⟩⟩
 ·obtain⟨v,e,_⟩:=r.get (ae hi);exact⟨xs,v,SqL.of h2,e⟩
 ·obtain⟨rfl,y⟩:=y;obtain⟨v,e1,r1⟩:=r.get e;have:=y xs (SqL.of h2);rw[e1]at this;cases this;refine⟨zr.refl _, ?_⟩;rw[zO.self B2 _ s2];exact r1.mono s1
noncomputable def rng (lo:Int)(n:Nat):List T:=(a_ n).map λ(i:Nat)=>T.int (lo+(i:Int))
theorem VU {B1 H1:Hp}{lo:Int}{n:Nat}:rI B1 H1 (Itr lo n) (rng lo n):=λB2 H2 s1 s2=>by
 have hl:(rng lo n).length=n:=by unfold rng;simp
 refine⟨λi hi=>by rw[hl]at hi;exact hi,λi t x H3 e y=> ?_,λi hi=>by rw[hl]at hi;exact hi⟩
 obtain⟨rfl,rfl⟩:=y;refine⟨zr.refl _, ?_⟩;unfold rng at e;rw[ar]at e
 by_cases hi:i < n
 ·rw[cS hi]at e;cases e;exact .int _
 ·rw[aU (by simp;omega)]at e;cases e
def Zv (fa:En->R T):En->R (List T):=λρ=>(fa ρ).bind λt=>match t with
 | .int j=>if -1000000 < j/\j < 1000000 then .ok (rng 0 j.toNat) else .bad
 | _=> .bad
def Jl (fa fb:En->R T):En->R (List T):=λρ=>(fa ρ).bind λt=>(fb ρ).bind λt' =>match t,t' with
 | .int i,.int j=>if -1000000 < i/\i < 1000000/\ -1000000 < j/\j < 1000000 then .ok (rng i (j - i).toNat) else .bad
 | _,_=> .bad
theorem gr (gl:Gl X "range")(mg:X.mg "range"=none)(ha:Snd X Y a fa)(hs:St1 X a:=by exact st1 rfl):Wm X Y tg (.Call (.Name "range" p) [a] [] pos) (Zv fa):= .mk λρ=>PI.imp (Y1 gl mg (zz (ha ρ) zQ hs) hs) λσ H R ⟨B,I,q⟩=>step I q λt v H1 _ s1 r1 I1 q1=>by
 cases r1 with
 | int j=>
  have q1:Po Y rI _ H1 (if -1000000 < j/\j < 1000000 then .ok _ else .bad) R:=q1
  split at q1
  ·exact⟨j,rfl,by omega,by omega,ZH I1 q1 VU⟩
  ·exact q1.elim
 | _=>exact q1.elim
theorem gu (gl:Gl X "range")(mg:X.mg "range"=none)(ha:Snd X Y a fa)(hb:Snd X Y b fb)(hs:starEach [a,b] X.env=[(false,eval a X.env),(false,eval b X.env)]:=by exact st2 rfl rfl)(hs2:St1 X b:=by exact st1 rfl):Wm X Y tg (.Call (.Name "range" p) [a,b] [] pos) (Jl fa fb):= .mk λρ=>
 PI.imp (Y2 gl mg (zz (ha ρ) (zz (hb ρ) zQ hs2) (by rw[hs,hs2])) hs hs2) λσ H R ⟨B,I,q⟩=>step I q λt v H1 _ s1 r1 I1 q1=>step I1 q1 λt' v' H2 _ s2 r2 I2 q2=>by
  cases r1 with
  | int i=>
   cases r2 with
   | int j=>
    have q2:Po Y rI _ H2 (if -1000000 < i/\i < 1000000/\ -1000000 < j/\j < 1000000 then .ok _ else .bad) R:=q2
    split at q2
    ·exact⟨i,j,rfl,⟨by omega,by omega,by omega,by omega⟩,ZH I2 q2 VU⟩
    ·exact q2.elim
   | _=>exact q2.elim
  | _=>cases r2 <;> exact q2.elim
def z0G (X:Cx)(Y:Fx)(tg:Expr)(g:T->En->R En):Prop:=∃t:TG,PG X tg t/\∀B ρ σ H v x Q,SI Y B ρ σ H->Rep B v x->(match g x ρ with | .ok ρ' =>∀σ',SI Y B ρ' σ' H->Q σ' H | _=>False)->t v σ H Q
def zI (i:Nat):T->En->R En:=λt ρ=> .ok (ρ.set i (.vl t))
theorem VV (hN:X.N.Nodup)(hi:X.N[i]? =some x)(hx:L2.Loc X.env.scope x)(hf:X.fn x=true\/X.env.scope.names.lookup x=some .local:=by first | exact .inl rfl | exact .inr rfl | assumption):z0G X Y (.Name x pos) (zI i):=
 ⟨wk i,ju hN hi hx hf,λB ρ σ H v x Q I r q=>q _ (I.setV i r)⟩
def Zq (i j:Nat):T->En->R En:=λt ρ=>match t with
 | .tup [x,y]=> .ok ((ρ.set i (.vl x)).set j (.vl y))
 | _=> .bad
theorem gv (hc:X.calm=true)(hN:X.N.Nodup)(hi:X.N[i]? =some x)(hj:X.N[j]? =some y)(hx:L2.Loc X.env.scope x)(hy:L2.Loc X.env.scope y)
  (hf:X.fn x=true\/X.env.scope.names.lookup x=some .local:=by first | exact .inl rfl | exact .inr rfl | assumption) (hf' :X.fn y=true\/X.env.scope.names.lookup y=some .local:=by first | exact .inl rfl | exact .inr rfl | assumption):
  z0G X Y (.Tuple [.Name x pos,.Name y p'] k p2) (Zq i j):=by
 refine⟨z0B X.K 2 _,VJ hc (Jo (ju hN hi hx hf) (Jo (ju hN hj hy hf') yZ)),λB ρ σ H v t Q I r q=> ?_⟩;cases r with
 | @tup l xs ts h r=>
  cases r with
  | nil=>exact q.elim
  | cons r1 rr=>
   cases rr with
   | nil=>exact q.elim
   | cons r2 rr=>
    cases rr with
    | cons _ _=>exact q.elim
    | nil=>
     exact⟨l,_,rfl,SqT.of (I.sB _ _ h),rfl,_,_,rfl,_,_,rfl,rfl,q _ ((I.setV i r1).setV j r2)⟩
 | _=>exact q.elim
def ZA (g:T->En->R En)(fb:En->RS):List T->En->RS
 | [],ρ=> .nx ρ
 | t :: ts,ρ=>match g t ρ with
  | .ok ρ1=>match fb ρ1 with
   | .nx ρ2=>ZA g fb ts ρ2
   | .ct ρ2=>ZA g fb ts ρ2
   | .bk ρ2=> .nx ρ2
   | r=>r
  | .ex c=> .bad
  | .bad=> .bad
def j0 (fi:En->R (List T))(g:T->En->R En)(fb:En->RS):En->RS:=λρ=>(fi ρ).s λts=>ZA g fb ts ρ
theorem gw {g:T->En->R En}(hp:PassesOwn (model X.prog X.w) X.A X.env X.xe)(hc:X.calm=true)(hi:Wm X Y tg iter fi)(hg:z0G X Y tg g)(hb:wx X Y sts fb)
  (hs:∀x,foldedSetIterable iter X.env x=pure x:=by intro _;rfl):jV X Y (.For tg iter sts [] pos) (j0 fi g fb):= .mk λρ=>by
 obtain⟨tG,hG,hG'⟩:=hg;refine PS.imp (Kn (tb:=λD σ H=>∃ρ',tSS Y fb ρ' D σ H) hp hc (hi ρ) hG (λpins s σ H D I ⟨ρ',q⟩=>hb ρ' _ s σ H D I q) hs) λD σ H ⟨B,I,q⟩=> ?_;refine jy I q λts J H1 _ s1 r1 I1 q1=> ?_;refine⟨λi m σ' H' =>m=ts.length - i/\i<=ts.length/\∃ρ' B',SI Y B' ρ' σ' H' /\zr _ B' /\PoS Y B' (ZA g fb (ts.drop i) ρ') D,⟨ts.length,by simp,aQ _,ρ,_,I1,zr.refl _,q1⟩, ?_⟩
 rintro i m σ' H' ⟨rfl,hi,ρ',B',I',sB',q'⟩
 obtain⟨hgo,hyld,hstop⟩:=r1 B' H' sB' I'.sB
 by_cases hlt:i < ts.length
 ·refine .inr ⟨hgo i hlt,λσ2 H2=>∃ρ2 B2,SI Y B2 ρ2 σ2 H2/\zr _ B2/\PoS Y B2 _ D,λσ2 H2 ⟨ρ2,B2,I2,s2,q2⟩=>⟨ts.length - (i+1),by omega,rfl,hlt,ρ2,B2,I2,s2,q2⟩,λx H2 y=> ?_⟩
  obtain⟨s2,r2⟩:=hyld i _ x H2 (ae hlt) y;rw[cQ hlt]at q';unfold ZA at q';refine hG' _ ρ' σ' H2 x _ _ (I'.grow s2) r2 ?_;cases eg:g _ ρ' with
  | bad=>rw[eg]at q';exact q'
  | ex c=>rw[eg]at q';exact q'
  | ok ρ1=>
   rw[eg]at q';intro σ1 J1;refine⟨ρ1,_,J1, ?_⟩;have q2:=PoS.up (zO.ge I'.sB s2) q';dsimp only at q2;have s3:=sB'.trans (zO.ge I'.sB s2);revert q2;cases fb ρ1 with
   | nx ρ2=>exact λq2 σ3 H3 B3 s4 I3=>⟨ρ2,B3,I3,s3.trans s4,PoS.up s4 q2⟩
   | ct ρ2=>exact λq2 σ3 H3 B3 s4 I3=>⟨ρ2,B3,I3,s3.trans s4,PoS.up s4 q2⟩
   | bk ρ2=>exact λq2=>q2
   | rt t=>exact λq2=>q2
   | rf t=>exact λq2=>q2
   | ex c=>exact λq2=>q2
   | bad=>exact λq2=>q2
 ·have e:i=ts.length:=by omega
  subst e;rw[eT]at q';exact .inl ⟨hstop _ (aj _),q' σ' H' B' (zr.refl _) I'⟩
def ZI (g:En->R Bool)(fb:En->RS):Nat->En->RS
 | 0,_=> .bad
 | n+1,ρ=>(g ρ).s λk=>if k=true then match fb ρ with
   | .nx ρ2=>ZI g fb n ρ2
   | .ct ρ2=>ZI g fb n ρ2
   | .bk ρ2=> .nx ρ2
   | r=>r
  else .nx ρ
theorem YD (hp:PassesOwn (model X.prog X.w) X.A X.env X.xe)(hc:Wj X Y c ga)(hb:wx X Y sts fb):jV X Y (.While c sts [] pos) (ZI ga fb n):= .mk λρ=>by
 refine PS.imp (vp (tc:=λσ H Q=>∃ρ',tS Y rE ga ρ' σ H Q) (tb:=λD σ H=>∃ρ',tSS Y fb ρ' D σ H) hp (λpins s σ H D I ⟨ρ',q⟩=>hc ρ' _ s σ H D I q) (λpins s σ H D I ⟨ρ',q⟩=>hb ρ' _ s σ H D I q)) λD σ H ⟨B,I,q⟩=> ?_;refine⟨λm σ' H' =>∃ρ' B',SI Y B' ρ' σ' H' /\PoS Y B' (ZI ga fb m ρ') D,⟨n,ρ,B,I,q⟩, ?_⟩
 rintro m σ' H' ⟨ρ',B',I',q'⟩
 cases m with
 | zero=>exact q'.elim
 | succ m=>
  unfold ZI at q';refine⟨ρ',jy I' q' λt v H1 _ s1 r1 I1 q1=> ?_⟩;have r1' :=r1;subst r1';cases v with
  | false=>exact q1 _ _ _ (zr.refl _) I1
  | true=>
   refine⟨λσ2 H2=>∃ρ2 B2,SI Y B2 ρ2 σ2 H2/\PoS Y B2 _ D,λσ2 H2 h=>⟨m,bT m,h⟩,ρ',_,I1, ?_⟩;revert q1;cases fb ρ' with
   | nx ρ2=>exact λq2 σ3 H3 B3 s4 I3=>⟨ρ2,B3,I3,PoS.up s4 q2⟩
   | ct ρ2=>exact λq2 σ3 H3 B3 s4 I3=>⟨ρ2,B3,I3,PoS.up s4 q2⟩
   | bk ρ2=>exact λq2=>q2
   | rt t=>exact λq2=>q2
   | rf t=>exact λq2=>q2
   | ex c=>exact λq2=>q2
   | bad=>exact λq2=>q2
end
theorem JL:∀(ns:List (Str×NameKind)) (acc:List (Str×Addr)),(∀x∈ns,x.2=NameKind.free->∃c,env.cells.lookup x.1=some c)->(∀x c,acc.lookup x=some c->env.cells.lookup x=some c)->
  ∃cl,(forIn ns acc (λ(x:Str×NameKind) (r:List (Str×Addr))=>if (x.2 == NameKind.free)=true then (do let c ← cellOf env x.1;pure (ForInStep.yield ((x.1,c) :: r))) else pure (ForInStep.yield r)):Sem _)=pure cl/\
   (∀x c,cl.lookup x=some c->env.cells.lookup x=some c)/\(∀x c,acc.lookup x=some c->∃c',cl.lookup x=some c')/\(∀x∈ns,x.2=NameKind.free->∃c,cl.lookup x.1=some c)
 | [],acc,_,h=>⟨acc,rfl,h,λx c e=>⟨c,e⟩,λx hx=>by simp at hx⟩
 | (n,k) :: ns,acc,hf,h=>by
  by_cases hk:k=NameKind.free
  ·obtain⟨c,hc⟩:=hf _ ab hk;have h' :∀x d,((n,c) :: acc).lookup x=some d->env.cells.lookup x=some d:=λx d e=>by
    by_cases hx:x=n
    ·subst hx;have e' :=by simpa[aw] using e
     cases e';exact hc
    ·have e' :=by
      rw[aw,(beq_eq_false_iff_ne.mpr hx)]at e;exact e
     exact h x d e'
   obtain⟨cl,e,h1,h2,h3⟩:=JL ns _ (λx hx=>hf x (a8 _ hx)) h';refine⟨cl, ?_,h1,λx d ed=> ?_,λx hx hxf=> ?_⟩
   ·rw[iK];subst hk;have q:cellOf env n=pure c:=by unfold cellOf;rw[hc]
    simp only[beq_self_eq_true,if_true,q];exact e
   ·by_cases hx:x=n
    ·subst hx;exact h2 x c (by simp[aw])
    ·exact h2 x d (by rw[aw,(beq_eq_false_iff_ne.mpr hx)];exact ed)
   ·rcases ak.mp hx with rfl | hx
    ·exact h2 n c (by simp[aw])
    ·exact h3 x hx hxf
  ·obtain⟨cl,e,h1,h2,h3⟩:=JL ns acc (λx hx=>hf x (a8 _ hx)) h;refine⟨cl, ?_,h1,h2,λx hx hxf=> ?_⟩
   ·rw[iK];have q:(k == NameKind.free)=false:=by simpa using hk
    simp only[q,aN,if_false];exact e
   ·rcases ak.mp hx with rfl | hx
    ·exact absurd hxf hk
    ·exact h3 x hx hxf
theorem YE (hf:∀x∈scope.names,x.2=NameKind.free->∃c,env.cells.lookup x.1=some c):
  ∃cl,closureFor scope env=pure cl/\(∀x c,cl.lookup x=some c->env.cells.lookup x=some c)/\(∀x∈scope.names,x.2=NameKind.free->∃c,cl.lookup x.1=some c):=by
 obtain⟨cl,e,h1,_,h3⟩:=JL _ [] hf (λx c e=>by simp at e)
 refine⟨cl, ?_,h1,h3⟩;unfold closureFor;exact(by simpa using e)
def cxC (X:Cx)(scope:Scope)(N' :List Str)(cl:List (Str×Addr))(C:Addr)(s3:Shared)(H3:Hp)(fp:List Addr)(pins:List (Addr×Obj)):Cx:=
 { X with N:=N',s₀:=s3,H₀:=H3,env:=compEnvC scope cl C X.env,outer:=X.stack,stack:=X.stack,ex:=fp,fn:=λ_=>false,pn:=X.pn++pins,xe:=λ_ _=>False }
structure CSc (X:Cx) (scope:Scope):Prop where
 kind:scope.kind= .function
 nocell:∀x∈scope.names,x.2 ≠ .cell
 loc:∀x∈scope.names,x.2= .local->scope.names.lookup x.1=some .local
 fre:∀x∈scope.names,x.2= .free->X.env.kindOf x.1=some .cell\/X.env.kindOf x.1=some .free
theorem jL (h:(relabel scope env).names.lookup x=some k)(hk:k= .cell\/k= .free)(hn:∀x∈scope.names,x.2 ≠ NameKind.cell):∃y∈scope.names,y.1=x/\y.2= .free:=by
 have go:∀ns:List (Str×NameKind),(∀x∈ns,x.2 ≠ NameKind.cell)->(ns.map λ(n,k)=>if (k == NameKind.free && env.scope.kind == .function && env.kindOf n == some .cell) then (n,NameKind.cell) else (n,k)).lookup x=some k->∃y∈ns,y.1=x/\y.2= .free:=by
  intro ns
  induction ns with
  | nil=>intro _ h;simp at h
  | cons y ns ih=>
   intro hn h;obtain⟨n,k'⟩:=y
   by_cases hx:x=n
   ·subst hx;refine⟨(x,k'),ab,rfl, ?_⟩;rw[aF]at h
    by_cases hc:(k' == NameKind.free && env.scope.kind == .function && env.kindOf x == some .cell)=true
    ·rw[ag,ag]at hc;exact eq_of_beq hc.1.1
    ·simp only[if_neg hc,aw,beq_self_eq_true]at h;cases h;rcases hk with rfl | rfl
     ·exact absurd rfl (hn _ ab)
     ·rfl
   ·obtain⟨z,hz,h1,h2⟩:=ih (λz hz=>hn z (a8 _ hz)) (by
     rw[aF]at h
     by_cases hc:(k' == NameKind.free && env.scope.kind == .function && env.kindOf n == some .cell)=true
     ·simp only[if_pos hc,aw,(beq_eq_false_iff_ne.mpr hx)]at h;exact h
     ·simp only[if_neg hc,aw,(beq_eq_false_iff_ne.mpr hx)]at h;exact h)
    exact⟨z,a8 _ hz,h1,h2⟩
 exact go _ hn h
section
theorem YF (I:L2.Inv X pins σ H s)(S:CSc X scope)(hc:X.calm=true)
  (hcl:∀x c,cl.lookup x=some c->X.env.cells.lookup x=some c) (hcf:∀x∈scope.names,x.2=NameKind.free->∃c,cl.lookup x.1=some c)
  (hfp:∀b∈fp,Jp X pins H b) (hfo:∀b∈fp,∃o,s.heap.get? b=some o)
  (hns:h'.Ns s.heap.objs.size (λ_=>none)) (hk:∀b o,s.heap.get? b=some o->h'.get? b=some o)
  (hl:σ'.length=N'.length) (hσ:∀(i:Nat) (x:Str) (v:V),N'[i]? =some x->σ'[i]? =some (some v)->∃j:Nat,X.N[j]? =some x/\σ[j]? =some (some v)/\Vis X.env.scope x/\(scope.names.lookup x=some .free)/\(X.env.kindOf x=some .cell\/X.env.kindOf x=some .free)):
  L2.Inv (cxC X scope N' cl s.heap.objs.size s H fp pins) [] σ' H { s with heap:=h',toks:=tk }:=by
 have stk:=I.stkSub;have hlt:=λb hb=>let ⟨o,e⟩:=hfo b hb;ao e;have fresh:=I.hok.fresh (aj _);refine⟨⟨I.ok.mod,S.kind,I.ok.glob,I.ok.blt,aj _,λx y c h1 h2=>I.ok.inj x y c (hcl _ _ h1) (hcl _ _ h2),λx hx=> ?_,λx c h _=>(aG h).elim,λ_=>I.ok.hd hc,I.ok.frames,.inl rfl,λb hb=> ?_,I.bs,
   aA I.ok.bsz I.sz,λb o e hb=> ?_,λb hb hb' => ?_,I.stack,I.stkFree⟩,rfl,I.bare,Un.kept hk,⟨_,hns,λi x v h1 h2 h3=> ?_⟩,λx c e=> ?_,fresh,λx c e=>I.freeC x c (hcl _ _ e),λp hp=> ?_,I.hok.kept hk,hl⟩
 ·have hx' :=hx;obtain⟨y,hy,rfl,hyf⟩:∃y∈scope.names,y.1=x/\y.2= .free:=by
   rcases hx' with h | h
   ·exact jL h (.inl rfl) S.nocell
   ·exact jL h (.inr rfl) S.nocell
  exact hcf y hy hyf
 ·refine⟨aD (hlt b hb),λx c e=>(hfp b hb).2.2.2.2.1 x c (hcl _ _ e)⟩
 ·rcases(hfp b hb).2.2.2.1 with h | h
  ·exact I.ok.noex b o e h
  ·exact absurd (aL (ao e) (aA I.ok.bsz h)) (aX _)
 ·have q:=hfp b hb;rcases ak.mp (stk b hb') with z | z
  ·exact q.2.1 z
  ·exact q.2.2.1 z
 ·obtain⟨j,e1,e2,e3,e4,e5⟩:=hσ i x v h1 h2;obtain⟨m,hn,hloc⟩:=I.loc;obtain⟨u,ru,lk⟩:=hloc j x v e1 e2 e3;refine⟨u,ru,.inr ⟨?_, ?_⟩⟩
  ·rcases h3 with h | h | h
   ·exfalso;have:∀ns:List _,ns.lookup x=some .free->(ns.map λ(n,k)=>if (k == NameKind.free && X.env.scope.kind == .function && X.env.kindOf n == some .cell) then (n,NameKind.cell) else (n,k)).lookup x ≠ some .local:=by
     intro ns
     induction ns with
     | nil=>intro z;simp at z
     | cons y ns ih=>
      obtain⟨n,k⟩:=y;intro z w;rw[aF]at w
      by_cases hx:x=n
      ·subst hx;have hkf:=by simpa[aw] using z
       by_cases hcn:(k == NameKind.free && X.env.scope.kind == .function && X.env.kindOf x == some .cell)=true
       ·simp only[if_pos hcn,aw,beq_self_eq_true]at w;cases w
       ·simp only[if_neg hcn,aw,beq_self_eq_true]at w;rw[hkf]at w;cases w
      ·have z' :=by rw[aw,(beq_eq_false_iff_ne.mpr hx)]at z;exact z
       refine ih z' ?_
       by_cases hcn:(k == NameKind.free && X.env.scope.kind == .function && X.env.kindOf n == some .cell)=true
       ·simp only[if_pos hcn,aw,(beq_eq_false_iff_ne.mpr hx)]at w;exact w
       ·simp only[if_neg hcn,aw,(beq_eq_false_iff_ne.mpr hx)]at w;exact w
    exact this _ e4 h
   ·exact .inl h
   ·exact .inr h
  ·rcases lk with ⟨hk',_⟩ | ⟨_,c,hc',hcell⟩
   ·rcases e5 with z | z <;> (rw[z]at hk';cases hk')
   ·obtain⟨c',hc2⟩:=hcf _ (bz e4) rfl;have:=hcl x c' hc2;rw[hc']at this;cases this;obtain⟨o,eo,ed⟩:=hcell;exact⟨c,hc2,o,hk _ _ eo,ed⟩
 ·obtain⟨v,o,eo,ed⟩:=I.cell x c (hcl _ _ e);exact⟨v,o,hk _ _ eo,ed⟩
 ·have hp' :=by
   have:=hp;rwa[aW]at this
  obtain⟨e,n,ne,nf,dc⟩:=I.pin p hp';refine⟨hk _ _ e,n,aD (ao e),λhb=> ?_,dc⟩;rcases ak.mp (stk _ hb) with z | z
  ·exact ne z
  ·exact nf z
end
def PIf (X:Cx)(ifs:List Expr)(t:TT):Prop:=
 ∀(pins:List (Addr×Obj)) (s:Shared) (σ:Sg) (H:Hp) (Q:Bool->Hp->Prop),L2.Inv X pins σ H s->t σ H Q->
  wpAny (model X.prog X.w) X.A (forIn ifs true λc r=>if r=true then do let ok ← isTrue c X.env (eval c X.env);pure (ForInStep.yield ok) else pure (ForInStep.yield r)) (TP X pins σ Q) X.xe s
theorem Xl:PIf X [] (λ_ H Q=>Q true H):=λ_ _ σ H _ I h=>wpAny_tests_nil ⟨H,I,h⟩
theorem Xm (h:PT X c t):PIf X [c] t:=λpins s σ H Q I q=>wpAny_tests_one (h _ s σ H Q I q)
noncomputable abbrev XE (X:Cx)(xe:Value->Shared->Prop):Cx:={ X with xe:=xe }
theorem Ud (I:L2.Inv X pins σ H s):L2.Inv (XE X xe) pins σ H s:=
 ⟨⟨I.ok.mod,I.ok.kind,I.ok.glob,I.ok.blt,I.ok.above,I.ok.inj,I.ok.has,I.ok.cab,I.ok.hd,I.ok.frames,I.ok.stk,I.ok.exf,I.ok.bs,I.ok.bsz,I.ok.noex,I.ok.exfs,I.ok.funs,I.ok.frf⟩,I.os,I.bare,I.base,I.loc,I.cell,I.free,I.freeC,I.pin,I.hok,I.len⟩
theorem YG (I:L2.Inv (XE X xe) pins σ H s):L2.Inv X pins σ H s:=(Ud I:L2.Inv _ _ σ H s)
theorem z2b (hx:X.xe=λ_ _=>False)(h:PG X e t):PG (XE X xe) e t:=λpins s σ H v u Q I r q=>dq (h _ s σ H v u Q (YG I) r q) (λ_ s' ⟨σ',H',I',q'⟩=>⟨σ',H',Ud I',q'⟩) λe s' z=>by rw[hx]at z;exact z.elim
theorem gx (hx:X.xe=λ_ _=>False)(h:PIf X e t):PIf (XE X xe) e t:=λpins s σ H Q I q=>dq (h _ s σ H Q (YG I) q) (λ_ s' ⟨H',I',q'⟩=>⟨H',Ud I',q'⟩) λe s' z=>by rw[hx]at z;exact z.elim
theorem Ue {α:Type}{m:Sem α}{Q:α->Shared->Prop}(hE:∀e s',E' e s' ->E e s')(h:wpAny M A m Q E' s):wpAny M A m Q E s:=dq h (λ_ _ q=>q) hE
def yq (J:It)(D:Addr)(g:TG)(tt:TT)(te:TE)(fin:Sg->Hp->Prop)(W:Nat->Nat->List V->Sg->Hp->Prop):Prop:=
 ∀i m ys σ H,W i m ys σ H->H D=some (.lst ys)/\((J.stop i H/\fin σ H)\/(J.go i H/\∀x H2,J.yld i H x H2->g x σ H2 λσ3 H3=>tt σ3 H3 λk H4=>
  if k=true then te σ3 H4 λv H5=>H5 D=some (.lst ys)/\ys.length < sizeLine/\∃m',m' < m/\W (i+1) m' (ys++[v]) σ3 (upd H5 D (.lst (ys++[v]))) else ∃m',m' < m/\W (i+1) m' ys σ3 H4))
theorem WH {X:Cx}{R:Result->Shared->Prop}(hx:∀e s',X.xe e s' ->notedBy (model X.prog X.w) X.A X.env (λe s' =>R (.error e) s') e s')(hc:X.calm=true){tg iter elt:Expr}{ifs:List Expr}{scope:Scope}{pos:Pos}{J:It}{fp:List Addr}{it:Addr}{tn:Nat->Heap->Prop}(TJ:y9 X.prog X.w X.K tg J fp it tn)
  {g:TG} {tt:TT} {te:TE} (hg:PG X tg g) (ht:PIf X ifs tt) (he:PE X elt te) {D:Addr} {fin:Sg->Hp->Prop} (W:Nat->Nat->List V->Sg->Hp->Prop) (turn:yq J D g tt te fin W)
  (hR:∀s σ H,L2.Inv X [] σ H s->fin σ H->R (.ok .next) s) {m0:Nat} {σ0:Sg} {H0:Hp} {s0:Shared} (w0:W 0 m0 [] σ0 H0) (I0:L2.Inv X [] σ0 H0 s0) (t0:tn 0 s0.heap) (f0:∀b∈fp,Jp X [] H0 b):
  codeAny (model X.prog X.w) X.A (.compLoop (.ListComp elt [⟨tg,iter,ifs,0⟩] scope pos) 0 (.ref it) (.ref D) X.env) R s0:=by
 have stat:∀{H' :Hp},(∀b∈fp,H' b=none)->∀b∈fp,Jp X [] H' b:=λhn b hb=>⟨hn b hb,(f0 b hb).2⟩;refine codeAny_loop rfl (λn s' =>∃i ys σ' H',L2.Inv X [] σ' H' s' /\tn i s'.heap/\(∀b∈fp,H' b=none)/\W i n ys σ' H') (λn s3 h3=> ?_) m0 ⟨0,[],σ0,H0,I0,t0,λb hb=>(f0 b hb).1,w0⟩;obtain⟨i,ys,σ3,H3,I3,st3,fr3,w3⟩:=h3;show wpAny _ X.A ((compTurn _ 0 _ _ _).onRaise (λx=>do noteFrame x _;theTreesLotGoes x)) _ _ s3
 refine wpAny_noted ?_;obtain⟨hD,h⟩:=turn i n ys σ3 H3 w3;rcases h with ⟨stop,qn⟩ | ⟨go,next⟩
 ·refine a7 (wpAny_standAt (a7 (thn (TJ.done X rfl rfl rfl hc i [] s3 σ3 H3 _ I3 (stat fr3) st3 stop) λr s4 ⟨hr,I4⟩=> ?_)));subst hr;exact aq (hR s4 σ3 H3 I4 qn)
 ·refine a7 (wpAny_standAt (a7 (thn (TJ.item X rfl rfl rfl hc i [] s3 σ3 H3 _ I3 (stat fr3) st3 go) λr s4 ⟨u,hr,h4⟩=> ?_)));subst hr;refine a7 (thn h4 λ_ s5 ⟨x,H5,I5,r5,y5,st5,fr5⟩=> ?_);have I5' :=I5.pinned (stat fr5) (TJ.obj _ _ st5);refine a7 (Ue hx (thn (hg _ s5 σ3 H5 x u _ I5' r5 (next x H5 y5)) λ_ s6 ⟨σ6,H6,I6,q6⟩=> ?_));have again:∀{σ7:Sg} {H7:Hp} {s7:Shared} {ys' :List V},L2.Inv X _ σ7 H7 s7->(∃m',m' < n/\W (i+1) m' ys' σ7 H7)->∃m,m < n/\∃i ys σ' H',L2.Inv X [] σ' H' s7/\tn i _/\(∀b∈fp,H' b=none)/\W i m ys σ' H' :=λ{σ7 H7 s7 ys'} I7 ⟨m',hm,w7⟩=>by
   refine⟨m',hm,i+1,ys',σ7,H7,I7.unpinned,TJ.keep _ _ _ st5 λb hb o e=>(I7.pin _ (b7 _ (b7 _ (jk hb e)))).1,λb hb=> ?_,w7⟩;obtain⟨o,e,d⟩:=TJ.obj _ _ st5 b hb;exact(I7.pin _ (b7 _ (b7 _ (jk hb e)))).2.1
  refine a7 (Ue hx (thn (ht _ s6 σ6 H6 _ I6 q6) λk s7 ⟨H7,I7,q7⟩=> ?_));cases k with
  | false=>exact aq ⟨rfl,again I7 q7⟩
  | true=>
   refine a7 (a7 (Ue hx (thn (he _ s7 σ6 H7 _ I7 q7) λv s8 ⟨y,H8,I8,r8,hD8,hlen,q8⟩=> ?_)));refine a7 (Ue hx (thn (JF _ s8 σ6 H8 (.ref D) [y] _ [v] (λ_ H9=>∃m',m' < n/\W _ m' _ σ6 H9) I8 rfl (.cons r8 .nil) ⟨D,ys,y,rfl,rfl,hD8,hlen,q8⟩) λw s9 ⟨_,H9,I9,_,q9⟩=> ?_));exact aq (aq ⟨rfl,again I9 q9⟩)
def WI (k:Nat)(js:List Nat)(σ:Sg):Sg:=ah k none++js.map λj=>(σ[j]?).getD none
section
abbrev VW (X:Cx)(scope:Scope)(N' :List Str)(P:Cx->Prop):Prop:=∀cl C s3 H3 fp pins,P (cxC X scope N' cl C s3 H3 fp pins)
abbrev gy (X:Cx)(scope:Scope)(N' :List Str)(E:XK)(P:Cx->Prop):Prop:=∀cl C s3 H3 fp pins xe,Zo (CX1 X.prog X.w) (XE (cxC X scope N' cl C s3 H3 fp pins) xe) E->P (XE (cxC X scope N' cl C s3 H3 fp pins) xe)
structure gz (X:Cx) (scope:Scope) (N' :List Str) (k:Nat) (js:List Nat):Prop where
 len:N'.length=k+js.length
 cap:∀(i j:Nat),js[i]? =some j->∃x,N'[k+i]? =some x/\X.N[j]? =some x/\Vis X.env.scope x/\scope.names.lookup x=some .free/\(X.env.kindOf x=some .cell\/X.env.kindOf x=some .free)
theorem wV (hp:KG X E){js:List Nat}{use:Option (Value->Sem Unit)}(S:CSc X scope)(CP:gz X scope N' k js)(hc:X.calm=true)
  (hi:PI X tg iter wi) (hg:VW X scope N' λXC=>PG XC tg g) (ht:VW X scope N' λXC=>PIf XC ifs tt) (he:gy X scope N' E λXC=>PE XC elt te) {pins:List (Addr×Obj)} {σ:Sg} {H:Hp} {s:Shared} {Q:Value->Shared->Prop} {F:Addr->Hp->Prop} (I:L2.Inv X pins σ H s)
  (h:wi σ H λJ H1=>∀D,H1 D=none->∃W,(∃m,W 0 m [] (WI k js σ) (upd H1 D (.lst [])))/\yq J D g tt te (λ_ H' =>F D H') W)
  (hQ:∀D C H' s',L2.Inv X pins σ H' s' ->F D H' ->H' C=none->(X.s₀.heap.objs.size<=C)->C ≠ X.env.locals->(∀x c,X.env.cells.lookup x=some c->c ≠ C)->(∀p∈X.pn++pins,p.1 ≠ C)->(∃m,s'.heap.Ns C m)->compPost (model X.prog X.w) X.A X.xe use Q (.ref D) C (.ok .next) s')
  (hs:∀x,foldedSetIterable iter X.env x=pure x:=by intro _;rfl):
  wpAny (model X.prog X.w) X.A (comprehension (.ListComp elt [⟨tg,iter,ifs,0⟩] scope pos) scope X.env pos' (newList []) false (eval iter X.env) use) Q X.xe s:=by
 obtain⟨cl,ecl,hcl,hcf⟩:=YE (scope:=scope) (env:=X.env) λx hx hf=>I.ok.has x.1 (S.fre x hx hf);refine wpAny_comprehension_free rfl hs ecl S.kind S.loc ?_;refine thn (hi pins s σ H _ I h) λv s1 h1=>thn h1 λitv s2 h2=> ?_;obtain⟨it,fp,tn,J,H2,e,I2,TJ,st2,f2,q2⟩:=h2;subst e;refine aZ ?_;have hD:=I2.hok.fresh (aj _);have I3:L2.Inv X pins σ (upd H2 s2.heap.objs.size (.lst [])) { s2 with heap:=s2.heap.push { cls:= .type "list",data:= .seq _ } }:=
  I2.laid (t' :=s2.toks) (λb u e=>a9 _ e) (aj _) ⟨aQ _,[],_,.nil,af _ rfl⟩
 obtain⟨W,⟨m0,w0⟩,turn⟩:=q2 s2.heap.objs.size hD;have f3:∀b∈fp,Jp X pins (upd H2 s2.heap.objs.size (.lst [])) b:=λb hb=>by
  obtain⟨o,eo,_⟩:=TJ.obj _ _ st2 b hb;exact⟨by rw[zv (aD (ao eo))];exact(f2 b hb).1,(f2 b hb).2⟩
 have o3:∀b∈fp,∃o,(s2.heap.push { cls:= .type "list",data:= .seq ([]:List Value).toArray }).get? b=some o:=λb hb=>by
  obtain⟨o,eo,_⟩:=TJ.obj _ _ st2 b hb;exact⟨o,a9 _ eo⟩
 refine wpAny_newFunctionEnv S.nocell (by intro y hy;simp at hy) (λh4 hns4 hsb4=> ?_) S.kind
 generalize hG:s2.heap.push _=G3 at I3 o3 hns4 hsb4 ⊢;have s3e:∃s3:Shared,s3={ s2 with heap:=G3 }:=⟨_,rfl⟩;obtain⟨s3,es3⟩:=s3e;have hh3:s3.heap=s2.heap.push { cls:= .type "list",data:= .seq ([]:List Value).toArray }:=by rw[es3,hG]
 have hg3:G3=s3.heap:=by rw[es3]
 rw[← es3]at I3;rw[hg3]at hns4 hsb4 o3;have k4:=λb o e=>hsb4.extBut b o (aD (ao e)) (a9 _ e);have IC:=YF (N' :=N') (cl:=cl) (fp:=fp) (σ' :=WI k js σ) (tk:=s3.toks+([]:List (Str×Value)).length) I3 S hc hcl hcf f3 o3 hns4 k4 (by unfold WI;simp[CP.len]) (λi x v h1 h2=>by
  unfold WI at h2
  by_cases hik:i < k
  ·rw[ax (by simpa using hik),aO,if_pos hik]at h2
   cases h2
  ·have hk' :k<=i:=by omega
   rw[av (by simpa using hk'),aP,ar]at h2
   cases ej:js[i - k]? with
   | none=>rw[ej]at h2;cases h2
   | some j=>
    rw[ej]at h2;obtain⟨y,e1,e2,e3,e4,e5⟩:=CP.cap (i - k) j ej;have:k+(i - k)=i:=by omega
    rw[this,h1]at e1;cases e1;refine⟨j,e2, ?_,e3,e4,e5⟩;have h2' :some ((σ[j]?).getD none)=some (some v):=h2;cases ez:σ[j]? with
    | none=>rw[ez]at h2';cases h2'
    | some z=>rw[ez]at h2';exact congrArg some (aB h2'))
 have TC:y9 _ _ _ tg J fp it tn:=TJ;have t4:tn 0 h4:=TJ.keep _ _ _ st2 λb hb o e=>k4 b o (by rw[hh3];exact a9 _ e)
 have fC:∀b∈fp,Jp (cxC X scope N' cl s3.heap.objs.size s3 (upd H2 s2.heap.objs.size (.lst [])) fp pins) [] _ b:=λb hb=>by
  obtain⟨q0,q1,q2,q3,q4,q5⟩:=f3 b hb;obtain⟨o,eo⟩:=o3 b hb;refine⟨q0,aD (ao eo),λhb' => ?_,.inl hb,λx c e=>q4 x c (hcl _ _ e),λp hp=> ?_⟩
  ·rcases ak.mp (I3.stkSub b hb') with z | z
   ·exact q1 z
   ·exact q2 z
  ·exact q5 p (by
    have:=hp;rwa[aW]at this)
 have fin:∀(s5:Shared) (σ5:Sg) (H5:Hp),L2.Inv (cxC X scope N' cl s3.heap.objs.size s3 (upd H2 s2.heap.objs.size (.lst [])) fp pins) [] σ5 H5 s5->F s2.heap.objs.size H5->compPost (model X.prog X.w) X.A X.xe use Q _ s3.heap.objs.size (.ok .next) s5:=λs5 σ5 H5 I5 q5=>by
  have J5:=I3.call' (ch:=fp) I5.os I5.base I5.hok I5.bare λb hb=>by
   obtain⟨q0,q1,q2,q3,q4,q5⟩:=f3 b hb;exact⟨q3,q1,q4,q5⟩
  refine hQ _ _ H5 s5 J5 q5 I5.free I3.sz (d7 I3.lt) (λx c e z=> ?_) (λp hp z=> ?_) (let ⟨m,hm,_⟩:=I5.loc;⟨m,hm⟩)
  ·obtain⟨v',o,eo,_⟩:=I3.cell x c e;exact absurd (ao eo) (by rw[z];exact aX _)
  ·exact absurd (ao (I3.pin p hp).1) (by rw[z];exact aX _)
 have pass:Zo (CX1 X.prog X.w) (XE (cxC X scope N' cl s3.heap.objs.size s3 (upd H2 s2.heap.objs.size (.lst [])) fp pins) (notedBy (model X.prog X.w) X.A (compEnvC scope cl s3.heap.objs.size X.env) λe s' =>compPost (model X.prog X.w) X.A X.xe use Q (.ref s2.heap.objs.size) s3.heap.objs.size (.error e) s')) E:=by
  intro pins1 σ1 H1 s1 e s' I1 c1;have J1:=I3.call' I1.os I1.base I1.hok I1.bare λb hb=>by
   obtain⟨q0,q1,q2,q3,q4,q5⟩:=f3 b hb;exact⟨q3,q1,q4,q5⟩
  obtain⟨m1,hm1,_⟩:=I1.loc;refine thn (hp pins σ H1 s1 e s' _ m1 _ _ J1 hm1 I1.free I3.sz (λz=> ?_) rfl c1) λ_ s'' q=> ?_
  ·obtain⟨_,o,eo,_⟩:=I3.stack.mem z;exact absurd (ao eo) (aX _)
  ·cases use <;> exact q
 have loop:=WH (X:=XE (cxC X scope N' cl _ s3 _ fp _) (notedBy _ X.A _ λe s' =>compPost _ X.A _ use Q _ _ _ s')) (iter:=iter) (scope:=scope) (pos:=pos) (λ_ _ z=>z) hc TC (z2b rfl (hg _ _ _ _ _ _)) (gx rfl (ht _ _ _ _ _ _)) (he _ _ _ _ _ _ _ pass) W turn (λs5 σ5 H5 I5=>fin s5 σ5 H5 (YG I5)) w0 (Ud IC) t4 fC;rw[es3]at loop;exact codeAny_compStart_list loop (TJ.self _ _ _ _ _ t4 loop)
end
def zP (g:T->En->R En)(ft:En->R Bool)(fe:En->R T):List T->En->R (List T)
 | [],_=> .ok []
 | t :: ts,ρ=>(g t ρ).bind λρ1=>(ft ρ1).bind λk=>if k=true then (fe ρ1).bind λv=>(zP g ft fe ts ρ1).bind λvs=> .ok (v :: vs) else zP g ft fe ts ρ1
noncomputable def uF:Option Sl->Sl
 | some (.vl t)=> .vl t
 | some (.ob k _)=> .oc k []
 | some (.oc k fs)=> .oc k fs
 | _=> .un
def wy (k:Nat)(js:List Nat)(ρ:En):En:=ah k .un++js.map λj=>uF ρ[j]?
noncomputable def quiet {α:Type}:R α->R α
 | .ok a=> .ok a
 | _=> .bad
def zC (g:T->En->R En)(ft:En->R Bool)(fe:En->R T)(k:Nat)(js:List Nat)(ρ:En)(ts:List T):R (List T):=if ts.length<=bnd then quiet (zP g ft fe ts (wy k js ρ)) else .bad
def zU (fi:En->R (List T))(g:T->En->R En)(ft:En->R Bool)(fe:En->R T)(k:Nat)(js:List Nat):En->R T:=λρ=>(fi ρ).bind λts=>(zC g ft fe k js ρ ts).bind λvs=> .ok (.lst vs)
def GOk (tG:TG)(g:T->En->R En):Prop:=∀Y B ρ σ H v x Q,SI Y B ρ σ H->Rep B v x->(match g x ρ with | .ok ρ' =>∀σ',SI Y B ρ' σ' H->Q σ' H | _=>False)->tG v σ H Q
theorem Uf (i:Nat):GOk (wk i) (zI i):=λY B ρ σ H v x Q I r q=>q _ (I.setV i r)
theorem vT (K:aa)(i j:Nat):GOk (z0B K 2 (yY (wk i) (yY (wk j) z1p))) (Zq i j):=λY B ρ σ H v t Q I r q=>by
 cases r with
 | @tup l xs ts h r=>
  cases r with
  | nil=>exact q.elim
  | cons r1 rr=>
   cases rr with
   | nil=>exact q.elim
   | cons r2 rr=>
    cases rr with
    | cons _ _=>exact q.elim
    | nil=>exact⟨l,_,rfl,SqT.of (I.sB _ _ h),rfl,_,_,rfl,_,_,rfl,rfl,q _ ((I.setV i r1).setV j r2)⟩
 | _=>exact q.elim
theorem SI.blockS (I:SI Y B ρ σ H)(k:Nat)(js:List Nat)(E:XK)(s:zr H H'):SI ⟨B,H,E,Y.cl,[]⟩ B (wy k js ρ) (WI k js σ) H' where
 s0:=I.sB
 sH:=s
 sB:=I.sB.trans s
 old:=λ_ _ _=>rfl
 len:=by unfold wy WI;simp
 vl:=λi t h=>by
  unfold wy at h;unfold WI
  by_cases hik:i < k
  ·rw[ax (by simpa using hik),aO,if_pos hik]at h;cases h
  ·have hk' :k<=i:=by omega
   rw[av (by simpa using hk'),aP,ar]at h ⊢
   cases ej:js[i - k]? with
   | none=>rw[ej]at h;cases h
   | some j=>
    rw[ej]at h;have h' :uF ρ[j]? = .vl t:=aB h;unfold uF at h';split at h'
    ·rename_i u e;cases h';obtain⟨v,e1,r⟩:=I.vl j _ e;exact⟨v,by show some ((σ[j]?).getD none)=_;rw[e1];rfl,r⟩
    all_goals cases h'
 ow:=λi ts h=>by
  exfalso;unfold wy at h
  by_cases hik:i < k
  ·rw[ax (by simpa using hik),aO,if_pos hik]at h;cases h
  ·have hk' :k<=i:=by omega
   rw[av (by simpa using hk'),aP,ar]at h
   cases ej:js[i - k]? with
   | none=>rw[ej]at h;cases h
   | some j=>
    rw[ej]at h;have h' :uF ρ[j]? = .ow ts:=aB h;unfold uF at h';split at h' <;> cases h'
 xc:=λi c h=>by
  exfalso;unfold wy at h
  by_cases hik:i < k
  ·rw[ax (by simpa using hik),aO,if_pos hik]at h;cases h
  ·have hk' :k<=i:=by omega
   rw[av (by simpa using hk'),aP,ar]at h
   cases ej:js[i - k]? with
   | none=>rw[ej]at h;cases h
   | some j=>
    rw[ej]at h;have h' :uF ρ[j]? = .xc c:=aB h;unfold uF at h';split at h' <;> cases h'
 st:=by
  have get:∀(i:Nat) (x:Sl),x.isO=true->(wy k js ρ)[i]? =some x->∃j,js[i - k]? =some j/\k<=i/\uF ρ[j]? =x:=λi x hx h=>by
   unfold wy at h
   by_cases hik:i < k
   ·rw[ax (by simpa using hik),aO,if_pos hik]at h
    cases h;cases hx
   ·have hk' :k<=i:=by omega
    rw[av (by simpa using hk'),aP,ar]at h
    cases ej:js[i - k]? with
    | none=>rw[ej]at h;cases h
    | some j=>
     rw[ej]at h;exact⟨j,rfl,hk',aB h⟩
  refine⟨[],λ_=>none,cg _,λi os h=> ?_,λi _ os _ h=> ?_,λi k' n h=> ?_,λi k' fs h=> ?_,λi os h=> ?_⟩
  ·obtain⟨j,_,_,e⟩:=get i _ rfl h;unfold uF at e;split at e <;> cases e
  ·obtain⟨j,_,_,e⟩:=get i _ rfl h;unfold uF at e;split at e <;> cases e
  ·obtain⟨j,_,_,e⟩:=get i _ rfl h;unfold uF at e;split at e <;> cases e
  ·obtain⟨j,ej,hk',e⟩:=get i _ rfl h;have sg:(WI k js σ)[i]? =some ((σ[j]?).getD none):=by
    unfold WI;rw[av (by simpa using hk'),aP,ar,ej];rfl
   obtain⟨as,O,x⟩:=I.st;unfold uF at e;split at e
   ·cases e
   ·rename_i k2 n2 e2;cases e;obtain⟨a,C,dx,vs,_,e3,e4,e5,_,_,e6⟩:=x.ob j _ _ e2;exact⟨a,C,dx,vs,by rw[sg,e3];rfl,e4,e5,e6,λm f d z=>by cases z⟩
   ·rename_i k2 fs2 e2;cases e;obtain⟨a,C,dx,vs,e3,e4,e5,e6,e7⟩:=x.oc j _ _ e2;exact⟨a,C,dx,vs,by rw[sg,e3];rfl,e4,I.sH _ _ e5,e6,e7.mono (zr.refl _) I.sH⟩
   ·cases e
  ·obtain⟨j,_,_,e⟩:=get i _ rfl h;unfold uF at e;split at e <;> cases e
theorem SI.block {Y:Fx}{B:Hp}{ρ:En}{σ:Sg}{H H3:Hp}{D:Addr}(I:SI Y B ρ σ H)(k:Nat)(js:List Nat)(E:XK)(hD:H D=none)(o:HO):SI ⟨B,H,E,Y.cl,[]⟩ B (wy k js ρ) (WI k js σ) (upd H D o):=I.blockS k js E (zr.new hD _)
theorem SI.acc {Y:Fx}{B:Hp}{ρ:En}{σ:Sg}{H:Hp}{D:Addr}(I:SI Y B ρ σ H)(hb:B D=none)(h0:Y.H0 D=none)(ho:∀(i:Nat) (ts:List T),ρ[i]? =some (Sl.ow ts)->σ[i]? ≠ some (some (V.ref D)))(hso:∀(i:Nat) (x:Sl),ρ[i]? =some x->Sl.isS x=true->False)(o:HO):SI Y B ρ σ (upd H D o) where
 s0:=I.s0
 sH:=λb u h=>by
  rw[zv (λz=>by subst z;rw[h0]at h;cases h)];exact I.sH b u h
 sB:=λb u h=>by
  rw[zv (λz=>by subst z;rw[hb]at h;cases h)];exact I.sB b u h
 old:=I.old
 len:=I.len
 vl:=I.vl
 ow:=λi ts h=>by
  obtain⟨a,xs,e,b0,h0',hh,r,d⟩:=I.ow i ts h;refine⟨a,xs,e,b0,h0', ?_,r,d⟩;rw[zv (λz=>ho i ts h (by rw[e,z]))];exact hh
 xc:=I.xc
 st:=let ⟨as,O,x⟩:=I.st;⟨as,O,x.pre,λi os h=>hso i _ h rfl |>.elim,λi j os os' h=>hso i _ h rfl |>.elim,λi k n h=>hso i _ h rfl |>.elim,x.oc,λi os h=>hso i _ h rfl |>.elim⟩
def Xn (ρ:En):Prop:=∀(i:Nat) (x:Sl),ρ[i]? =some x->(∀ts,x ≠ Sl.ow ts)/\(x.isS=true->False)
theorem Ug (k:Nat)(js:List Nat)(ρ:En):Xn (wy k js ρ):=λi x h=>by
 unfold wy at h
 by_cases hik:i < k
 ·rw[ax (by simpa using hik),aO,if_pos hik]at h
  cases h;exact⟨λ_=>Sl.noConfusion,aG⟩
 ·have hk' :=by omega
  rw[av (by simpa using hk'),aP,ar]at h
  cases ej:js[i - k]? with
  | none=>rw[ej]at h;cases h
  | some j=>
   rw[ej]at h;have h' :uF _=x:=aB h;unfold uF at h';split at h' <;> (subst h';exact⟨λ_=>Sl.noConfusion,aG⟩)
theorem wW {ρ:En}{i:Nat}{t:T}(h:Xn ρ):Xn (ρ.set i (.vl t)):=λj x e=>by
 rcases zq e with ⟨_,z⟩ | ⟨_,z⟩
 ·subst z;exact⟨λ_=>Sl.noConfusion,aG⟩
 ·exact h j x z
def GNo (g:T->En->R En):Prop:=(∀t ρ ρ',Xn ρ->g t ρ= .ok ρ' ->Xn ρ')/\∀t ρ c,g t ρ ≠ .ex c
theorem Uh (i:Nat):GNo (zI i):=⟨λt ρ ρ' h e=>by
 cases e;exact wW h,λt ρ c e=>by cases e⟩
theorem vU (i j:Nat):GNo (Zq i j):=⟨λt ρ ρ' h e=>(by
 unfold Zq at e;split at e
 ·cases e;exact wW (wW h)
 ·cases e),λt ρ c e=>by unfold Zq at e;split at e <;> cases e⟩
section
variable {X:Cx}{Y:Fx}{tg iter elt:Expr}{ifs:List Expr}{scope:Scope}{pos pos' :Pos}{N' :List Str}{k:Nat}{js:List Nat}{fi:En->R (List T)}{tG:TG}{g:T->En->R En}{ft:En->R Bool}{fe:En->R T}
structure Jm (X:Cx) (Y:Fx) (ifs:List Expr) (f:En->R Bool):Prop where
 mk ::
 go:∀ρ,PIf X ifs (tS Y rE f ρ)
instance {X:Cx}{Y:Fx}{ifs:List Expr}{f:En->R Bool}:CoeFun (Jm X Y ifs f) λ_=>∀ρ,PIf X ifs (tS Y rE f ρ):=⟨Jm.go⟩
theorem PIf.imp {X:Cx}{e:List Expr}{t t' :TT}(h:PIf X e t)(i:∀σ H Q,t' σ H Q->t σ H Q):PIf X e t' :=λpins s σ H Q I q=>h _ s σ H Q I (i σ H Q q)
def Zg:En->R Bool:=λ_=> .ok true
theorem gA {X:Cx}:Jm X Y [] Zg:= .mk λρ=>PIf.imp Xl λσ H Q ⟨B,I,q⟩=>ZH I q rfl
theorem gB {X:Cx}{c:Expr}(h:Wj X Y c ft):Jm X Y [c] ft:= .mk λρ=>Xm (h ρ)
noncomputable def CEnd (r:R (List T))(P:List T->Prop)(Z:Nat->Prop):Prop:=match r with
 | .ok vs=>P vs
 | .ex c=>Z c
 | .bad=>False
theorem yr {B1 H1:Hp}{σ:Sg}{ρ:En}{J:It}{ts:List T}{r:R (List T)}{D:Addr}{E0:XK}(hG:GOk tG g)(hN:GNo g)(I:SI Y B1 ρ σ H1)(rI' :rI B1 H1 J ts)(hl:ts.length<=bnd)(ev:zP g ft fe ts (wy k js ρ)=r)(hD:H1 D=none){F:Hp->Prop}
  (hF:CEnd r (λvs=>∀H' xs B',zr H1 H' ->H' D=some (.lst xs)->zF B' xs vs->zr B' (zO B1 H1 H')->B' D=none->zr B1 B' ->F H') λc=>∀d H',zr H1 H' ->zr B1 H' ->E0 (Y.cl c) d H'):
  ∃W,(∃m,W 0 m [] (WI k js σ) (upd H1 D (.lst [])))/\yq J D tG (λσ H Q=>∃Y' ρ',Y'.cl=Y.cl/\tS Y' rE ft ρ' σ H Q) (λσ H Q=>∃Y' ρ',Y'.cl=Y.cl/\Y'.E=E0/\tS Y' rC fe ρ' σ H Q) (λ_ H' =>F H') W:=by
 refine⟨λi m ys σ' H' =>m=ts.length - i/\i<=ts.length/\ys.length<=i/\H' D=some (.lst ys)/\∃ρ' B' us,SI ⟨B1,H1,E0,Y.cl,[]⟩ B' ρ' σ' H' /\Xn ρ' /\zr B1 B' /\B' D=none/\zF B' ys us/\((zP g ft fe (ts.drop i) ρ').bind λws=> .ok (us++ws))=r,
  ⟨ts.length,by simp,aQ _,aQ _,zA,_,B1,[],I.block (H3:=H1) k js _ hD _,Ug k js ρ,zr.refl _,I.sB.free hD,.nil,by rw[dg,ev];cases r <;> rfl⟩, ?_⟩
 rintro i m ys σ' H' ⟨rfl,hi,hyl,hDl,ρ',B',us,I',no',s1',bD,r',ew⟩
 refine⟨hDl, ?_⟩;obtain⟨hgo,hyld,hstop⟩:=rI' B' H' s1' I'.sB;have tD:∀H2,zr H' H2->zO B' H' H2 D=none:=λH2 s=>by rw[Z7 hDl];exact bD
 by_cases hlt:i < ts.length
 ·refine .inr ⟨hgo i hlt,λx H2 y=> ?_⟩;obtain⟨s2,r2⟩:=hyld i _ x H2 (ae hlt) y;rw[cQ hlt]at ew;unfold zP at ew;have I2:=I'.grow s2;refine hG _ _ ρ' σ' H2 x _ _ I2 r2 ?_;cases eg:g ts[i] ρ' with
  | bad=>rw[eg]at ew;subst ew;exact hF
  | ex c=>exact(hN.2 _ _ _ eg).elim
  | ok ρ1=>
   rw[eg]at ew;have no1:=hN.1 _ _ _ no' eg;intro σ1 J1;refine⟨⟨B1,H1,E0,Y.cl,[]⟩,ρ1,rfl,_,J1, ?_⟩;have ew1:((ft ρ1).bind (λk=>if k=true then (fe ρ1).bind λv=>(zP g ft fe (ts.drop (i+1)) ρ1).bind λvs=> .ok (v :: vs) else zP g ft fe (ts.drop _) ρ1)).bind (λws=> .ok _)=r:=ew
   cases ef:ft ρ1 with
   | bad=>rw[ef]at ew1;subst ew1;exact hF
   | ex c=>
    rw[ef]at ew1;subst ew1;exact λd H' a b=>hF d H' a ((s1'.trans (zO.ge I'.sB s2)).trans b)
   | ok kk=>
    rw[ef]at ew1;intro b H3 s3 eb;have eb' :=eb;subst eb';have ew2:=ew1;have J2:=J1.grow s3;have hD3:H3 D=some _:=s3 _ _ (s2 _ _ hDl);have bD3:zO (zO B' H' H2) H2 H3 D=none:=by rw[Z7 (s2 _ _ hDl)];exact tD H2 s2
    have sB3:=(zO.ge I'.sB s2).trans (zO.ge I2.sB s3);cases b with
    | false=>exact⟨ts.length - (i+1),by omega,rfl,hlt,by omega,hD3,ρ1,_,us,J2,no1,s1'.trans sB3,bD3,r'.mono sB3,ew2⟩
    | true=>
     refine⟨⟨B1,H1,E0,Y.cl,[]⟩,ρ1,rfl,rfl,_,J2, ?_⟩;have ew3:=ew2;cases ee:fe ρ1 with
     | bad=>rw[ee]at ew3;subst ew3;exact hF
     | ex c=>
      rw[ee]at ew3;subst ew3;exact λd H' a b=>hF d H' a ((s1'.trans sB3).trans b)
     | ok v=>
      rw[ee]at ew3;have ew4:=ew3;have ew5:(zP g ft fe (ts.drop (i+1)) ρ1).bind (λws=> .ok ((us++[v])++ws))=r:=by
       rw[← ew4];cases zP g ft fe _ ρ1 with
       | ok ws=>show R.ok _=R.ok _;rw[ba];rfl
       | _=>rfl
      intro w H4 s4 rw4;have hD4:=s4 _ _ hD3;have J3:=J2.grow s4;have bD4:zO (zO (zO B' H' H2) H2 H3) H3 H4 D=none:=by rw[Z7 hD3];exact bD3
      have sB4:=sB3.trans (zO.ge J2.sB s4);refine⟨hD4,aL (be hyl hlt) (Zp hl),ts.length - (i+1),by omega,rfl,hlt,by rw[az,aK];omega,zA,ρ1,_,us++[v], ?_,no1,s1'.trans sB4,bD4,(r'.mono sB4).append (.cons rw4 .nil),ew5⟩
      exact J3.acc bD4 hD (λj ts' e=>((no1 j _ e).1 ts' rfl).elim) (λj x e=>(no1 j x e).2) _
 ·have e:i=ts.length:=by omega
  subst e;refine .inl ⟨hstop _ (aj _), ?_⟩;rw[eT]at ew;have ew' :R.ok _=r:=ew;rw[aW]at ew';subst ew';refine hF H' ys B' I'.sH hDl r' (λb o h=> ?_) bD s1';cases q:H1 b with
  | none=>rw[Z6 q];exact I'.sB b o h
  | some u=>
   rw[Z7 q];have z:B' b=B1 b:=I'.old b u q;rw[← z];exact h
theorem JM {J:It}(hG:GOk tG g)(hN:GNo g)(I:SI Y B1 ρ σ H1)(rI' :rI B1 H1 J ts)(hl:ts.length<=bnd)(ev:zP g ft fe ts (wy k js ρ)= .ok vs)(hD:H1 D=none){F:Hp->Prop}
  (hF:∀H' xs B',zr H1 H' ->H' D=some (.lst xs)->zF B' xs vs->zr B' (zO B1 H1 H')->B' D=none->zr B1 B' ->F H'):
  ∃W,(∃m,W 0 m [] (WI k js σ) (upd H1 D (.lst [])))/\yq J D tG (λσ H Q=>∃Y' ρ',Y'.cl=Y.cl/\tS Y' rE ft ρ' σ H Q) (λσ H Q=>∃Y' ρ',Y'.cl=Y.cl/\(Y'.E=λ_ _ _=>False)/\tS Y' rC fe ρ' σ H Q) (λ_ H' =>F H') W:=yr hG hN I rI' hl ev hD hF
structure wz (X:Cx) (Y:Fx) (tg iter elt:Expr) (ifs:List Expr) (scope:Scope) (N' :List Str) (k:Nat) (js:List Nat) (fi:En->R (List T)) (tG:TG) (g:T->En->R En) (ft:En->R Bool) (fe:En->R T):Prop where
 sc:CSc X scope
 cp:gz X scope N' k js
 cm:X.calm=true
 it:Wm X Y tg iter fi
 gt:VW X scope N' λXC=>PG XC tg tG
 gk:GOk tG g
 gn:GNo g
 tt:∀Y',Y'.cl=Y.cl->VW X scope N' λXC=>Jm XC Y' ifs ft
 el:∀Y',Y'.cl=Y.cl->gy X scope N' Y'.E λXC=>Snd XC Y' elt fe
 hs:∀x,foldedSetIterable iter X.env x=pure x
theorem VX (C:wz X Y tg iter elt ifs scope N' k js fi tG g ft fe):Snd X Y (.ListComp elt [⟨tg,iter,ifs,0⟩] scope pos) (zU fi g ft fe k js):= .mk λρ=>by
 intro pins s σ H Q I ⟨B,J,q⟩;refine wV (jT rfl) (F:=λD H' =>Q (.ref D) H') (te:=λσ H Q=>∃Y' ρ',Y'.cl=Y.cl/\(Y'.E=λ_ _ _=>False)/\tS Y' rC fe ρ' σ H Q) (tt:=λσ H Q=>∃Y' ρ',Y'.cl=Y.cl/\tS Y' rE ft ρ' σ H Q) C.sc C.cp C.cm (C.it ρ) C.gt
  (λcl Cx' s3 H3 fp pins pins' s σ H Q I ⟨Y',ρ',ey,q⟩=>C.tt Y' ey cl Cx' s3 H3 fp _ ρ' _ s σ H Q I q) (λcl Cx' s3 H3 fp pins xe hp pins' s σ H Q I ⟨Y',ρ',ey,eE,q⟩=>C.el Y' ey cl Cx' s3 H3 fp _ xe (eE ▸ hp) ρ' _ s σ H Q I q) I ?_ ?_ C.hs
 ·refine step J q λts it' H1 _ s1 r1 J1 q1=> ?_;intro D hD;unfold zC at q1;split at q1
  ·rename_i hl;cases ev:zP g ft fe ts _ with
   | bad=>rw[ev]at q1;exact q1.elim
   | ex c=>rw[ev]at q1;exact q1.elim
   | ok vs=>
    rw[ev]at q1;refine JM C.gk C.gn J1 r1 hl ev hD λH' xs B' s' e' r' l' b' sb' => ?_;refine(show Po Y rC _ H1 _ Q from q1) _ H' s' ?_;exact .lst (by rw[Z6 hD];exact e') (r'.mono l')
  ·exact q1.elim
 ·intro D Cc H' s' I' q' hC h0 hL hcell hpin hns;obtain⟨m,hm⟩:=hns;refine⟨m,hm,λh' hsb=>⟨.ref D,H', ?_,rfl,q'⟩⟩;exact I'.turned (λb o hb e=>hsb.extBut b o hb e) hC (aS hL).symm (.inr h0) hcell hpin
end
section
variable {js:List Nat}{g:T->En->R En}
theorem gC (C:wz X Y tg iter elt ifs scope N' k js fi tG g ft fe)(hN:X.N.Nodup)(hi:X.N[i]? =some x)(hx:L2.Loc X.env.scope x)
  (hsw:swapsWith (.ListComp elt [⟨tg,iter,ifs,0⟩] scope pc) (some (.Name x p')) pos.line X.env=pure true) (hf:X.fn x=true\/X.env.scope.names.lookup x=some .local:=by first | exact .inl rfl | exact .inr rfl | assumption):
  jV X Y (.Assign [.Name x p'] (.ListComp elt [⟨tg,iter,ifs,0⟩] scope pc) pos) (zK i (zU fi g ft fe k js)):= .mk λρ=>by
 intro pins s σ H D I ⟨B,J,q⟩;rw[exec_Assign_Name_used _ _ _ _ hsw];refine a7 (wpAny_standAt (a7 ?_));refine a7 (thn (wV (jT rfl) (F:=λD' H' =>D.nx (σ.set i (some (.ref D'))) H') (te:=λσ H Q=>∃Y' ρ',Y'.cl=Y.cl/\(Y'.E=λ_ _ _=>False)/\tS Y' rC fe ρ' σ H Q) (tt:=λσ H Q=>∃Y' ρ',Y'.cl=Y.cl/\tS Y' rE ft ρ' σ H Q) C.sc C.cp C.cm (C.it ρ) C.gt
  (λcl Cx' s3 H3 fp pins pins' s σ H Q I ⟨Y',ρ',ey,q⟩=>C.tt Y' ey cl Cx' s3 H3 fp _ ρ' _ s σ H Q I q) (λcl Cx' s3 H3 fp pins xe hp pins' s σ H Q I ⟨Y',ρ',ey,eE,q⟩=>C.el Y' ey cl Cx' s3 H3 fp _ xe (eE ▸ hp) ρ' _ s σ H Q I q) I ?_ ?_ C.hs) λ_ s' hq=>aq (aq hq))
 ·have q' :PoS Y B (((fi ρ).s λts=>(zC g ft fe k js ρ ts).s λvs=> .nx (ρ.set i (.vl (.lst vs))))) D:=by
   unfold zK zU at q;revert q;cases fi ρ with
   | bad=>exact λq=>q
   | ex c=>exact λq=>q
   | ok ts=>
    intro q;have q2:PoS Y B (((zC g ft fe k js ρ ts).bind λvs=>R.ok _).s λt=>RS.nx _) D:=q;show PoS Y B ((zC g ft fe k js ρ ts).s λvs=>RS.nx _) D;revert q2;cases zC g ft fe k js ρ ts with
    | bad=>exact λq=>q
    | ex c=>exact λq=>q
    | ok vs=>exact λq=>q
  refine jy J q' λts it' H1 _ s1 r1 J1 q1=> ?_;intro D' hD;unfold zC at q1;split at q1
  ·rename_i hl;cases ev:zP g ft fe ts _ with
   | bad=>rw[ev]at q1;exact q1.elim
   | ex c=>rw[ev]at q1;exact q1.elim
   | ok vs=>
    rw[ev]at q1;refine JM C.gk C.gn J1 r1 hl ev hD λH' xs B' s' e' r' l' b' sb' => ?_;have rr:Rep _ _ _:= .lst (by rw[Z6 hD];exact e') (r'.mono l')
    exact q1 _ _ _ (zO.ge J1.sB s') ((J1.grow s').setV i rr)
  ·exact q1.elim
 ·intro D' Cc H' s' I' q' hC h0 hL hcell hpin hns;obtain⟨m,hm⟩:=hns;refine wpAny_assign_Name (Wn (v:= .ref D') I' hN hi hx rfl (λs'' I'' ⟨a,hsb,ha⟩=> ?_) hf);have hne:Cc ≠ a:=by
   rcases ha with rfl | ha
   ·exact hL
   ·exact(hcell x a ha).symm
  refine⟨m,hm.sameBut hsb hne,λh' hsb' =>⟨_,H', ?_,q'⟩⟩;exact I''.turned (λb o hb e=>hsb'.extBut b o hb e) hC hL (.inr h0) hcell hpin
end
noncomputable def Itc (x:Str):It:=⟨λi _=>i < x.cps.size,λi H v H' =>H' =H/\∃c,x.cps[i]? =some c/\v= .str ⟨#[c]⟩,λi _=>x.cps.size<=i⟩
theorem wA {P:Program}{w:World}{K:aa}{tg:Expr}{x:Str}{t:Tok}{ty:String}(it:Addr)(hty:ty="str_ascii_iterator"\/ty="str_iterator"):y9 P w K tg (Itc x) [it] it (λi h=>h.IsStrIter it ty x t i):=by
 have W:∀A:Around,A.handled=none->Walks P w A it [it] [it] x.cps.size (SignAt x) (λi h=>h.IsStrIter it ty x t i):=λA hA=>by
  rcases hty with rfl | rfl
  ·exact Walks.strAscii hA it x t
  ·exact Walks.strWide hA it x t
 have hn:["enumerate","zip","dict_itemiterator","dict_reverseitemiterator","odict_iterator","itertools.zip_longest","itertools.pairwise"].contains ty=false:=by rcases hty with rfl | rfl <;> decide
 refine⟨by simp,λi h st b hb=> ?_,λi h h' st k=> ?_, ?_, ?_,λA i s Q E st h=> ?_⟩
 ·have e:b=it:=by simpa using hb
  subst e;obtain⟨o,e,c,d⟩:=st;exact⟨o,e,λv z=>by rw[d]at z;cases z⟩
 ·obtain⟨o,e,r⟩:=st;exact⟨o,k it (by simp) o e,r⟩
 ·intro X hP hw hK hc i pins s σ H E I hf st hg;obtain⟨f0,f1,f2,f3,f4,f5⟩:=hf it (by simp)
  refine(W X.A (I.ok.hd hc)).item i s _ _ hg st λv h' tk hv st' kk=> ?_;obtain⟨c,u,hc',rfl⟩:=hv;have I1:L2.Inv X _ σ H { s with heap:=h',toks:=tk }:=I.turned (λb o hb e=>kk b o (by simpa using hb) e) f0 f1 f3 f4 f5
  obtain⟨o,e,cl,d⟩:=id st';exact⟨_,rfl,ya e cl d hn ⟨.str _,H,I1,⟨u,rfl⟩,⟨rfl,c,hc',rfl⟩,st',λb hb=>(hf b hb).1⟩⟩
 ·intro X hP hw hK hc i pins s σ H E I hf st hg;obtain⟨f0,f1,f2,f3,f4,f5⟩:=hf it (by simp)
  have hx:=cz hg;rcases hty with rfl | rfl
  ·exact wpAny_pyNext_ascii_end (I.ok.hd hc) st hx λh' eb=>⟨rfl,I.turned (λb o hb e=>eb b o hb e) f0 f1 f3 f4 f5⟩
  ·exact wpAny_pyNext_wide_end (I.ok.hd hc) st hx λh' eb=>⟨rfl,I.turned (λb o hb e=>eb b o hb e) f0 f1 f3 f4 f5⟩
 ·rcases hty with rfl | rfl
  ·exact wpAny_pyIter_striter_ascii st h
  ·exact wpAny_pyIter_striter_wide st h
noncomputable def JN (x:Str):List T:=x.cps.toList.map λc=>T.str ⟨#[c]⟩
theorem vV:rI B1 H1 (Itc x) (JN x):=λB2 H2 s1 s2=>by
 have hl:(JN x).length=x.cps.size:=by unfold JN;simp
 refine⟨λi hi=>by rw[hl]at hi;exact hi,λi t v H3 e y=> ?_,λi hi=>by rw[hl]at hi;exact hi⟩
 obtain⟨rfl,c,hc,rfl⟩:=y;refine⟨zr.refl _, ?_⟩;unfold JN at e;rw[ar]at e;have hc' :x.cps.toList[i]? =some c:=by simpa using hc
 rw[hc']at e;cases e;exact .str _
section
theorem gE {l:Expr}{tl:TE}(hl:PE X l tl):PI X tg l (λσ H R=>tl σ H λx H1=>(∃a,x= .ref a/\(((∃xs,SqL X.K H1 a xs)/\R (Itl X.K a) H1)\/((∃xs,SqT X.K H1 a xs)/\R (Itt X.K a) H1)))\/(∃z,x= .str z/\R (Itc z) H1)):=by
 intro pins s σ H R I h;refine thn (hl _ s σ H _ I h) λv s1 ⟨x,H1,I1,r1,q1⟩=> ?_;have ok:∀b∈[s1.heap.objs.size],Jp X _ H1 b:=λb hb=>by
  have e:=by simpa using hb
  subst e;exact I1.fpOk (aj _) (I1.hok.fresh (aj _))
 rcases q1 with ⟨a,e,q⟩ | ⟨z,e,q⟩
 ·subst e;obtain rfl:v=Value.ref a:=r1;rcases q with ⟨⟨xs,hq⟩,q⟩ | ⟨⟨xs,hq⟩,q⟩
  ·obtain⟨its,rv,p,hz⟩:=I1.list hq;exact c8 p.isList ⟨s1.heap.objs.size,[s1.heap.objs.size],_,_,H1,rfl,I1.kept λb o e=>a9 _ e,Y0 a _,⟨_,af _ rfl,rfl,rfl⟩,ok,q⟩
  ·obtain⟨its,rv,p,hz⟩:=I1.tuple hq;exact wpAny_pyIter_tuple (show s1.heap.IsTuple a _ from p) ⟨s1.heap.objs.size,[s1.heap.objs.size],_,_,H1,rfl,I1.kept λb o e=>a9 _ e,yb a _,⟨_,af _ rfl,rfl,rfl⟩,ok,q⟩
 ·subst e;obtain⟨t,rfl⟩:=r1;cases ha:z.cps.all _
  ·exact wpAny_pyIter_wide ha ⟨s1.heap.objs.size,[s1.heap.objs.size],_,_,H1,rfl,I1.kept λb o e=>a9 _ e,wA _ (.inr rfl),⟨_,af _ rfl,rfl,rfl⟩,ok,q⟩
  ·exact wpAny_pyIter_ascii ha ⟨s1.heap.objs.size,[s1.heap.objs.size],_,_,H1,rfl,I1.kept λb o e=>a9 _ e,wA _ (.inl rfl),⟨_,af _ rfl,rfl,rfl⟩,ok,q⟩
def Jd:T->R (List T)
 | .lst xs=> .ok xs
 | .tup xs=> .ok xs
 | .str x=> .ok (JN x)
 | _=> .bad
def Zx (fa:En->R T):En->R (List T):=λρ=>(fa ρ).bind Jd
theorem z2c (ha:Snd X Y a fa):Wm X Y tg a (Zx fa):= .mk λρ=>PI.imp (gE (ha ρ)) λσ H R ⟨B,I,q⟩=>step I q λt v H1 _ s1 r1 I1 q1=>by
 cases r1 with
 | @tup l xs ts h r=>
  exact .inl ⟨l,rfl,.inr ⟨⟨xs,SqT.of (I1.sB _ _ h)⟩,ZH I1 (show Po Y rI _ H1 _ R from q1) (gp h r)⟩⟩
 | @lst l xs ts h r=>
  exact .inl ⟨l,rfl,.inl ⟨⟨xs,SqL.of (I1.sB _ _ h)⟩,ZH I1 (show Po Y rI _ H1 _ R from q1) (gq h r)⟩⟩
 | str z=>exact .inr ⟨z,rfl,ZH I1 (show Po Y rI _ H1 _ R from q1) vV⟩
 | _=>exact q1.elim
end
theorem Inv.laidT {X:Cx}{pins:List (Addr×Obj)}{σ:Sg}{H:Hp}{s:Shared}{h' :Heap}{tk:Nat}{ch:List Addr}{a:Addr}{xs:List V}(I:L2.Inv X pins σ H s)(hf:∀b∈ch,Jp X pins H b)(k:∀b o,b ∉ ch->s.heap.get? b=some o->h'.get? b=some o)
  (th:∀b o,b∈ch->s.heap.get? b=some o->∃o',h'.get? b=some o') (ha:s.heap.objs.size<=a) (new:Z5 X.prog X.w (upd H a (.tup xs)) h' a (.tup xs)):L2.Inv X pins σ (upd H a (.tup xs)) { s with heap:=h',toks:=tk }:=by
 have hn:=I.hok.fresh ha;have nch:∀b u,H b=some u->b ∉ ch:=λb u e hb=>by rw[(hf b hb).1]at e;cases e
 refine I.call' rfl ⟨λb o e n _ hc=>k b o hc e,λb o e n _ hc=>⟨o.slots,k b o hc e⟩,λb o e n _=>by rw[zv (aD (aL (ao e) ha))];exact n,λb o e hc=>⟨o,k b o hc e⟩,
  λb ys e=>by rw[zv (zL e hn)];exact e,λb o u e=>by rw[zv (zL e hn)];exact e,λb ps q e=>by rw[zv (zL e hn)];exact e⟩ (λb u e=> ?_) I.bare λb hb=> ?_
 ·by_cases hb:b=a
  ·subst hb;rw[zA]at e;cases e;exact new
  ·rw[zv hb]at e;refine(I.hok b u e).stay (λc v hc q=> ?_) (λc q=>by rw[zv (zL q hn)];exact q) (λc ys q=>by rw[zv (zL q hn)];exact q) λc o u q=>by rw[zv (zL q hn)];exact q
   rcases hc with rfl | hc
   ·exact k c v (nch c u e) q
   ·exact k c v (nch c _ hc) q
 ·obtain⟨f0,f1,f2,f3,f4,f5⟩:=hf b hb;exact⟨f3,f1,f4,f5⟩
def Ite (K:aa)(l:Addr):It:=
 ⟨λi H=>∃xs x,SqL K H l xs/\xs[i]? =some x,λi H v H' =>∃p x,H p=none/\v= .ref p/\(∀xs,SqL K H l xs->xs[i]? =some x)/\H' =upd H p (.tup [.int i,x]),λi H=>∃xs,SqL K H l xs/\xs.length<=i⟩
theorem YH {P:Program}{w:World}{K:aa}{elts:List Expr}{kk:Nat}{pt:Pos}(e it l:Addr)(hei:e ≠ it)(hle:l ≠ e)(hli:l ≠ it):
  y9 P w K (.Tuple elts kk pt) (Ite K l) [e,it] e (λi h=>(∃old,IsEnum h e it i old)/\h.IsListIter it l i) where
 mem:=by simp
 obj:=λi h st b hb=>by
  obtain⟨⟨old,he⟩,o,e1,c,d⟩:=st;rcases ak.mp hb with rfl | hb
  ·exact⟨_,he,λv z=>nomatch z⟩
  ·have z:b=it:=by simpa using hb
   subst z;exact⟨o,e1,λv z=>by rw[d]at z;cases z⟩
 keep:=λi h h' st k=>by
  obtain⟨⟨old,he⟩,hit⟩:=st;exact⟨⟨old,k e (by simp) _ he⟩,hit.at λo x=>k it (by simp) o x⟩
 item:=by
  intro X hP hw hK hc i pins s σ H E I hf st hg;subst hP hw hK;obtain⟨xs,x,hq,hx⟩:=hg;obtain⟨its,rv,p,hz⟩:=I.list hq;obtain⟨u,hu,ru⟩:=rv.get hx;obtain⟨⟨old,he⟩,hit⟩:=st;have hi:i < its.toArray.size:=by
   have:=(ai.mp hu).1;simpa using this
  refine(iz (prog:=X.prog) (w:=X.w) (I.ok.hd hc) e it l hei hle hli its.toArray).item i s _ _ hi ⟨⟨old,he⟩,hit,p.isList⟩ λT vals h' tk hP hT hTup hM hk=> ?_;obtain⟨t,y,hy,rfl⟩:=hP;have hyu:y=u:=by
   have:its[i]? =some y:=by simpa using hy
   rw[hu]at this;exact(aB this).symm
  subst hyu;refine⟨.ref T,rfl, ?_⟩;refine(iz (prog:=X.prog) (w:=X.w) (I.ok.hd hc) e it l hei hle hli its.toArray).go elts kk pt i T _ _ _ hM λh2 hst2 hk2=> ?_;have hTn:H T=none:=I.hok.fresh hT;have hTne:∀b∈[e,it],b ≠ T:=λb hb z=>by
   obtain⟨_,_,_,h3,h4⟩:=hM;rcases ak.mp hb with rfl | hb
   ·exact h3 z.symm
   ·have:b=it:=by simpa using hb
    subst this;exact h4 z.symm
  have UF:IsTup h2 T #[.int i t,y]:=by
   obtain⟨o,eo,r⟩:=hTup;exact⟨o,hk2 T o (λhb=>hTne T hb rfl) eo,r⟩
  refine⟨.ref T,upd H T (.tup [.int i,x]),Inv.laidT (s:=s) (h' :=h2) (ch:=[e,it]) (tk:=tk) I hf (λb o hb e=>hk2 b o hb (hk b o hb e)) (λb o hb _=> ?_) hT ⟨by rw[bP];show 2<=16777216;decide,[.int i t,y],.cons ⟨t,rfl⟩ (.cons ru .nil),UF,.inl ⟨_,_,rfl⟩⟩,rfl,⟨T,x,hTn,rfl,λys hy=>by rw[I.list_inj hy hq];exact hx,rfl⟩,⟨hst2.1,hst2.2.1⟩,λb hb=> ?_⟩
  ·obtain⟨⟨old2,he2⟩,⟨o2,eo2,_⟩,_⟩:=hst2;rcases ak.mp hb with rfl | hb
   ·exact⟨_,he2⟩
   ·have:b=it:=by simpa using hb
    subst this;exact⟨o2,eo2⟩
  ·rw[zv (hTne b hb)];exact(hf b hb).1
 done:=by
  intro X hP hw hK hc i pins s σ H E I hf st hg;subst hP hw hK;obtain⟨xs,hq,hx⟩:=hg;obtain⟨its,rv,p,hz⟩:=I.list hq;obtain⟨⟨old,he⟩,hit⟩:=st;have hl:=rv.length;refine wpAny_pyNext_enum_end (I.ok.hd hc) he hit p.isList (cz (by simp;omega)) λh' hk=>⟨rfl, ?_⟩
  obtain⟨f0,f1,f2,f3,f4,f5⟩:=hf it (by simp)
  exact I.turned (t' :=s.toks) (λb o hb e=>hk b o hb e) f0 f1 f3 f4 f5
 self:=λ_ _ _ _ _ st h=>let ⟨⟨_,he⟩,_⟩:=st;wpAny_pyIter_enum he h
noncomputable def jM (xs:List T):List T:=(xs.zipIdx).map λp=>T.tup [.int (p.2:Nat),p.1]
theorem WJ {xs:List T}{i:Nat}{t:T}(h:(jM xs)[i]? =some t):∃x,xs[i]? =some x/\t= .tup [.int (i:Nat),x]:=by
 unfold jM at h;rw[ar,List.getElem?_zipIdx]at h;cases e:xs[i]? with
 | none=>rw[e]at h;cases h
 | some x=>rw[e]at h;cases h;exact⟨x,rfl,by simp⟩
theorem Je (xs:List T):(jM xs).length=xs.length:=by unfold jM;simp
theorem Xo {K:aa}{B1 H1:Hp}{a:Addr}{xs:List V}{ts:List T}(h:B1 a=some (.lst xs))(r:zF B1 xs ts):rI B1 H1 (Ite K a) (jM ts):=λB2 H2 s1 s2=>by
 have h2:=s2 _ _ (s1 _ _ h);rw[Je];refine⟨λi hi=> ?_,λi t x H3 e y=> ?_,λi hi=>⟨xs,SqL.of h2,by rw[r.length];exact hi⟩⟩
 ·obtain⟨v,e,_⟩:=r.get (ae hi);exact⟨xs,v,SqL.of h2,e⟩
 ·obtain⟨p,v,hp,rfl,y,rfl⟩:=y;obtain⟨t',et,rfl⟩:=WJ e;obtain⟨v',e1,r1⟩:=r.get et;have:=y xs (SqL.of h2);rw[e1]at this;cases this;refine⟨zr.new hp _,.tup (ja hp _) (.cons (.int _) (.cons ?_ .nil))⟩;exact(r1.mono s1).mono (zO.ge s2 (zr.new hp _))
section
variable {X:Cx}{Y:Fx}{a:Expr}{fa:En->R T}{pos p pt:Pos}{elts:List Expr}{kk:Nat}
theorem Xp {ta:TA}(hg:Gl X "enumerate")(hm:X.mg "enumerate"=none)(ha:PA X [a] ta)(hs:St1 X a:=by exact st1 rfl):
  PI X (.Tuple elts kk pt) (.Call (.Name "enumerate" p) [a] [] pos) (λσ H R=>ta σ H λvs H1=>∃l xs,vs=[.ref l]/\H1 l=some (.lst xs)/\R (Ite X.K l) H1):=by
 intro pins s σ H R I h;refine Call_ (j8 I hg hm PyProof.Rows.Boot.«enumerate» (aV (thn (ha pos _ s σ H _ I h) λus s1 ⟨vs,H1,I1,r1,q1⟩=> ?_) hs rfl));obtain⟨l,xs,e,hl,q⟩:=q1;subst e;obtain⟨u,rfl,ru⟩:=Zt r1;obtain rfl:u=Value.ref l:=ru;obtain⟨_,its,n,rv,eo⟩:=(show Z5 _ X.w H1 _ l _ from I1.hok l _ hl);have hlt:=ao eo;refine call_enumerate_1 eo λh' he hit hsz hk=>wpAny_pyIter_enum he ?_;have f:∀b∈[s1.heap.objs.size+1,s1.heap.objs.size],Jp X _ H1 b:=λb hb=>by
  rcases ak.mp hb with rfl | hb
  ·exact I1.fpOk (dB _) (I1.hok.fresh (dB _))
  ·have z:=by simpa using hb
   subst z;exact I1.fpOk (aj _) (I1.hok.fresh (aj _))
 exact⟨s1.heap.objs.size+1,[s1.heap.objs.size+1,s1.heap.objs.size],_,_,H1,rfl,I1.kept hk,YH _ _ l (iA _) (aD (bF hlt)) (aD hlt),⟨⟨_,he⟩,hit⟩,f,q⟩
def Xq (fa:En->R T):En->R (List T):=λρ=>(fa ρ).bind λt=>match t with
 | .lst xs=> .ok (jM xs)
 | _=> .bad
theorem gF (hg:Gl X "enumerate")(hm:X.mg "enumerate"=none)(ha:Snd X Y a fa)(hs:St1 X a:=by exact st1 rfl):Wm X Y (.Tuple elts kk pt) (.Call (.Name "enumerate" p) [a] [] pos) (Xq fa):= .mk λρ=>
 PI.imp (Xp hg hm (zz (ha ρ) zQ hs) hs) λσ H R ⟨B,I,q⟩=>step I q λt v H1 _ s1 r1 I1 q1=>by
  cases r1 with
  | @lst l xs ts h r=>exact⟨l,xs,rfl,I1.sB _ _ h,ZH I1 (show Po Y rI _ H1 _ R from q1) (Xo h r)⟩
  | _=>exact q1.elim
noncomputable def yS:List T->Option (List Str)
 | []=>some []
 | .str x :: r=>match yS r with | some ys=>some (x :: ys) | none=>none
 | _ :: _=>none
def gG (sep:Str):T->R T
 | .lst ts=>match yS ts with
  | some ys=>if (ys.map (·.length)).sum+ys.length*sep.length<=16777216 then .ok (.str (Txt.join sep ys)) else .bad
  | none=> .bad
 | _=> .bad
theorem wX {H:Hp}:∀{xs:List V} {ts:List T} {its:List Value} {ys:List Str},zF H xs ts->zX xs its->yS ts=some ys->StrsAre its ys
 | _,_,_,ys,.nil,.nil,h=>by
  have h' :=h;cases h';exact .nil
 | _,_,_,ys,.cons r rs,.cons rv vs,h=>by
  cases r with
  | str x=>
   unfold yS at h;split at h
   ·rename_i zs e;cases h;obtain⟨tk,rfl⟩:=rv;exact .cons x tk (wX rs vs e)
   ·cases h
  | _=>cases h
theorem Xr:MtR X "str.join" (λx xs H Q=>∃z l zs ts ys,x= .str z/\xs=[.ref l]/\H l=some (.lst zs)/\zF H zs ts/\yS ts=some ys/\(ys.map (·.length)).sum+ys.length*z.length<=16777216/\Q (.str (Txt.join z ys)) H):=by
 intro pins s σ H x xs v us Q I rx rv h;obtain⟨z,l,zs,ts,ys,rfl,rfl,hl,r,e,hb,q⟩:=h;obtain⟨t,rfl⟩:=rx;obtain⟨u,rfl,ru⟩:=Zt rv;obtain rfl:u=Value.ref l:=ru;obtain⟨its,rv,p,_⟩:=zT I (.inl hl) r;exact join_list p (by simpa using wX r rv e) hb λt' k=>⟨.str _,H,I.tok k,⟨t',rfl⟩,q⟩
theorem gH (ha:j9 X Y a fa)(hb:attributeBase (.Constant (.str z) kc pz) "join" X.env (eval (.Constant (.str z) kc pz) X.env)=eval (.Constant (.str z) kc pz) X.env:=by rfl)(hs:St1 X a:=by exact st1 rfl)
  (hz:(pa.endLine == p.line)=true:=by rfl):Snd X Y (.Call (.Attribute (.Constant (.str z) kc pz) "join" pa) [a] [] p) (ap1 (gG z) fa):= .mk λρ=>by
 have e1:(((((backTo p (starEach [a] X.env)).all λx=> !x.fst) && (backToKw p (keywordEach [] X.env)).all λx=>x.fst.isSome) && decide (([a].length+([]:List Keyword).length+if ([]:List Keyword).isEmpty=true then 0 else 1) < 30))=true):=by rw[hs];rfl
 refine PE.imp (Yi PySem.F.plainAttrs_str PySem.F.slot_str_join PySem.F.type_str_join Xr VG (zz (ha ρ) zQ hs) hb e1 hz hs rfl) λσ H Q ⟨B,I,q⟩=> ?_;refine⟨rfl,step I q λt v H1 _ s1 r1 I1 q1=> ?_⟩;cases r1 with
 | @lst l xs ts h r=>
  have q1:Po Y rC _ H1 (match yS ts with | some ys=>if (ys.map _).sum+ys.length*z.length<=16777216 then .ok _ else .bad | none=> .bad) Q:=q1
  split at q1
  ·rename_i ys e;split at q1
   ·rename_i hl;exact⟨z,l,xs,ts,ys,rfl,rfl,h,r,e,hl,po0 I1.sB q1 rfl (.str _)⟩
   ·exact q1.elim
  ·exact q1.elim
 | _=>exact q1.elim
end
noncomputable def dd:List Str->List Str->List Str
 | acc,[]=>acc
 | acc,x :: r=>dd (if x∈acc then acc else acc++[x]) r
section
variable {prog:Program}{w:World}{A:Around}{R:Result->Shared->Prop}{I:Addr}{fp wr:List Addr}{n:Nat}{P:Nat->Value->Prop}{St:Nat->Heap->Prop}
theorem jl {h h' :Heap}{S:Addr}{f g:Str->Bool}{m k:Nat}(x:h.SetOf (strKind prog w) S f m)(e:∀o,h.get? S=some o->h'.get? S=some o)(ef:f=g)(em:m=k):h'.SetOf (strKind prog w) S g k:=by
 subst ef em;obtain⟨o,es,ep,t,ho,r⟩:=x;exact⟨o,es,ep,t,e o ho,r⟩
theorem vW (W:Walks prog w A.in1 I fp wr n P St)(S:Addr)(hSf:S ∉ fp)(val:Nat->Str)(hval:∀i v,P i v->∃t,v=Value.str (val i) t)(hb:n+1 < scanBound):
  ∀(k i:Nat) (acc:List Str) (s:Shared),n - i=k->i<=n->acc.length<=i->St i s.heap->s.heap.SetOf (strKind prog w) S (λx=>decide (x∈acc)) acc.length->
   (∀h' tk,(∀b o,b ∉ S :: wr->s.heap.get? b=some o->h'.get? b=some o)->h'.SetOf (strKind prog w) S (λx=>decide (x∈dd acc ((fJ i k).map val))) (dd acc ((fJ i k).map val)).length->
    R (.ok (.ret .none)) { s with heap:=h',toks:=tk })->codeAny (model prog w) A (.builtin "set.update.loop" ⟨[.ref S,.ref I],[]⟩) R s:=by
 intro k
 induction k with
 | zero=>
  intro i acc s hk hi hal hst hS hR;obtain rfl:i=n:=by omega
  refine bv eU ?_;refine a7 (W.done s _ _ hst λh' tk hk' =>aq ?_);exact hR h' tk (λb o hb e=>hk' b o (λz=>hb (a8 _ z)) e) (jl hS (λo e=>hk' S o (λz=>hSf (W.sub _ z)) e) rfl rfl)
 | succ k ih=>
  intro i acc s hk hi hal hst hS hR;refine bv eU ?_;refine a7 (W.item i s _ _ (by omega) hst λv h1 tk1 hP hst1 hk1=> ?_)
  obtain⟨t,rfl⟩:=hval i v hP;have hS1:=jl hS (λo e=>hk1 S o (λz=>hSf (W.sub _ z)) e) rfl rfl;refine a7 (m:=holding _ _) (bQ ?_);unfold setAdd;have isk:(strKind prog w).is (val i) (.str (val i) t)=true:=strKind_is _ _ _ _;refine bQ (a7 ((strKind _ w).pyHash isk ?_));refine wpAny_setAddHashed_of isk rfl hS1 (by omega) λh2 hsb hS2=> ?_
  have e2:(if decide (val i∈acc)=true then acc.length else acc.length+1)=(if val i∈acc then acc else acc++[val i]).length:=by
   by_cases hm:val i∈acc
   ·simp[hm]
   ·simp[hm]
  have e1:(λx=>decide (x∈acc) || decide (x=val i))=(λx=>decide (x∈(if val i∈acc then acc else acc++[val i]))):=by
   funext x
   by_cases hm:val i∈acc
   ·simp only[if_pos hm]
    by_cases hx:x=val i
    ·subst hx;simp[hm]
    ·simp[hx]
   ·simp[hm,Bool.decide_or]
  have hS3:=jl hS2 (λo e=>e) e1 e2;refine aq ⟨bJ F.plain_set_update_loop _,ih _ _ _ (by omega) (by omega) ?_ (W.frame _ h1 _ hst1 λb hb o e=> ?_) hS3 λh3 tk3 hk3 hS4=> ?_⟩
  ·split
   ·omega
   ·rw[az,aK];omega
  ·exact(hsb.2 b (λz=>hSf (z ▸ hb))).trans e
  ·refine hR h3 tk3 (λb o hb e=>hk3 b o hb ?_) hS4;exact(hsb.2 b (λz=>hb (z ▸ ab))).trans (hk1 b o (λz=>hb (a8 _ z)) e)
end
section
set_option maxRecDepth 100000 in
set_option maxHeartbeats 3200000 in
theorem YI {l:Addr}{its:List Value}{ys:List Str}{Q:Value->Shared->Prop}(hh:A.handled=none)(hl:s.heap.IsList l its.toArray)(hi:StrsAre its ys)(hb:its.length+1 < scanBound)
  (h:∀(h' :Heap) (tk:Nat),h'.SetOf (strKind prog w) s.heap.objs.size (λx=>decide (x∈dd [] ys)) (dd [] ys).length->(∀b o,b < s.heap.objs.size->s.heap.get? b=some o->h'.get? b=some o)->
   Q (.ref s.heap.objs.size) { s with heap:=h',toks:=tk }):wpAny (model prog w) A (call (.type "set") [.ref l]) Q E s:=by
 have getv:∀{its:List Value} {ys:List Str},StrsAre its ys->its.length=ys.length/\∀(i:Nat) (v:Value),its[i]? =some v->∃t,v=Value.str (ys.getD i ⟨#[]⟩) t:=λ{its ys} hi=>by
  induction hi with
  | nil=>exact⟨rfl,λi v e=>by simp at e⟩
  | cons y t _ ih=>
   refine⟨by simp[ih.1],λi v e=> ?_⟩
   cases i with
   | zero=>exact⟨t,by simpa using e.symm⟩
   | succ i=>exact ih.2 i v (by simpa using e)
 obtain⟨hlen,hget⟩:=getv hi;have hys:(fJ 0 its.length).map (λi=>ys.getD i ⟨#[]⟩)=ys:=by
  rw[hlen];refine cI λi=> ?_;rw[ar]
  by_cases hi' :i < ys.length
  ·rw[List.getElem?_range' hi',ae hi'];simp[ae hi']
  ·rw[aU (by simp;omega),aU (by omega)]
   rfl
 obtain⟨c,tl,hmro⟩:=cA.mro;have hmade:=cA.made;have hsub:=cA.sub;have h1:=cA.notType;have h2:=cA.canCreate;have hct:=F.typeCall_set_1 (.ref l);refine wpAny_call (codeAny_of_tree (show wpAny _ _ (callAny (.type "set") _) _ _ _ from ?_));refine aq ⟨Code.quiet_builtin _ (by decide+kernel),bv F.entry_type_call ?_⟩
 rw[Around.under_plain (weight_type_call_type "set" [.ref l] []) rfl]
 repeat any_goals (first | assumption | wp_step)
 refine d9 (code_set_new_1 (.ref l) (E:=E) (Q₁:=λobj s₁=>∃led:Bool,obj= .ref s.heap.objs.size/\s₁={ s with heap:=s.heap.push { cls:= .type "set",dict:=none,data:= .set #[] 0 (.fresh 0 0 led) } }) λled=>⟨led,rfl,rfl⟩) λr s₁ hr=> ?_;cases r with
 | error e=>exact hr
 | ok fl=>
  cases fl with
  | ret obj=>
   obtain⟨led,rfl,rfl⟩:=hr;generalize hG:s.heap.push { cls:= .type "set",dict:=none,data:= .set #[] 0 (.fresh 0 0 led) }=G;have hS:G.get? s.heap.objs.size=some { cls:= .type "set",dict:=none,data:= .set #[] 0 (.fresh 0 0 led) }:=by rw[← hG];exact af _ rfl
   have hGs:G.objs.size=s.heap.objs.size+1:=by rw[← hG,bg]
   have hGk:∀b o,s.heap.get? b=some o->G.get? b=some o:=λb o e=>by rw[← hG];exact a9 _ e
   have hT:fX { s with heap:=G } (.ref s.heap.objs.size) "set":=⟨_,hS,rfl⟩;have hli:=cA.init.lookup;have hbi:=cA.init.bind (.ref s.heap.objs.size)
   repeat any_goals (first | assumption | wp_step)
   refine d9 (codeAny_call_builtin (R:=wants (λr s₂=>r= .none/\∃h' tk,s₂={ s with heap:=h',toks:=tk }/\h'.SetOf (strKind prog w) s.heap.objs.size (λx=>decide (x∈dd [] ys)) (dd [] ys).length/\
     (∀b o,b < s.heap.objs.size->s.heap.get? b=some o->h'.get? b=some o)) E) cA.init.plain F.entry_set_init (check_set_init_1 hT ?_)) λr₂ s₂ hr₂=> ?_
   ·obtain⟨⟨ocls,odict,odata,oslots⟩,hol,hcl,nl,hdl⟩:=hl;simp only at hcl hdl;subst hcl;subst hdl;have hol' :=hGk _ _ hol;have hsls:=F.sub_list_set;have hslf:=F.sub_list_frozenset;have hne:(Value.type "list" == Value.type "dict")=false:=by decide
    have hl1:G.IsList l its.toArray:=⟨_,hol',rfl,nl,rfl⟩;have hlS:l < s.heap.objs.size:=ao hol;unfold Builtin.«set.__init__» noKeywords Builtin.Frozenset.updateFrom;generalize hPI:pyIter=PI
    wp_walk
    subst hPI;refine c8 hl1 (a7 (wpAny_runValue ?_));have hSf:s.heap.objs.size ∉ [G.objs.size,l]:=by
     rw[hGs];intro z;rcases ak.mp z with z | z
     ·exact absurd z (aD (bT _))
     ·exact absurd (aM.mp z) (d7 hlS)
    refine vW (dX (A:=A.in1.in1.in1) (by simp[hh]) G.objs.size l (by rw[hGs];exact aD (bF hlS)) its.toArray) s.heap.objs.size hSf (λi=>ys.getD i ⟨#[]⟩) (λi v e=>hget i v (by simpa using e)) (by simpa using hb) its.length 0 [] _ (by simp) (aQ _) (aj _)
     ⟨⟨_,af _ rfl,rfl,rfl⟩,hl1.push _⟩ ?_ ?_
    ·have hget' :(G.push { cls:= .type "list_iterator",data:= .fields #[.ref l,.int 0 0] }).get? s.heap.objs.size=some { cls:= .type "set",dict:=none,data:= .set #[] 0 (.fresh 0 0 led) }:=a9 _ hS;exact jl ((PyProof.Rows.setObjOf_fresh (knd:=strKind prog w) led).setOf hget' (by unfold scanBound;omega)) (λo e=>e) (by funext x;simp) rfl
    ·intro h' tk' hm hS';rw[hys]at hS';refine aq (show wpAny _ _ (ret Value.none) _ _ _ from aq ⟨rfl,h',tk',rfl,hS',λb o hb e=> ?_⟩);refine hm b o (λz=> ?_) (a9 _ (hGk b o e));rcases ak.mp z with z | z
     ·exact absurd z (aD hb)
     ·have z' :b=G.objs.size:=aM.mp z;rw[hGs]at z';exact absurd z' (aD (bF hb))
   ·cases r₂ with
    | error e=>exact hr₂
    | ok fl₂=>
     cases fl₂ with
     | ret r=>
      obtain⟨rfl,h',tk,rfl,hS',hk'⟩:=hr₂
      repeat any_goals (first | assumption | wp_step)
      exact h _ _ hS' hk'
     | _=>exact hr₂.elim
  | _=>exact hr.elim
end
section
theorem YJ (hh:X.A.handled=none):Zc X (.type "set") (λvs H Q=>∃l xs ts ys,vs=[.ref l]/\H l=some (.lst xs)/\zF H xs ts/\yS ts=some ys/\ts.length+1 < 4096/\
  ∀q,H q=none->Q (.ref q) (upd H q (.ext λh=>h.SetOf (strKind X.prog X.w) q (λx=>decide (x∈dd [] ys)) (dd [] ys).length))):=by
 intro pins s σ H vs us Q I rv h;obtain⟨l,xs,ts,ys,rfl,hl,r,ey,hb,q⟩:=h;obtain⟨u,rfl,ru⟩:=Zt rv;obtain rfl:u=Value.ref l:=ru;obtain⟨its,rv,pl,hln,_⟩:=zT I (.inl hl) r;refine YI hh pl (wX r rv ey) (by unfold scanBound;omega) λh' tk hS hk=> ?_
 refine⟨.ref _,_,I.laid (λb u e=>hk b u (ao e) e) (aj _) ?_,rfl,q _ (I.hok.fresh (aj _))⟩;obtain⟨o,es,ep,t,ho,rr⟩:=id hS;exact⟨hS,⟨o,ho⟩,λh1 h2 ⟨o1,es1,ep1,t1,ho1,rr1⟩ e=>⟨o1,es1,ep1,t1,e _ ho1,rr1⟩⟩
theorem YK:Zc X (.builtin "len") (λvs H Q=>∃q φ f n,vs=[.ref q]/\H q=some (.ext φ)/\(∀h:Heap,φ h->h.SetOf (strKind X.prog X.w) q f n)/\Q (.int n) H):=by
 intro pins s σ H vs us Q I rv h;obtain⟨l,φ,f,n,rfl,hl,hφ,q⟩:=h;obtain⟨u,rfl,ru⟩:=Zt rv;obtain rfl:u=Value.ref l:=ru;obtain⟨h1,_,_⟩:=(show Z5 _ X.w H _ l _ from I.hok l _ hl);obtain⟨o,es,ep,t,ho,hex,hd,_,_,hb,hf,hn⟩:=hφ _ h1;refine call_len_set ho hex hd hf ?_ ⟨.int _,H,I.tok _,⟨_,rfl⟩,by rw[hn];exact q⟩
 have:es.size < 4096:=hb;omega
def vX:T->R T
 | .lst ts=>match yS ts with
  | some ys=>if ts.length+1 < 4096 then .ok (.int (dd [] ys).length) else .bad
  | none=> .bad
 | _=> .bad
theorem gJ (hh:X.A.handled=none)(gl:Gl X "len")(mg:X.mg "len"=none)(gl' :Gl X "set")(mg' :X.mg "set"=none)(ha:j9 X Y a fa)(hs:St1 X a:=by exact st1 rfl)(hs' :St1 X (.Call (.Name "set" p') [a] [] pos'):=by exact st1 rfl):
  Snd X Y (.Call (.Name "len" p) [.Call (.Name "set" p') [a] [] pos'] [] pos) (ap1 vX fa):= .mk λρ=>
 PE.imp (ZF YK gl mg PySem.boot_len (zz (ZD (YJ hh) gl' mg' PyProof.Rows.Boot.«set» (zz (ha ρ) zQ hs) (by decide) (by decide) hs rfl) zQ hs') (by decide) (by decide) hs' rfl) λσ H Q ⟨B,I,q⟩=>
  step I q λt v H1 _ s1 r1 I1 q1=>by
   cases r1 with
   | @lst l xs ts h r=>
    have q1:Po Y rC _ H1 (match yS ts with | some ys=>if ts.length+1 < 4096 then .ok _ else .bad | none=> .bad) Q:=q1
    split at q1
    ·rename_i ys e;split at q1
     ·rename_i hl;refine⟨l,xs,ts,ys,rfl,h,r,e,hl,λz hz=>⟨z,_,_,_,rfl,zA,λh hh=>hh, ?_⟩⟩;exact q1 _ _ (zr.new hz _) (.int _)
     ·exact q1.elim
    ·exact q1.elim
   | _=>exact q1.elim
end
theorem gK:Zo CX0 X E:=λ_ _ _ _ _ _ _ h=>h.elim
section
theorem Xs (hy:Y.cl=cl)(F:jq X.prog X.w X.K X.mg X.base CX0 j f fd ps (spP cl n g))(hr:ZP k X.A)(hj:j<=k)(gl:Gl X x)
  (mg:X.mg x=some (.ref f)) (kp:bC X.K (.ref f)=true) (bd:L2.Binds X.K fd ps []) (ha:uq X Y (a :: es) ga) (hd:(x == ("__debug__":Str))=false:=by decide)
  (hs:starEach (a :: es) X.env=(false,eval a X.env) :: starEach es X.env:=by exact zR rfl) (hz:((backTo pos (starEach es X.env)).any λx=>x.fst)=false:=by exact Zm rfl):Snd X Y (.Call (.Name x p) (a :: es) [] pos) (za n g ga):=by
 subst hy;exact gm F (hr.mono hj) gl mg kp bd gK ha hd hs hz
theorem wY (gl:Gl X x)(mg:X.mg x=some u)(hu:∃t,u=Value.int i t)(hd:(x == ("__debug__":Str))=false:=by decide):Snd X Y (.Name x pos) (cE (.int i)):= .mk λρ=>
 PE.imp (xE (v:= .int i) gl mg hu hd) λσ H Q ⟨B,I,q⟩=>ZH I q (.int i)
end
noncomputable def z0H (scope sc0:Scope):Bool:=(scope.kind == .function) && scope.names.all (λx=>x.2 != .cell) && scope.names.all (λx=>x.2 != .local || scope.names.lookup x.1 == some .local) &&
 scope.names.all (λx=>x.2 != .free || sc0.names.lookup x.1 == some .cell || sc0.names.lookup x.1 == some .free)
theorem gL (sc0:Scope)(h0:X.env.scope=sc0)(h:z0H scope sc0=true):CSc X scope:=by
 unfold z0H at h;simp only[ag,aR]at h;obtain⟨⟨⟨h1,h2⟩,h3⟩,h4⟩:=h;refine⟨eq_of_beq h1,λx hx=>by simpa using h2 x hx,λx hx hl=> ?_,λx hx hf=> ?_⟩
 ·have:=h3 x hx;rw[hl]at this;simpa using this
 ·have:=h4 x hx;rw[hf]at this;show X.env.scope.names.lookup x.1=_\/X.env.scope.names.lookup x.1=_;rw[h0];simpa using this
noncomputable def kW (N N' :List Str)(scope sc0:Scope)(k:Nat)(js:List Nat):Bool:=(N'.length == k+js.length) && (a_ js.length).all λi=>match js[i]? with
 | none=>true
 | some j=>match N'[k+i]?,N[j]? with
  | some x,some y=>(x == y) && (sc0.names.lookup x == some .cell || sc0.names.lookup x == some .free) && (scope.names.lookup x == some .free)
  | _,_=>false
theorem YL {js:List Nat}(N:List Str)(sc0:Scope)(hN:X.N=N)(h0:X.env.scope=sc0)(h:kW N N' scope sc0 k js=true):gz X scope N' k js:=by
 unfold kW at h;simp only[ag,aR]at h;obtain⟨h1,h2⟩:=h;refine⟨eq_of_beq h1,λi j e=> ?_⟩;have hi:=(ai.mp e).1;have q:=h2 i (bf.mpr hi);rw[e]at q;dsimp only at q;split at q
 ·rename_i x y e1 e2;simp only[ag,iL,beq_iff_eq]at q;obtain⟨⟨rfl,q2⟩,q3⟩:=q;refine⟨x,e1,by rw[hN];exact e2, ?_,q3, ?_⟩
  ·rw[h0];exact .inr q2
  ·show X.env.scope.names.lookup x=_\/X.env.scope.names.lookup x=_;rw[h0];exact q2
 ·cases q
theorem VY {js:List Nat}{g:T->En->R En}(N' :List Str)(N:List Str)(sc0:Scope)(hN:X.N=N)(h0:X.env.scope=sc0)
  (h:(z0H scope sc0 && kW N N' scope sc0 k js)=true) (cm:X.calm=true) (it:Wm X Y tg iter fi) (gt:VW X scope N' λXC=>PG XC tg tG) (gk:GOk tG g) (gn:GNo g) (tt:∀Y',Y'.cl=Y.cl->VW X scope N' λXC=>Jm XC Y' ifs ft)
  (el:∀Y',Y'.cl=Y.cl->gy X scope N' Y'.E λXC=>Snd XC Y' elt fe) (hs:∀x,foldedSetIterable iter X.env x=pure x:=by intro _;rfl):wz X Y tg iter elt ifs scope N' k js fi tG g ft fe:=by
 rw[ag]at h;exact⟨gL sc0 h0 h.1,YL N sc0 hN h0 h.2,cm,it,gt,gk,gn,tt,el,hs⟩
end PV
namespace PV
open PySem PySem.Spec PyProof.Rows L2 PySem.W
section
end
section
variable {P:Program}{w:World}{K:aa}{mg:Str->Option Value}{base:Heap}{N:List Str}{qual:Str}{scope:Scope}{f:Addr}{cd:Value}{A:Around}{outer:List Env}{s:Shared}{H:Hp}{E:XK}{Y:Fx}
theorem Fun.okX {x qual:Str}{st:Stmt}{f:Addr}{fd:FuncData}{N ps:List Str}{k:Nat}{sp:Sp}(F:Fun K x qual st f fd)(S:ZY N ps (zu st))(len:∀vs H Q E,sp vs H Q E->vs.length=ps.length)
  (hbody:∀(cdv:Value) (A:Around) (outer:List Env) (s:Shared) (H:Hp) (vs:List V) (Q:VK) (E:XK),ZP k (A.deeper (envOfC qual (zu st) s.heap.objs.size f cdv))->sp vs H Q E->
   ∃t,PSs (Wv (CX1 P w) P w K mg base N qual (zu st) f cdv A outer s H E) (zS st) t/\t { nx:=λ_ H' =>Q .non H',rt:=Q } (start N vs) H):jq P w K mg base (CX1 P w) (k+1) f fd ps sp:=by
 obtain⟨oc,od,kV,doc,pm,an,cdv,ct,osl,rfl,lk,hcd⟩:=F.ex;exact Kx lk hcd S len λA outer s H vs Q E hr hsp=>hbody cdv A _ s H vs Q E hr hsp
end
end PV
namespace PySem.W
open PySem PySem.Calls PyProof.Rows PySem.Spec Builtin Builtin.ObjectAttr Builtin.Getset_descriptor
end PySem.W
namespace PySem.W
open PySem PySem.Calls PyProof.Rows PySem.Spec Builtin Builtin.ObjectAttr Builtin.Getset_descriptor
end PySem.W
namespace PySem.W
open PySem PySem.Calls PyProof.Rows PySem.Spec Builtin Builtin.ObjectAttr Builtin.Getset_descriptor
end PySem.W
namespace PV
open PySem PySem.Spec PyProof.Rows L2 PySem.W
section
end
end PV
namespace PySem.ZG
open PySem PySem.Spec PySem.Builtin.SmallTypes
structure uG (i:Addr) (fp:List Addr) (v:Nat->Option Value) (St:Nat->Heap->Prop):Prop where
 mem:i∈fp
 item:∀{prog:Program} {w:World} {A:Around} {E:Value->Shared->Prop} {s:Shared} {Q:Value->Shared->Prop} {k:Nat} {x:Value},St k s.heap->v k=some x->(∀h',St (k+1) h' ->bZ i s.heap h' ->Q x { s with heap:=h' })->wpAny (model prog w) A (nextOf (.ref i)) Q E s
 stop:∀{prog:Program} {w:World} {A:Around} {E:Value->Shared->Prop} {s:Shared} {Q:Value->Shared->Prop} {k:Nat},A.handled=none->St k s.heap->v k=none->(∀h' e,fK i s.heap h' ->(∃o,h'.get? e=some o/\o.cls= .type "StopIteration")->E (.ref e) { s with heap:=h' })->wpAny (model prog w) A (nextOf (.ref i)) Q E s
 keep:∀{k:Nat} {h h' :Heap},St k h->(∀b∈fp,∀o,h.get? b=some o->h'.get? b=some o)->St k h'
 there:∀{k:Nat} {h:Heap},St k h->∀b∈fp,∃o,h.get? b=some o
theorem uG.but {v:Nat->Option Value}{St:Nat->Heap->Prop}(N:uG i fp v St)(x:St k h)(e:fK b h h')(n:b ∉ fp):St k h' :=
 N.keep x λc hc o q=>e c o (λz=>n (z ▸ hc)) q
theorem Xt (hil:l ≠ i)(xs:Array Value):uG i [i,l] (λk=>xs[k]?) (λk h=>h.IsListIter i l k/\h.IsList l xs) where
 mem:= .head _
 item:=λst hx h=>wpAny_nextOf_list_item st.1 st.2 hx λh' a b=>h h' ⟨a,st.2.extBut b.extBut hil⟩ b
 stop:=λhh st hx h=>wpAny_nextOf_list_end hh st.1 st.2 hx h
 keep:=λst k=>⟨st.1.at λo e=>k i (.head _) o e,st.2.at λo e=>k l (.tail _ (.head _)) o e⟩
 there:=λst b hb=>by
  obtain⟨⟨o,e,_⟩,o2,e2,_⟩:=st;rcases ak.mp hb with z | hb
  ·exact⟨o,z ▸ e⟩
  ·exact⟨o2,(aM.mp hb) ▸ e2⟩
end PySem.ZG
namespace PySem.ZG
open PySem PySem.Spec PySem.Builtin.SmallTypes
section
theorem Ui (hit:s.heap.IsTupleIter it l k)(h:wpAny (model prog w) A.in1 (Builtin.«tuple_iterator.__next__» ⟨[.ref it],[]⟩) (λfin s' =>∃v,fin= .done (.ret v)/\Q v s') E s):wpAny (model prog w) A (nextOf (.ref it)) Q E s:=by
 exact a7 (bn hit.typeIs dh (bH dh hit.typeIs PySem.F.entry_tuple_iterator_next
  (dq h (λfin s' ⟨v,e,q⟩=>⟨v,e,aq q⟩) λ_ _ z=>z) (PySem.F.args_tuple_iterator_next_1 _)))
theorem tup_item (hit:s.heap.IsTupleIter it l k)(ht:s.heap.IsTuple l xs)(hx:xs[k]? =some x)(h:∀h',h'.IsTupleIter it l (k+1)->bZ it s.heap h' ->Q x { s with heap:=h' }):wpAny (model prog w) A (nextOf (.ref it)) Q E s:=by
 refine Ui hit ?_;obtain⟨o,ho,hc,hd⟩:=id hit;obtain⟨ol,hol,_,nl,hdl⟩:=ht;refine a7 (m:=field _ 0) (b9 ho hd rfl ?_);refine a7 (b9 ho hd rfl (a7 (bq hol hdl ?_)));simp only[bm,hx];have g:=Heap.get?_update_self (Obj.mapFields (·.setIfInBounds 1 (rawInt (k+1)))) ho (Obj.isFreed_of_fields (g_ hd _));refine a7 (wpAny_setField ho hd (by simp) (aq ⟨x,rfl,h _ ⟨_,g,(Obj.cls_mapFields ..).trans hc, ?_⟩ (fT ..)⟩))
 rw[g_ hd];simp[rawInt]
theorem tup_stop (hh:A.handled=none)(hit:s.heap.IsTupleIter it l k)(ht:s.heap.IsTuple l xs)(hx:xs[k]? =none)
  (h:∀h' e,fK it s.heap h' ->(∃o,h'.get? e=some o/\o.cls= .type "StopIteration")->E (.ref e) { s with heap:=h' }):wpAny (model prog w) A (nextOf (.ref it)) Q E s:=by
 refine Ui hit ?_;obtain⟨o,ho,hc,hd⟩:=id hit;obtain⟨ol,hol,_,nl,hdl⟩:=ht;refine a7 (m:=field _ 0) (b9 ho hd rfl ?_);refine a7 (b9 ho hd rfl (a7 (bq hol hdl ?_)));simp only[bm,hx];refine a7 (c_ (a7 (wpAny_setField ho hd (by simp) (a7 ?_))))
 refine a7 (aZ (a7 (bR (by first | rfl | (simp only[firstArgMember])) (aZ ?_ (by size_fits)))) (by size_fits))
 refine a7 (wpAny_handled ?_);rw[hh];exact a7 (aq (wpAny_throw (h _ _ (((fT ..).extBut.push _).push _) ⟨_,af _ rfl,rfl⟩)))
end
theorem nx_tup (hil:l ≠ i)(xs:Array Value):uG i [i,l] (λk=>xs[k]?) (λk h=>h.IsTupleIter i l k/\h.IsTuple l xs) where
 mem:= .head _
 item:=λst hx h=>tup_item st.1 st.2 hx λh' a b=>h h' ⟨a,st.2.extBut b.extBut hil⟩ b
 stop:=λhh st hx h=>tup_stop hh st.1 st.2 hx h
 keep:=λst k=>by
  obtain⟨⟨o,e,r⟩,o2,e2,r2⟩:=st;exact⟨⟨o,k i (.head _) o e,r⟩,o2,k l (.tail _ (.head _)) o2 e2,r2⟩
 there:=λst b hb=>by
  obtain⟨⟨o,e,_⟩,o2,e2,_⟩:=st;rcases ak.mp hb with z | hb
  ·exact⟨o,z ▸ e⟩
  ·exact⟨o2,(aM.mp hb) ▸ e2⟩
end PySem.ZG
namespace PySem.ZG
open PySem PySem.Spec PySem.Builtin.SmallTypes
structure Ap (z TI TO i1 i2:Addr) (fp1 fp2:List Addr):Prop where
 Iz:TI ≠ z
 Oz:TO ≠ z
 IO:TI ≠ TO
 I1:TI ≠ i1
 I2:TI ≠ i2
 z1:z ∉ fp1
 z2:z ∉ fp2
 O1:TO ∉ fp1
 O2:TO ∉ fp2
 a:i1 ∉ fp2
 b:i2 ∉ fp1
section
variable {v1 v2:Nat->Option Value}{S1 S2:Nat->Heap->Prop}
theorem Ap.ne1 (D:Ap z TI TO i1 i2 fp1 fp2)(N1:uG i1 fp1 v1 S1):i1 ≠ z/\i1 ≠ TO:=⟨λe=>D.z1 (e ▸ N1.mem),λe=>D.O1 (e ▸ N1.mem)⟩
theorem Ap.ne2 (D:Ap z TI TO i1 i2 fp1 fp2)(N2:uG i2 fp2 v2 S2):i2 ≠ z/\i2 ≠ TO:=⟨λe=>D.z2 (e ▸ N2.mem),λe=>D.O2 (e ▸ N2.mem)⟩
theorem Xu {Q:Value->Shared->Prop}(N1:uG i1 fp1 v1 S1)(N2:uG i2 fp2 v2 S2)(D:Ap z TI TO i1 i2 fp1 fp2)(hz:IsZip s.heap z TI TO .none)(hTI:IsPair s.heap TI (.ref i1) (.ref i2))(hTO:IsPair s.heap TO a b)(p1:S1 k s.heap)(p2:S2 k s.heap)(hx:v1 k=some x)(hy:v2 k=some y)
  (hQ:∀h',IsZip h' z TI TO (rawInt s.heap.objs.size)->IsPair h' TO x y->S1 (k+1) h' ->S2 (k+1) h' ->IsPair h' s.heap.objs.size x y->
   (∀c o,c ≠ z->c ≠ TO->c ≠ i1->c ≠ i2->s.heap.get? c=some o->h'.get? c=some o)->Q (.ref s.heap.objs.size) { s with heap:=h' }):
  wpAny (model prog w) A (Builtin.«zip.__next__» ⟨[.ref z],[]⟩) (λfin s' =>∃v,fin= .done (.ret v)/\Q v s') E s:=by
 refine a7 (m:=field (.ref z) 2) (b9 hz rfl (x:= .bool false) rfl (a7 (b9 hz rfl (x:= .ref TI) rfl (a7 (bq hTI rfl ?_)))));refine a7 ?_;refine a7 (b9 hz rfl (x:= .none) rfl (aq ?_));refine a7 (c_ (a7 (b9 hz rfl (x:= .ref TO) rfl (a7 (br hz (by simp) λg1 z1 e1=> ?_)))))
 replace z1:=z1
 refine a7 ?_;refine a7 (a7 (wpAny_onRaise (a7 (N1.item (N1.but p1 e1.extBut D.z1) hx λg2 q1 e2=>aq ?_))));have t2:IsPair g2 TO a b:=e2.extBut _ _ (D.ne1 N1).2.symm (e1.extBut _ _ D.Oz hTO);refine a7 (bq t2 rfl (a7 (wpAny_updateSeq_pair t2 λg3 t3 e3=> ?_)));refine a7 (d6 (aq ?_));refine a7 (a7 (wpAny_onRaise (a7 (N2.item (N2.but (N2.but (N2.but p2 e1.extBut D.z2) e2.extBut D.a) e3.extBut D.O2) hy λg4 q2 e4=>aq ?_))));have t4:IsPair g4 TO x b:=e4.extBut _ _ (D.ne2 N2).2.symm t3;refine a7 (bq t4 rfl (a7 (wpAny_updateSeq_pair t4 λg5 t5 e5=> ?_)))
 replace t5:IsPair g5 TO x y:=t5
 refine a7 (d6 (aq (aq ?_)));refine a7 (bq t5 rfl (a7 (wpAny_newTuple ?_)));have sz:g5.objs.size=s.heap.objs.size:=by rw[e5.1,e4.1,e3.1,e2.1,e1.1]
 have z5:=e5.extBut _ _ D.Oz.symm (e4.extBut _ _ (D.ne2 N2).1.symm (e3.extBut _ _ D.Oz.symm (e2.extBut _ _ (D.ne1 N1).1.symm z1)));have k5:∀c o,c ≠ z->c ≠ TO->c ≠ i1->c ≠ i2->s.heap.get? c=some o->g5.get? c=some o:=λc o c1 c2 c3 c4 e=>
  e5.extBut _ _ c2 (e4.extBut _ _ c4 (e3.extBut _ _ c2 (e2.extBut _ _ c3 (e1.extBut _ _ c1 e))))
 have r1:S1 (k+1) g5:=N1.but (N1.but (N1.but q1 e3.extBut D.O1) e4.extBut D.b) e5.extBut D.O1;have r2:S2 (k+1) g5:=N2.but q2 e5.extBut D.O2;refine a7 ?_;have z6:IsZip (g5.push { cls:= .type "tuple",data:= .seq #[x,y] }) z TI TO _:=a9 _ z5;refine a7 (br z6 (by simp) λg7 z7 e7=> ?_)
 refine br z7 (by simp) λg8 z8 e8=> ?_
 have up:∀c o,c ≠ z->g5.get? c=some o->g8.get? c=some o:=λc o c1 e=>e8.extBut _ _ c1 (e7.extBut _ _ c1 (a9 _ e));have hn:g5.objs.size ≠ z:=d7 (ao z5);have t8:=e8.extBut _ _ hn (e7.extBut _ _ hn (af _ rfl));rw[sz]at z8 t8;refine aq ⟨_,rfl, ?_⟩;rw[sz];exact hQ g8 z8 (up _ _ D.Oz t5) (N1.keep r1 λc hc o e=>up c o (λq=>D.z1 (q ▸ hc)) e) (N2.keep r2 λc hc o e=>up c o (λq=>D.z2 (q ▸ hc)) e) t8 λc o c1 c2 c3 c4 e=>up c o c1 (k5 c o c1 c2 c3 c4 e)
theorem Xv {Q:Fin->Shared->Prop}(hh:A.handled=none)(N1:uG i1 fp1 v1 S1)(N2:uG i2 fp2 v2 S2)(D:Ap z TI TO i1 i2 fp1 fp2)(hz:IsZip s.heap z TI TO .none)(hTI:IsPair s.heap TI (.ref i1) (.ref i2))(hTO:IsPair s.heap TO a b)(p1:S1 k s.heap)(p2:S2 k s.heap)(hend:v1 k=none\/v2 k=none)
  (hE:∀h' e,(∀c o,c ≠ z->c ≠ TO->c ≠ i1->c ≠ i2->s.heap.get? c=some o->h'.get? c=some o)->(∃o,h'.get? e=some o/\o.cls= .type "StopIteration")->E (.ref e) { s with heap:=h' }):
  wpAny (model prog w) A (Builtin.«zip.__next__» ⟨[.ref z],[]⟩) Q E s:=by
 refine a7 (m:=field (.ref z) 2) (b9 hz rfl (x:= .bool false) rfl (a7 (b9 hz rfl (x:= .ref TI) rfl (a7 (bq hTI rfl ?_)))));refine a7 ?_;refine a7 (b9 hz rfl (x:= .none) rfl (aq ?_));simp only[if_true];refine a7 (c_ (a7 (b9 hz rfl (x:= .ref TO) rfl (a7 (br hz (by simp) λg1 z1 e1=> ?_)))))
 replace z1:=z1
 refine a7 ?_;have off:∀{g:Heap} {e:Addr} {oe:Obj},IsZip g z TI TO .ellipsis->g.get? e=some oe->oe.cls= .type "StopIteration"->e ≠ z:=λhg he hc q=>by
  subst q;rw[hg]at he;cases he;simp at hc
 cases hx:v1 k with
 | none=>
  refine a7 (a7 (wpAny_onRaise (a7 (N1.stop hh (N1.but p1 e1.extBut D.z1) hx λg2 e e2 he=> ?_))));obtain⟨oe,ho,hc⟩:=he;have z2:=e2 _ _ (D.ne1 N1).1.symm z1;exact br z2 (by simp) λg3 _ e3=>hE g3 e (λc o c1 _ c3 _ q=>e3.extBut _ _ c1 (e2 _ _ c3 (e1.extBut _ _ c1 q))) ⟨oe,e3.extBut _ _ (off z2 ho hc) ho,hc⟩
 | some x=>
  have hy:v2 k=none:=by
   rcases hend with q | q
   ·rw[hx]at q;cases q
   ·exact q
  refine a7 (a7 (wpAny_onRaise (a7 (N1.item (N1.but p1 e1.extBut D.z1) hx λg2 q1 e2=>aq ?_))));have t2:=e2.extBut _ _ (D.ne1 N1).2.symm (e1.extBut _ _ D.Oz hTO);refine a7 (bq t2 rfl (a7 (wpAny_updateSeq_pair t2 λg3 t3 e3=>a7 (d6 (aq ?_)))));refine a7 (a7 (wpAny_onRaise (a7 (N2.stop hh (N2.but (N2.but (N2.but p2 e1.extBut D.z2) e2.extBut D.a) e3.extBut D.O2) hy λg4 e e4 he=> ?_))));obtain⟨oe,ho,hc⟩:=he;have z4:=e4 _ _ (D.ne2 N2).1.symm (e3.extBut _ _ D.Oz.symm (e2.extBut _ _ (D.ne1 N1).1.symm z1));exact br z4 (by simp) λg5 _ e5=>hE g5 e (λc o c1 c2 c3 c4 q=>e5.extBut _ _ c1 (e4 _ _ c4 (e3.extBut _ _ c2 (e2.extBut _ _ c3 (e1.extBut _ _ c1 q))))) ⟨oe,e5.extBut _ _ (off z4 ho hc) ho,hc⟩
theorem Xw {Q:Option Value->Shared->Prop}(N1:uG i1 fp1 v1 S1)(N2:uG i2 fp2 v2 S2)(D:Ap z TI TO i1 i2 fp1 fp2)(hz:IsZip s.heap z TI TO .none)(hTI:IsPair s.heap TI (.ref i1) (.ref i2))(hTO:IsPair s.heap TO a b)(p1:S1 k s.heap)(p2:S2 k s.heap)(hx:v1 k=some x)(hy:v2 k=some y)
  (hQ:∀h',IsZip h' z TI TO (rawInt s.heap.objs.size)->IsPair h' TO x y->S1 (k+1) h' ->S2 (k+1) h' ->IsPair h' s.heap.objs.size x y->
   (∀c o,c ≠ z->c ≠ TO->c ≠ i1->c ≠ i2->s.heap.get? c=some o->h'.get? c=some o)->Q (some (.ref s.heap.objs.size)) { s with heap:=h' }):wpAny (model prog w) A (pyNext (.ref z)) Q E s:=by
 have ty:s.TypeIs (.ref z) _:=⟨_,hz,rfl⟩;exact a7 (wpAny_attempt (bn ty cG (bH cG ty fj
  (Xu N1 N2 D hz hTI hTO p1 p2 hx hy λh' a1 a2 a3 a4 a5 a6=>aq (hQ h' a1 a2 a3 a4 a5 a6)) (eV _))))
theorem Xx {Q:Option Value->Shared->Prop}(hh:A.handled=none)(N1:uG i1 fp1 v1 S1)(N2:uG i2 fp2 v2 S2)(D:Ap z TI TO i1 i2 fp1 fp2)(hz:IsZip s.heap z TI TO .none)(hTI:IsPair s.heap TI (.ref i1) (.ref i2))(hTO:IsPair s.heap TO a b)(p1:S1 k s.heap)(p2:S2 k s.heap)(hend:v1 k=none\/v2 k=none)
  (hQ:∀h',(∀c o,c ≠ z->c ≠ TO->c ≠ i1->c ≠ i2->s.heap.get? c=some o->h'.get? c=some o)->Q none { s with heap:=h' }):wpAny (model prog w) A (pyNext (.ref z)) Q E s:=by
 have ty:s.TypeIs (.ref z) _:=⟨_,hz,rfl⟩;refine a7 (wpAny_attempt (bn ty cG (bH cG ty fj
  (Xv hh N1 N2 D hz hTI hTO p1 p2 hend λh' e kp he=> ?_) (eV _))))
 obtain⟨o,ho,hc⟩:=he;exact a7 (wpAny_isInstance ⟨o,ho,hc⟩ isSubtype_stop (aq (hQ _ kp)))
end
end PySem.ZG
namespace PySem.ZG
open PySem PySem.Spec PySem.Builtin.SmallTypes
structure Xy (l:Addr) (o:Obj) (P:Heap->Prop):Prop where
 go:∀{prog:Program} {w:World} {A:Around} {E:Value->Shared->Prop} {s:Shared} {Q:Value->Shared->Prop},P s.heap->Q (.ref s.heap.objs.size) { s with heap:=s.heap.push o }->wpAny (model prog w) A (pyIter (.ref l)) Q E s
 push:∀{h:Heap} (o' :Obj),P h->P (h.push o')
 fresh:o.isFreed=false
noncomputable abbrev oL (l:Addr):Obj:={ cls:= .type "list_iterator",data:= .fields #[.ref l,.int 0 0] }
noncomputable abbrev oT (l:Addr):Obj:={ cls:= .type "tuple_iterator",data:= .fields #[.ref l,.int 0 0] }
theorem Xz (l:Addr)(xs:Array Value):Xy l (oL l) (λh=>h.IsList l xs):=⟨λp q=>c8 p q,λo p=>Heap.IsList.push p o,rfl⟩
theorem gM (l:Addr)(xs:Array Value):Xy l (oT l) (λh=>h.IsTuple l xs):=⟨λp q=>wpAny_pyIter_tuple p q,λo p=>ie.push p o,rfl⟩
noncomputable abbrev zh2 (h:Heap)(o1 o2:Obj):Heap:=(h.push o1).push o2
abbrev zh3 (h:Heap)(o1 o2:Obj):Heap:=(zh2 h o1 o2).push { cls:= .type "tuple",data:= .seq #[.ref h.objs.size,.ref (h.push o1).objs.size] }
abbrev zh4 (h:Heap)(o1 o2:Obj):Heap:=(zh3 h o1 o2).push { cls:= .type "tuple",data:= .seq #[.none,.none] }
abbrev zh5 (h:Heap)(o1 o2:Obj):Heap:=(zh4 h o1 o2).push { cls:= .type "zip",data:= .fields #[.none,.bool false,.bool false,.ref (zh2 h o1 o2).objs.size,.ref (zh3 h o1 o2).objs.size] }
theorem gN {P1 P2:Heap->Prop}(J1:Xy l1 o1 P1)(J2:Xy l2 o2 P2):
  Meets (Builtin.«zip.__new__» ⟨[.type "zip",.ref l1,.ref l2],[]⟩) (λ_ R s=>P1 s.heap/\P2 s.heap/\R (.ok (.ret (.ref (zh4 s.heap o1 o2).objs.size))) { s with heap:=zh5 s.heap o1 o2 }):=
 .of_wp λprog w A R s h=>by
  obtain⟨hp,g,d,tk,os⟩:=s;obtain⟨q1,q2,h⟩:=h;have hsub:=sub_zip;have c1:P1 (iF ⟨hp,g,d,tk,os⟩):=q1;have c2:P2 (iF ⟨hp.push o1,g,d,tk,os⟩):=J2.push o1 q2
  wp_walk using J1.go c1,J2.go c2
  exact⟨_,rfl,h⟩
end PySem.ZG
namespace PySem.ZG
open PySem PySem.Spec PySem.Builtin.SmallTypes
theorem XA {P1 P2:Heap->Prop}(J1:Xy l1 o1 P1)(J2:Xy l2 o2 P2)(q1:P1 s.heap)(q2:P2 s.heap)
  (h:∀h' n,n=s.heap.objs.size->IsZip h' (n+4) (n+2) (n+3) .none->IsPair h' (n+2) (.ref n) (.ref (n+1))->IsPair h' (n+3) .none .none->h'.get? n=some o1->h'.get? (n+1)=some o2->
   (∀c o,s.heap.get? c=some o->h'.get? c=some o)->Q (.ref (n+4)) { s with heap:=h' }):wpAny (model prog w) A (call (.type "zip") [.ref l1,.ref l2]) Q E s:=by
 refine callType_new PySem.F.called_zip (by decide) (PySem.F.typeCall_zip_2 _ _) (PySem.F.newCall_zip_2 _ _) (λobj=>PySem.F.args_object_init_3 obj _ _) PySem.F.entry_zip_new (gN J1 J2) ⟨q1,q2, ?_⟩
 have n1:(s.heap.push o1).objs.size=s.heap.objs.size+1:=bg ..;have n2:(zh2 s.heap o1 o2).objs.size=s.heap.objs.size+2:=by rw[bg,n1]
 have n3:(zh3 s.heap o1 o2).objs.size=s.heap.objs.size+3:=by rw[bg,n2]
 have n4:(zh4 s.heap o1 o2).objs.size=s.heap.objs.size+4:=by rw[bg,n3]
 have up:∀{h:Heap} {c:Addr} {o:Obj} (o' :Obj),h.get? c=some o->(h.push o').get? c=some o:=λo' e=>a9 o' e;have e5:(zh5 s.heap o1 o2).get? _=some _:=af _ rfl;have e4:(zh5 s.heap o1 o2).get? _=some _:=up _ (af _ rfl);have e3:(zh5 s.heap o1 o2).get? _=some _:=up _ (up _ (af _ rfl));have e2:(zh5 s.heap o1 o2).get? _=some _:=up _ (up _ (up _ (af _ J2.fresh)));have e1:(zh5 s.heap o1 o2).get? _=some _:=up _ (up _ (up _ (up _ (af _ J1.fresh))));rw[n2,n3,n4]at e5;rw[n1,n2]at e3;rw[n3]at e4;rw[n1]at e2;rw[n4];exact⟨⟨_,e5,rfl⟩,h _ _ rfl e5 e3 e4 e1 e2 λc o q=>up _ (up _ (up _ (up _ (up _ q))))⟩
end PySem.ZG
namespace PV
open PySem PySem.Spec PyProof.Rows L2 PySem.ZG
inductive SK where
 | l | t
noncomputable def SK.it:SK->Heap->Addr->Addr->Nat->Prop
 | .l=>λh i l k=>h.IsListIter i l k
 | .t=>λh i l k=>h.IsTupleIter i l k
noncomputable def SK.has:SK->Heap->Addr->Array Value->Prop
 | .l=>λh l xs=>h.IsList l xs
 | .t=>λh l xs=>h.IsTuple l xs
def SK.sq (K:aa):SK->Hp->Addr->List V->Prop
 | .l=>λH a xs=>SqL K H a xs
 | .t=>λH a xs=>SqT K H a xs
noncomputable def SK.tr:SK->List V->HO
 | .l=> .lst
 | .t=> .tup
def SK.ob:SK->Addr->Obj
 | .l=>oL
 | .t=>oT
theorem SK.nx (k:SK){i l:Addr}(h:l ≠ i)(xs:Array Value):uG i [i,l] (λn=>xs[n]?) (λn hp=>k.it hp i l n/\k.has hp l xs):=by
 cases k with
 | l=>exact Xt h xs
 | t=>exact nx_tup h xs
theorem SK.of (k:SK)(l:Addr)(xs:Array Value):Xy l (k.ob l) (λh=>k.has h l xs):=by
 cases k with
 | l=>exact Xz l xs
 | t=>exact gM l xs
theorem SK.start (k:SK){h:Heap}{i l:Addr}(e:h.get? i=some (k.ob l)):k.it h i l 0:=by
 cases k with
 | l=>exact⟨_,e,rfl,rfl⟩
 | t=>exact⟨_,e,rfl,rfl⟩
theorem SK.obj {k:SK}{h:Heap}{i l:Addr}{n:Nat}(x:k.it h i l n):∃o,h.get? i=some o/\∀v,o.data ≠ .cell v:=by
 cases k with
 | l=>obtain⟨o,e,_,d⟩:=x;exact⟨o,e,λv z=>by rw[d]at z;cases z⟩
 | t=>obtain⟨o,e,_,d⟩:=x;exact⟨o,e,λv z=>by rw[d]at z;cases z⟩
theorem SK.at_ {k:SK}{h h' :Heap}{i l:Addr}{n:Nat}(x:k.it h i l n)(q:∀o,h.get? i=some o->h'.get? i=some o):k.it h' i l n:=by
 cases k with
 | l=>obtain⟨o,e,r⟩:=x;exact⟨o,q o e,r⟩
 | t=>obtain⟨o,e,r⟩:=x;exact⟨o,q o e,r⟩
theorem SK.sqOf {K:aa}(k:SK){H:Hp}{a:Addr}{xs:List V}(e:H a=some (k.tr xs)):k.sq K H a xs:=by
 cases k with
 | l=>exact SqL.of e
 | t=>exact SqT.of e
theorem Inv.seq (I:L2.Inv X pins σ H s)(k:SK)(h:k.sq X.K H a xs):∃its:List Value,zX xs its/\k.has s.heap a its.toArray/\∃o,s.heap.get? a=some o:=by
 cases k with
 | l=>
  obtain⟨its,r,p,_⟩:=I.list h;obtain⟨o,_,e,_⟩:=id p;exact⟨its,r,p.isList,o,e⟩
 | t=>
  obtain⟨its,r,p,_⟩:=I.tuple h;obtain⟨o,e,_⟩:=id p;exact⟨its,r,p,o,e⟩
def Itz (K:aa)(k1 k2:SK)(l1 l2:Addr):It:=
 ⟨λi H=>∃xs ys x y,k1.sq K H l1 xs/\k2.sq K H l2 ys/\xs[i]? =some x/\ys[i]? =some y,λi H v H' =>∃p x y,H p=none/\v= .ref p/\(∀xs,k1.sq K H l1 xs->xs[i]? =some x)/\(∀ys,k2.sq K H l2 ys->ys[i]? =some y)/\H' =upd H p (.tup [x,y]),
  λi H=>∃xs ys,k1.sq K H l1 xs/\k2.sq K H l2 ys/\(xs.length<=i\/ys.length<=i)⟩
theorem Inv.seq_inj (I:L2.Inv X pins σ H s)(k:SK)(h:k.sq X.K H a xs)(h' :k.sq X.K H a ys):xs=ys:=by
 cases k with
 | l=>exact I.list_inj h h'
 | t=>exact I.tuple_inj h h'
theorem nN {a b:Nat}(h:a ≠ b): @Ne Addr a b:=h
theorem nM {a b c:Nat}(h:a ≠ b)(h' :a ≠ c):¬ @Membership.mem Addr (List Addr) _ [b,c] a:=λq=>by
 rcases ak.mp q with z | z
 ·exact h z
 ·exact h' (aM.mp z)
theorem vY {P:Program}{w:World}{K:aa}{elts:List Expr}{kk:Nat}{pt:Pos}(k1 k2:SK){n l1 l2:Nat}(h1:l1 < n)(h2:l2 < n):
  y9 P w K (.Tuple elts kk pt) (Itz K k1 k2 l1 l2) [n+4,n+2,n+3,n,n+1] (n+4)
   (λi h=>IsZip h (n+4) (n+2) (n+3) .none/\IsPair h (n+2) (.ref n) (.ref (n+1))/\(∃a b,IsPair h (n+3) a b)/\k1.it h n l1 i/\k2.it h (n+1) l2 i):=by
 have D:Ap (n+4) (n+2) (n+3) n (n+1) [n,l1] [n+1,l2]:=by
  refine⟨nN (by omega),nN (by omega),nN (by omega),nN (by omega),nN (by omega),nM (by omega) (by omega),nM (by omega) (by omega),nM (by omega) (by omega),nM (by omega) (by omega),nM (by omega) (by omega),nM (by omega) (by omega)⟩
 refine⟨by simp,λi h st b hb=> ?_,λi h h' st k=> ?_, ?_, ?_, ?_⟩
 ·obtain⟨hz,hI,⟨a,c,hO⟩,p1,p2⟩:=st;simp only[ak,bI,or_false]at hb;rcases hb with rfl | rfl | rfl | rfl | rfl
  ·exact⟨_,hz,λv z=>nomatch z⟩
  ·exact⟨_,hI,λv z=>nomatch z⟩
  ·exact⟨_,hO,λv z=>nomatch z⟩
  ·exact SK.obj p1
  ·exact SK.obj p2
 ·obtain⟨hz,hI,⟨a,c,hO⟩,p1,p2⟩:=st;exact⟨k _ (by simp) _ hz,k _ (by simp) _ hI,⟨a,c,k _ (by simp) _ hO⟩,SK.at_ p1 λo e=>k n (by simp) o e,SK.at_ p2 λo e=>k (n+1) (by simp) o e⟩
 ·intro X hP hw hK hc i pins s σ H E I hf st hg;subst hP hw hK;obtain⟨xs,ys,x,y,s1,s2,hx,hy⟩:=hg;obtain⟨hz,hI,⟨a,c,hO⟩,p1,p2⟩:=st;obtain⟨its1,r1,b1,_⟩:=Inv.seq I k1 s1;obtain⟨its2,r2,b2,_⟩:=Inv.seq I k2 s2;obtain⟨u,hu,ru⟩:=r1.get hx;obtain⟨v,hv,rv⟩:=r2.get hy;refine Xw (k1.nx (aD h1) its1.toArray) (k2.nx (i:=n+1) (nN (by omega)) its2.toArray) D hz hI hO ⟨p1,b1⟩ ⟨p2,b2⟩ (x:=u) (y:=v) (by simpa using hu) (by simpa using hv) λg a1 a2 a3 a4 a5 kp=>⟨_,rfl, ?_⟩
  refine wpAny_letOwnedTupleGo_zip a1 λg2 z2 e2=> ?_;have hlt:n+4 < s.heap.objs.size:=ao hz;have ne:∀b:Nat,b<=n+4->s.heap.objs.size ≠ b:=λb hb=>by
   omega
  have kp2:∀b o,b ∉ [n+4,n+2,n+3,n,n+1]->s.heap.get? b=some o->g2.get? b=some o:=λb o hb e=>by
   simp only[ak,bI,or_false,not_or]at hb;exact e2.extBut _ _ hb.1 (kp b o hb.1 hb.2.2.1 hb.2.2.2.1 hb.2.2.2.2 e)
  have g2P:=e2.extBut _ _ (ne _ (aj _)) a5;have g2I:=e2.extBut _ _ D.Iz (kp _ _ D.Iz D.IO D.I1 D.I2 hI);have g2O:=e2.extBut _ _ D.Oz a2;have q1:=SK.at_ a3.1 λo e=>e2.extBut _ _ (nN (by omega)) e
  have q2:=SK.at_ a4.1 λo e=>e2.extBut _ _ (nN (by omega)) e
  have hfr:=I.hok.fresh (aj _);refine⟨.ref s.heap.objs.size,upd H s.heap.objs.size (.tup [x,y]),Inv.laidT (s:=s) (h' :=g2) (tk:=s.toks) I hf kp2 (λb o hb _=> ?_) (aj _)
   ⟨by rw[bP];show 2<=16777216;decide,[u,v],.cons ru (.cons rv .nil),⟨_,g2P,rfl,_,rfl⟩,.inr ⟨_,g2P,rfl⟩⟩,rfl,⟨_,x,y,hfr,rfl,λzs hq=>by rw[← Inv.seq_inj I k1 s1 hq];exact hx,λzs hq=>by rw[← Inv.seq_inj I k2 s2 hq];exact hy,rfl⟩,⟨z2,g2I,⟨u,v,g2O⟩,q1,q2⟩,λb hb=> ?_⟩
  ·simp only[ak,bI,or_false]at hb;rcases hb with rfl | rfl | rfl | rfl | rfl
   ·exact⟨_,z2⟩
   ·exact⟨_,g2I⟩
   ·exact⟨_,g2O⟩
   ·obtain⟨o',e',_⟩:=SK.obj q1;exact⟨o',e'⟩
   ·obtain⟨o',e',_⟩:=SK.obj q2;exact⟨o',e'⟩
  ·have hb2:(b:Nat)<=n+4:=by
    have hb:=by simpa using hb
    rcases hb with rfl | rfl | rfl | rfl | rfl
    ·exact aj _
    ·exact dL (by decide) n
    ·exact dL (by decide) n
    ·exact aJ _ _
    ·exact dL (by decide) n
   rw[zv λz=>ne b hb2 z.symm];exact(hf b hb).1
 ·intro X hP hw hK hc i pins s σ H E I hf st hg;subst hP hw hK;obtain⟨xs,ys,s1,s2,hend⟩:=hg;obtain⟨hz,hI,⟨a,c,hO⟩,p1,p2⟩:=st;obtain⟨its1,r1,b1,_⟩:=Inv.seq I k1 s1;obtain⟨its2,r2,b2,_⟩:=Inv.seq I k2 s2;have l1' :=r1.length;have l2' :=r2.length;refine Xx (I.ok.hd hc) (k1.nx (aD h1) its1.toArray) (k2.nx (nN (by omega)) _) D hz hI hO ⟨p1,b1⟩ ⟨p2,b2⟩ ?_ λg kp=>⟨rfl, ?_⟩
  ·rcases hend with q | q
   ·exact .inl (cz (by rw[aC,← l1'];exact q))
   ·exact .inr (cz (by rw[aC,← l2'];exact q))
  ·have kp2:∀b o,b ∉ [n+4,n+3,n,n+1]->s.heap.get? b=some o->g.get? b=some o:=λb o hb e=>by
    simp only[ak,bI,or_false,not_or]at hb;exact kp b o hb.1 hb.2.1 hb.2.2.1 hb.2.2.2 e
   have nch:∀b u,H b=some u->b ∉ [n+4,n+3,n,n+1]:=λb u e hb=>by
    have hb' :b∈[n+4,n+2,n+3,n,n+1]:=by
     simp only[ak,bI,or_false]at hb ⊢;rcases hb with q | q | q | q
     ·exact .inl q
     ·exact .inr (.inr (.inl q))
     ·exact .inr (.inr (.inr (.inl q)))
     ·exact .inr (.inr (.inr (.inr q)))
    rw[(hf b hb').1]at e;cases e
   refine I.call' rfl ⟨λb o e _ _ hc=>kp2 b o hc e,λb o e _ _ hc=>⟨o.slots,kp2 b o hc e⟩,λb o e q _=>q,λb o e hc=>⟨o,kp2 b o hc e⟩,λb ys e=>e,λb o u e=>e,λ_ _ _ e=>e⟩ (λb u e=> ?_) I.bare λb hb=> ?_
   ·refine(I.hok b u e).stay (λc v hc q=>kp2 c v ?_ q) (λ_ q=>q) λ_ _ q=>q;rcases hc with rfl | hc
    ·exact nch c u e
    ·exact nch c _ hc
   ·have hb' :b∈[n+4,n+2,n+3,n,n+1]:=by
     simp only[ak,bI,or_false]at hb ⊢;rcases hb with q | q | q | q
     ·exact .inl q
     ·exact .inr (.inr (.inl q))
     ·exact .inr (.inr (.inr (.inl q)))
     ·exact .inr (.inr (.inr (.inr q)))
    obtain⟨f0,f1,f2,f3,f4,f5⟩:=hf b hb';exact⟨f3,f1,f4,f5⟩
 ·intro A i s Q E st h;exact wpAny_pyIter_zip st.1 h
noncomputable def ve (xs ys:List T):List T:=(xs.zip ys).map λp=>T.tup [p.1,p.2]
theorem vZ {xs ys:List T}{i:Nat}{t:T}(h:(ve xs ys)[i]? =some t):∃x y,xs[i]? =some x/\ys[i]? =some y/\t= .tup [x,y]:=by
 unfold ve at h;rw[ar]at h;cases e:(xs.zip ys)[i]? with
 | none=>rw[e]at h;cases h
 | some p=>
  rw[e]at h;cases h;have:=List.getElem?_zip_eq_some.mp e;exact⟨p.1,p.2,this.1,this.2,rfl⟩
theorem uH (xs ys:List T):(ve xs ys).length=min xs.length ys.length:=by unfold ve;simp
theorem gO {K:aa}{B1 H1:Hp}{k1 k2:SK}{a b:Addr}{xs ys:List V}{ts us:List T}(ha:B1 a=some (k1.tr xs))(hb:B1 b=some (k2.tr ys))(ra:zF B1 xs ts)(rb:zF B1 ys us):rI B1 H1 (Itz K k1 k2 a b) (ve ts us):=λB2 H2 s1 s2=>by
 have a2:=k1.sqOf (K:=K) (s2 _ _ (s1 _ _ ha));have b2:=k2.sqOf (K:=K) (s2 _ _ (s1 _ _ hb));rw[uH];refine⟨λi hi=> ?_,λi t x H3 e y=> ?_,λi hi=>⟨xs,ys,a2,b2, ?_⟩⟩
 ·obtain⟨v,e1,_⟩:=ra.get (ae (show i < ts.length by omega))
  obtain⟨u,e2,_⟩:=rb.get (ae (show i < us.length by omega))
  exact⟨xs,ys,v,u,a2,b2,e1,e2⟩
 ·obtain⟨p,v,u,hp,rfl,y1,y2,rfl⟩:=y;obtain⟨t1,t2,et,eu,rfl⟩:=vZ e;obtain⟨v',e1,r1⟩:=ra.get et;obtain⟨u',e2,r2⟩:=rb.get eu;have q1:=y1 xs a2;have q2:=y2 ys b2;rw[e1]at q1;cases q1;rw[e2]at q2;cases q2;have up:=zO.ge s2 (zr.new hp (.tup [v,u]));exact⟨zr.new hp _,.tup (ja hp _) (.cons ((r1.mono s1).mono up) (.cons ((r2.mono s1).mono up) .nil))⟩
 ·rw[ra.length,rb.length];omega
section
theorem gP {ta:TA}(hg:Gl X "zip")(hm:X.mg "zip"=none)(ha:PA X [a,b] ta)(hs:starEach [a,b] X.env=[(false,eval a X.env),(false,eval b X.env)])(hs2:starEach [b] X.env=[(false,eval b X.env)]):
  PI X (.Tuple elts kk pt) (.Call (.Name "zip" p) [a,b] [] pos) (λσ H R=>ta σ H λvs H1=>∃k1 k2 l1 l2 xs ys,vs=[.ref l1,.ref l2]/\H1 l1=some (SK.tr k1 xs)/\H1 l2=some (SK.tr k2 ys)/\R (Itz X.K k1 k2 l1 l2) H1):=by
 intro pins s σ H R I h;refine Call_ (j8 I hg hm PyProof.Rows.Boot.«zip» (aV (thn (ha pos _ s σ H _ I h) λus s1 ⟨vs,H1,I1,r1,q1⟩=> ?_) (by rw[hs,hs2]) (by rw[hs2];rfl)))
 obtain⟨k1,k2,l1,l2,xs,ys,e,h1,h2,q⟩:=q1;subst e;obtain⟨u,v,rfl,ru,rv⟩:=uy r1;obtain rfl:u=Value.ref l1:=ru;obtain rfl:v=Value.ref l2:=rv;obtain⟨its1,_,b1,o1,e1⟩:=Inv.seq I1 k1 (k1.sqOf h1);obtain⟨its2,_,b2,o2,e2⟩:=Inv.seq I1 k2 (k2.sqOf h2);refine XA (k1.of l1 _) (k2.of l2 _) b1 b2 λg n hn z1 z2 z3 z4 z5 kp=>wpAny_pyIter_zip z1 ?_;subst hn;have f:∀b∈[s1.heap.objs.size+4,s1.heap.objs.size+2,s1.heap.objs.size+3,s1.heap.objs.size,s1.heap.objs.size+1],Jp X _ H1 b:=λb hb=>by
  have hb' :s1.heap.objs.size<=b:=by
   simp only[ak,bI,or_false]at hb;rcases hb with rfl | rfl | rfl | rfl | rfl
   ·exact aJ _ _
   ·exact aJ _ _
   ·exact aJ _ _
   ·exact aj _
   ·exact aJ _ _
  exact I1.fpOk hb' (I1.hok.fresh hb')
 exact⟨s1.heap.objs.size+4,_,_,_,H1,rfl,I1.kept kp,vY k1 k2 (ao e1) (ao e2),⟨z1,z2,⟨_,_,z3⟩,SK.start k1 z4,SK.start k2 z5⟩,f,q⟩
noncomputable def JO:T->R (List T)
 | .lst xs=> .ok xs
 | .tup xs=> .ok xs
 | _=> .bad
def kX (fa fb:En->R T):En->R (List T):=λρ=>(fa ρ).bind λt=>(fb ρ).bind λu=>(JO t).bind λxs=>(JO u).bind λys=> .ok (ve xs ys)
theorem YM (r:Rep B v t)(e:JO t= .ok xs):∃(k:SK) (a:Addr) (vs:List V),v= .ref a/\B a=some (k.tr vs)/\zF B vs xs:=by
 cases r with
 | lst h r=>cases e;exact⟨.l,_,_,rfl,h,r⟩
 | tup h r=>cases e;exact⟨.t,_,_,rfl,h,r⟩
 | _=>cases e
theorem Uj (t:T)(c:Nat):JO t ≠ .ex c:=by cases t <;> exact λz=>nomatch z
theorem z2d (hg:Gl X "zip")(hm:X.mg "zip"=none)(ha:Snd X Y a fa)(hb:Snd X Y b fb)(hs:starEach [a,b] X.env=[(false,eval a X.env),(false,eval b X.env)]:=by exact st2 rfl rfl)(hs2:starEach [b] X.env=[(false,eval b X.env)]:=by exact st1 rfl):
  Wm X Y (.Tuple elts kk pt) (.Call (.Name "zip" p) [a,b] [] pos) (kX fa fb):= .mk λρ=>
 PI.imp (gP hg hm (zz (ha ρ) (zz (hb ρ) zQ hs2) (by rw[hs,hs2])) hs hs2) λσ H R ⟨B,I,q⟩=>step I q λt v H1 _ s1 r1 I1 q1=>step I1 q1 λu v' H2 _ s2 r2 I2 q2=>by
  cases e1:JO t with
  | bad=>rw[e1]at q2;exact q2.elim
  | ex c=>exact absurd e1 (Uj _ _)
  | ok xs=>
   rw[e1]at q2;cases e2:JO u with
   | bad=>rw[e2]at q2;exact q2.elim
   | ex c=>exact absurd e2 (Uj _ _)
   | ok ys=>
    rw[e2]at q2;obtain⟨k1,a1,vs1,rfl,h1,w1⟩:=YM (r1.mono (zO.ge I1.sB s2)) e1;obtain⟨k2,a2,vs2,rfl,h2,w2⟩:=YM r2 e2;exact⟨k1,k2,a1,a2,vs1,vs2,rfl,I2.sB _ _ h1,I2.sB _ _ h2,ZH I2 (show Po Y rI _ H2 _ R from q2) (gO h1 h2 w1 w2)⟩
end
end PV
namespace PV
open PySem PySem.Spec PyProof.Rows L2
section
def YN:T->R T
 | .bl b=> .ok (.int (b2 b))
 | .int i=> .ok (.int i)
 | _=> .bad
theorem z2e (v:V)(t:T)(B H:Hp)(Q:VK)(r:Rep B v t)(sB:zr B H)(q:Po Y rC B H (YN t) Q):
  (∃i,[v]=[V.int i]/\Q (.int i) H)\/∃k,[v]=[V.bl k]/\Q (.int (if k then 1 else 0)) H:=by
 cases r with
 | int i=>exact .inl ⟨i,rfl,po0 sB q rfl (.int i)⟩
 | bl k=>exact .inr ⟨k,rfl,po0 sB q rfl (by cases k <;> exact .int _)⟩
 | _=>exact q.elim
theorem gQ (gl:Gl X "int")(mg:X.mg "int"=none)(ha:Snd X Y a fa)(hs:St1 X a:=by exact st1 rfl):Snd X Y (.Call (.Name "int" p) [a] [] pos) (ap1 YN fa):=
 Yy Y9 z2e gl mg (PyProof.Rows.Boot.«int») ha hs
theorem YO:Zc X (.type "range") (λxs H Q=>∃i j,xs=[.int i,.int j]/\∀r,H r=none->Q (.ref r) (upd H r (.rng i j))):=by
 intro pins s σ H xs us Q I r h;obtain⟨i,j,rfl,q⟩:=h;obtain⟨u,v,rfl,ru,rv⟩:=uy r;obtain⟨t,rfl⟩:=ru;obtain⟨t',rfl⟩:=rv;exact call_range_2 ⟨.ref _,_,I.laid (λb o e=>a9 _ e) (aj _) (show Z5 _ X.w _ _ _ (.rng i j) from ⟨_,_,_,af _ rfl⟩),rfl,q _ (I.hok.fresh (aj _))⟩
noncomputable def vf (lo:Int)(n:Nat):List V:=(a_ n).map λ(i:Nat)=>V.int (lo+(i:Int))
theorem wZ (hh:X.A.handled=none):Zc X (.type "list") (λxs H Q=>∃r lo hi,xs=[.ref r]/\H r=some (.rng lo hi)/\(-1000000 < lo/\lo < 1000000/\ -1000000 < hi/\hi < 1000000)/\∀l,H l=none->Q (.ref l) (upd H l (.lst (vf lo (hi - lo).toNat)))):=by
 intro pins s σ H xs us Q I rv h;obtain⟨r,lo,hi,rfl,e,⟨c1,c2,c3,c4⟩,q⟩:=h;obtain⟨u,rfl,ru⟩:=Zt rv;obtain rfl:u=Value.ref r:=ru;obtain⟨t,v,v',eo⟩:=(show Z5 _ X.w H _ r _ from I.hok r _ e);have hn:eN lo hi 1=((hi - lo).toNat):=by rw[rangeSize_one];split <;> omega
 refine call_list_range hh eo (small_one (by omega) (by omega) (by omega) (by omega)) hn (by omega) λh' tk acc c kp eo' hacc=> ?_
 have hv:zX (vf lo (hi - lo).toNat) acc.toList:=by
  have key:∀(n:Nat) (lo:Int) (vs:List _),vs.length=n->(∀(j:Nat) (v:Value),vs[j]? =some v->∃t,v=Value.int (lo+(j)) t)->zX (vf lo n) vs:=by
   intro n
   induction n with
   | zero=>
    intro lo vs hl _;rw[List.eq_nil_of_length_eq_zero hl];exact .nil
   | succ n ih=>
    intro lo vs hl hv;cases vs with
    | nil=>cases hl
    | cons v vs=>
     have e:vf lo (n+1)=V.int (lo+0) :: vf (lo+1) n:=by
      unfold vf;rw[cx,aF,b8];refine congrArg _ (cf λj _=> ?_);show V.int _=V.int _;congr 1;omega
     rw[e];refine .cons (hv 0 v rfl) (ih _ vs (by simpa using hl) λj x hx=> ?_)
     obtain⟨t,z⟩:=hv (j+1) x (by simpa using hx)
     exact⟨t,by rw[z];congr 1;omega⟩
  refine key _ lo _ (by simpa using hacc.1) λj v hj=> ?_
  obtain⟨t,z⟩:=hacc.2 j v (by simpa using hj)
  exact⟨t,by rw[z];congr 1;omega⟩
 have hz:(vf lo (hi - lo).toNat).length<=sizeLine:=by
  rw[bP];unfold vf;rw[ac,bA];omega
 exact⟨.ref _,_,I.laid kp (aj _) (show Z5 _ X.w _ h' _ (.lst _) from ⟨hz,acc.toList,c,hv,by simpa using eo'⟩),rfl,q _ (I.hok.fresh (aj _))⟩
def z0I (fi:En->R (List T)):En->R T:=λρ=>(fi ρ).bind λts=> .ok (.lst ts)
theorem YQ (lo:Int)(n:Nat):zF B (vf lo n) (rng lo n):=by
 unfold vf rng
 induction a_ n with
 | nil=>exact .nil
 | cons i is ih=>exact .cons (.int _) ih
theorem XB (hh:X.A.handled=none)(gl:Gl X "list")(mg:X.mg "list"=none)(gl' :Gl X "range")(mg' :X.mg "range"=none)(ha:Snd X Y a fa)(hb:Snd X Y b fb)
  (hs:starEach [a,b] X.env=[(false,eval a X.env),(false,eval b X.env)]:=by exact st2 rfl rfl) (hs2:St1 X b:=by exact st1 rfl):Snd X Y (.Call (.Name "list" p) [.Call (.Name "range" p') [a,b] [] pos'] [] pos) (z0I (Jl fa fb)):= .mk λρ=>
 PE.imp (ZD (wZ hh) gl mg PyProof.Rows.Boot.«list» (zz (ZD YO gl' mg' boot_range (zz (ha ρ) (zz (hb ρ) zQ hs2) (by rw[hs,hs2])) (by decide) (by decide) (by rw[hs,hs2]) (by rw[hs2];rfl)) zQ (st1 rfl)) (by decide) (by decide) (st1 rfl) rfl) λσ H Q ⟨B,I,q⟩=>by
  have q:Po Y rC B H ((fa ρ).bind λt=>(fb ρ).bind λt' =>(match t,t' with | .int i,.int j=>if -1000000 < i/\i < 1000000/\ -1000000 < j/\j < 1000000 then R.ok (rng i (j - i).toNat) else .bad | _,_=> .bad).bind λts=> .ok (.lst ts)) Q:=by
   revert q;unfold z0I Jl;cases fa ρ with
   | ok t=>cases fb ρ <;> exact λq=>q
   | ex c=>exact λq=>q
   | bad=>exact λq=>q
  refine step I q λt v H1 _ s1 r1 I1 q1=>step I1 q1 λt' v' H2 _ s2 r2 I2 q2=> ?_;cases r1 with
  | int i=>
   cases r2 with
   | int j=>
    by_cases c: -1000000 < i/\i < 1000000/\ -1000000 < j/\j < 1000000
    ·dsimp only at q2;rw[if_pos c]at q2;refine⟨i,j,rfl,λr hr=>⟨r,i,j,rfl,zA,c,λl hl=> ?_⟩⟩;have hlr:l ≠ r:=λz=>by rw[z,zA]at hl;cases hl
     have hl2:=by rw[zv hlr]at hl;exact hl
     refine q2 _ _ (zr.new hr _ |>.trans (zr.new hl _)) (.lst ?_ (YQ _ _))
     rw[Z6 hl2,zA]
    ·dsimp only at q2;rw[if_neg c]at q2;exact q2.elim
   | _=>exact q2.elim
  | _=>cases r2 <;> exact q2.elim
def mvS (i j:Nat):En->RS:=λρ=>match ρ[j]? with
 | some (.ow ts)=> .nx ((ρ.set j (.vl (.lst ts))).set i (.vl (.lst ts)))
 | _=> .bad
theorem SI.give (I:SI Y B ρ σ H)(hj:ρ[j]? =some (.ow ts)):∃(a:Addr) (B' :Hp),σ[j]? =some (some (V.ref a))/\zr B B' /\Rep B' (.ref a) (.lst ts)/\SI Y B' (ρ.set j (.vl (.lst ts))) σ H:=by
 obtain⟨a,xs,e,b0,h0,hh,rr,d⟩:=I.ow j ts hj;have s1:zr B (upd B a (.lst xs)):=zr.new b0 _;have rp:Rep _ _ _:= .lst zA (rr.mono s1);refine⟨a,_,e,s1,rp,⟨I.s0,I.sH,λb o q=> ?_,λb o q=> ?_,by rw[aE];exact I.len,λk t q=> ?_,λk us q=> ?_,λk c q=> ?_, ?_⟩⟩
 ·by_cases hb:b=a
  ·subst hb;rw[zA]at q;cases q;exact hh
  ·rw[zv hb]at q;exact I.sB b o q
 ·rw[zv λz=>by rw[z,h0]at q;cases q];exact I.old b o q
 ·rcases zq q with ⟨rfl,z⟩ | ⟨_,z⟩
  ·cases z;exact⟨_,e,rp⟩
  ·obtain⟨v,e1,r⟩:=I.vl k t z;exact⟨v,e1,r.mono s1⟩
 ·rcases zq q with ⟨rfl,z⟩ | ⟨hk,z⟩
  ·cases z
  ·obtain⟨a',xs',e',b0',h0',hh',rr',d'⟩:=I.ow k us z;have hne:a' ≠ a:=λw=>by subst w;exact d k us hk z e'
   refine⟨a',xs',e',by rw[zv hne];exact b0',h0',hh',rr'.mono s1,λm ws hm hw=> ?_⟩
   rcases zq hw with ⟨rfl,w⟩ | ⟨_,w⟩
   ·cases w
   ·exact d' m ws hm w
 ·rcases zq q with ⟨rfl,z⟩ | ⟨_,z⟩
  ·cases z
  ·obtain⟨a',e',r⟩:=I.xc k c z;exact⟨a',e',s1 _ _ r⟩
 ·obtain⟨as,O,x⟩:=I.st;refine⟨as,O,x.on (λk y hy h=> ?_) s1 rfl rfl (zr.refl _) λb o hb b0' h0' cs=> ?_⟩
  ·rcases zq h with ⟨_,z⟩ | ⟨_,z⟩
   ·subst z;cases hy
   ·exact⟨z,rfl⟩
  ·have hne:b ≠ a:=λz=>by
    subst z;rcases cs with ⟨C,dx,vs,ez⟩ | ok
    ·rw[hh]at hb;cases hb;cases ez
    ·exact ok j ts hj e
   refine⟨hb,by rw[zv hne];exact b0',h0',λok k us h=> ?_⟩
   rcases zq h with ⟨_,z⟩ | ⟨_,z⟩
   ·cases z
   ·exact ok k us z
theorem s_mv (hv:PE X (.Name y yp) (wg j))(hN:X.N.Nodup)(hi:X.N[i]? =some x)(hx:L2.Loc X.env.scope x)(hs:swapsWith (.Name y yp) (some (.Name x p')) pos.line X.env=pure false:=by rfl)
  (hf:X.fn x=true\/X.env.scope.names.lookup x=some .local:=by first | exact .inl rfl | exact .inr rfl | assumption):jV X Y (.Assign [.Name x p'] (.Name y yp) pos) (mvS i j):= .mk λρ=>
 PS.imp (U4 hN hi hx hv hs hf) λD σ H ⟨B,I,q⟩=>by
  unfold mvS at q;split at q
  ·rename_i ts e;obtain⟨a,B',e1,s1,r,J⟩:=I.give e;exact⟨_,e1,q _ _ B' s1 (J.setV i r)⟩
  ·exact q.elim
end
def eqs (y:T):List T->Option (List Bool)
 | []=>some []
 | t :: ts=>match eqF 30 t y with
  | none=>none
  | some b=>match eqs y ts with
   | none=>none
   | some bs=>some (b :: bs)
def cntT (y:T)(ts:List T):R T:=match eqs y ts with
 | some bs=> .ok (.int (bs.count true))
 | none=> .bad
def XF (y:T)(ts:List T):R T:=match eqs y ts with
 | some bs=>if true∈bs then .ok (.int (bs.idxOf true)) else .bad
 | none=> .bad
def z2f (g:T->List T->R T)(fa fb:En->R T):En->R T:=λρ=>(fa ρ).bind λt=>match t with
 | .lst ts=>(fb ρ).bind λu=>g u ts
 | _=> .bad
theorem VZ {H:Hp}{y:T}{e:Value->Bool}(he:∀(v:V) (t:T) (u:Value) (b:Bool),Z4 v u->Rep H v t->eqF 30 t y=some b->e u=b):∀{xs:List V} {ts:List T} {its:List Value} {bs:List Bool},
  zX xs its->zF H xs ts->eqs y ts=some bs->its.map e=bs/\∀u∈its,∃v t k,Z4 v u/\Rep H v t/\eqF 30 t y=some k
 | _,_,_,_,.nil,.nil,h=>by
  cases h;exact⟨rfl,λu hu=>by simp at hu⟩
 | _,_,_,_,.cons rv vs,.cons r rs,h=>by
  rename_i v u vals us t ts;unfold eqs at h;cases q:eqF 30 t y with
  | none=>rw[q]at h;cases h
  | some k=>
   rw[q]at h;cases q' :eqs y ts with
   | none=>rw[q']at h;cases h
   | some k' =>
    rw[q']at h;cases h;obtain⟨h1,h2⟩:=VZ he vs rs q';refine⟨by rw[aF,h1,he v t u k rv r q],λw hw=> ?_⟩
    rcases ak.mp hw with z | hw
    ·exact⟨v,t,k,z ▸ rv,r,q⟩
    ·exact h2 w hw
section
theorem V0 (hu:X.A.units+64 < cLine):MtR X "list.index" (λx xs H Q=>∃l ys ts v t bs,x= .ref l/\xs=[v]/\H l=some (.lst ys)/\zF H ys ts/\Rep H v t/\eqs t ts=some bs/\true∈bs/\Q (.int (bs.idxOf true)) H):=by
 intro pins s σ H x xs v0 us Q I rx rv h;obtain⟨l,ys,ts,v,t,bs,rfl,rfl,hl,r,rt,e,hm,q⟩:=h;obtain rfl:v0=Value.ref l:=rx;obtain⟨u,rfl,ru⟩:=Zt rv;obtain⟨hz,its,n,ri,eo⟩:=(show Z5 _ X.w H _ l _ from I.hok l _ hl);obtain⟨f,hf⟩:=Yu λz=>eqF 30 z t;obtain⟨h2,h3⟩:=VZ hf ri r e;have hj:=List.idxOf_lt_length_iff.mpr hm;have hlen:bs.length=its.length:=by rw[← h2,ac]
 have hri:=ri.length;rw[bP]at hz;have hat:∀m (hm:m < its.length),f its[m]=bs[m]'(by rw[hlen];exact hm):=λm hm=>by
  have:(its.map f)[m]'(by rw[ac];exact hm)=bs[m]'(by rw[hlen];exact hm):=by simp only[h2]
  rw[← this,eW]
 refine du eX ⟨_,eo,rfl⟩ PySem.F.entry_list_index (PySem.F.args_list_index_2 _ _) (SeqAt.list_indexAt l _ n _ #[] u f _ (by rw[aC,← hlen];exact hj) (by omega) ?_ ?_) ⟨eo,λw hw=> ?_, ?_⟩
 ·rw[fL,hat];exact List.getElem_idxOf hj
 ·intro m hm hlt;rw[fL,hat m (by simpa using hm)]
  have:=List.not_of_lt_findIdx hlt;simpa using this
 ·obtain⟨v',t',k,rv',rr,ee⟩:=h3 w (by simpa using hw)
  rw[hf v' t' w k rv' rr ee];exact(vJ I 30 _ (by rw[JH];omega) t' t k v' v w u ee rr rt rv' ru).1
 ·exact⟨.int _,H,I.tok _,⟨_,rfl⟩,q⟩
theorem XG (hu:X.A.units+64 < cLine)(ha:j9 X Y a fa)(hb:j9 X Y b fb)(hb1:attributeBase a "index" X.env (eval a X.env)=eval a X.env:=by rfl)(hs:St1 X b:=by exact st1 rfl)(hz:(pa.endLine == p.line)=true:=by rfl):
  Snd X Y (.Call (.Attribute a "index" pa) [b] [] p) (z2f XF fa fb):= .mk λρ=>by
 have e1:(((((backTo p (starEach [b] X.env)).all λx=> !x.fst) && (backToKw p (keywordEach [] X.env)).all λx=>x.fst.isSome) && decide (([b].length+([]:List Keyword).length+if ([]:List Keyword).isEmpty=true then 0 else 1) < 30))=true):=by rw[hs];rfl
 refine PE.imp (Yi ci eX PySem.F.type_list_index (V0 hu) (ha ρ) (zz (hb ρ) zQ hs) hb1 e1 hz hs rfl) λσ H Q ⟨B,I,q⟩=>step I q λt v H1 _ s1 r1 I1 q1=> ?_;cases t with
 | lst ts=>
  cases r1 with
  | @lst l xs _ h r=>
   refine⟨.inl ⟨rfl,_,SqL.of h⟩,step I1 q1 λu v' H2 _ s2 r2 I2 q2=> ?_⟩;unfold XF at q2;split at q2
   ·rename_i bs e;split at q2
    ·rename_i hm;exact⟨l,xs,ts,v',u,bs,rfl,rfl,s2 _ _ h,r.mono s2,r2,e,hm,ZH I2 q2 (.int _)⟩
    ·exact q2.elim
   ·exact q2.elim
 | _=>exact q1.elim
end
noncomputable def Z2:List T->Option (List Int)
 | []=>some []
 | .int i :: r=>match Z2 r with | some l=>some (i :: l) | none=>none
 | _ :: _=>none
def XH:T->R T
 | .lst ts=>match Z2 ts with | some l=> .ok (.int l.sum) | none=> .bad
 | _=> .bad
def z0J (fi:En->R (List T))(g:T->En->R En)(ft:En->R Bool)(fe:En->R T)(k:Nat)(js:List Nat):En->RS:=λρ=>(fi (frz ρ)).s λts=>(zC g ft fe k js (frz ρ) ts).s λvs=> .rf vs
def gR:En->RS:=λ_=> .bad
theorem z2g {X:Cx}{Y:Fx}{st:Stmt}:jV X Y st gR:= .mk λρ=>λpins s σ H D I ⟨B,J,q⟩=>q.elim
theorem JP:∀{H:Hp} {xs:List V} {ts:List T} {its:List Value} {is:List Int},zF H xs ts->zX xs its->Z2 ts=some is->∃ps:List (Int×Tok),its=ps.map (λp=>Value.int p.1 p.2)/\ps.map (·.1)=is
 | _,_,_,_,is,.nil,.nil,h=>by
  have h' :=h;cases h';exact⟨[],rfl,rfl⟩
 | H,_,_,_,is,.cons r rs,.cons rv vs,h=>by
  cases r with
  | int i=>
   unfold Z2 at h;split at h
   ·rename_i l e;cases h;obtain⟨ps,h1,h2⟩:=JP rs vs e;obtain⟨tk,rfl⟩:=rv;exact⟨(i,tk) :: ps,by rw[h1];rfl,by rw[aF,h2]⟩
   ·cases h
  | _=>cases h
section
variable {X:Cx}{Y:Fx}{a b:Expr}{fa fb:En->R T}{pos p p' pos' :Pos}
theorem YR (hh:X.A.handled=none):Zc X (.builtin "sum") (λvs H Q=>∃l xs ts is,vs=[.ref l]/\H l=some (.lst xs)/\zF H xs ts/\Z2 ts=some is/\Q (.int is.sum) H):=by
 intro pins s σ H vs us Q I rv h;obtain⟨l,xs,ts,is,rfl,hl,r,hk,q⟩:=h;obtain⟨u,rfl,ru⟩:=Zt rv;obtain rfl:u=Value.ref l:=ru;obtain⟨its,rv,p,_⟩:=zT I (.inl hl) r;obtain⟨ps,h1,h2⟩:=JP r rv hk;have e:its.toArray=intItems ps.toArray:=by rw[h1];simp[intItems]
 rw[e]at p;refine sum_intListG hh p λh' tk t' kp=> ?_;have e2:preSum (numAt ps.toArray) ps.toArray.size=is.sum:=by
  rw[preSum_eq,fk (by simp),← h2]
 rw[e2];exact⟨.int _,H,I.kept kp,⟨t',rfl⟩,q⟩
theorem z2h (hh:X.A.handled=none)(gl:Gl X "sum")(mg:X.mg "sum"=none)(ha:j9 X Y a fa)(hs:St1 X a:=by exact st1 rfl):Snd X Y (.Call (.Name "sum" p) [a] [] pos) (ap1 XH fa):=
 JI (YR hh) (λv t B H Q r sB q=>by
  cases r with
  | @lst l xs ts h r=>
   have q:Po Y rC B H (match Z2 ts with | some k=> .ok _ | none=> .bad) Q:=q
   split at q
   ·rename_i k e;exact⟨l,xs,ts,k,rfl,h,r,e,po0 sB q rfl (.int _)⟩
   ·exact q.elim
  | _=>exact q.elim) gl mg boot_sum ha hs
end
section
variable {X:Cx}{Y:Fx}{tg iter elt:Expr}{ifs:List Expr}{scope:Scope}{pos pos' :Pos}{N' :List Str}{k:Nat}{js:List Nat}{fi:En->R (List T)}{tG:TG}{g:T->En->R En}{ft:En->R Bool}{fe:En->R T}
theorem gS (C:wz X Y tg iter elt ifs scope N' k js fi tG g ft fe):jV X Y (.Return (some (.ListComp elt [⟨tg,iter,ifs,0⟩] scope pos)) pos') (z0J fi g ft fe k js):= .mk λρ=>by
 have pe:PE X (.ListComp elt [⟨tg,iter,ifs,0⟩] scope pos) (λσ H Q=>∃B,SI Y B (frz ρ) σ H/\PoS Y B ((fi (frz ρ)).s λts=>(zC g ft fe k js (frz ρ) ts).s λvs=> .rf vs) { nx:=λ_ _=>False,rt:=Q }):=by
  intro pins s σ H Q I ⟨B,J,q⟩;refine wV (jT rfl) (F:=λD H' =>Q (.ref D) H') (te:=λσ H Q=>∃Y' ρ',Y'.cl=Y.cl/\(Y'.E=λ_ _ _=>False)/\tS Y' rC fe ρ' σ H Q) (tt:=λσ H Q=>∃Y' ρ',Y'.cl=Y.cl/\tS Y' rE ft ρ' σ H Q) C.sc C.cp C.cm (C.it (frz ρ)) C.gt
   (λcl Cx' s3 H3 fp pins pins' s σ H Q I ⟨Y',ρ',ey,q⟩=>C.tt Y' ey cl Cx' s3 H3 fp _ ρ' _ s σ H Q I q) (λcl Cx' s3 H3 fp pins xe hp pins' s σ H Q I ⟨Y',ρ',ey,eE,q⟩=>C.el Y' ey cl Cx' s3 H3 fp _ xe (eE ▸ hp) ρ' _ s σ H Q I q) I ?_ ?_ C.hs
  ·refine jy J q λts it' H1 _ s1 r1 J1 q1=> ?_;intro D hD;unfold zC at q1;split at q1
   ·rename_i hl;cases ev:zP g ft fe ts _ with
    | bad=>rw[ev]at q1;exact q1.elim
    | ex c=>rw[ev]at q1;exact q1.elim
    | ok vs=>
     rw[ev]at q1;refine JM C.gk C.gn J1 r1 hl ev hD λH' xs B' s' e' r' l' b' sb' => ?_;exact(show PoS Y _ _ _ from q1) D xs H' B' (J1.sH.trans s') (J1.sH.free hD) e' r' b' (l'.trans (Ub J1.sH J1.old s' J1.sB))
   ·exact q1.elim
  ·intro D Cc H' s' I' q' hC h0 hL hcell hpin hns;obtain⟨m,hm⟩:=hns;refine⟨m,hm,λh' hsb=>⟨.ref D,H', ?_,rfl,q'⟩⟩;exact I'.turned (λb o hb e=>hsb.extBut b o hb e) hC (aS hL).symm (.inr h0) hcell hpin
 refine PS.imp (Wo pe) λD σ H ⟨B,I,q⟩=>⟨_,I.frz, ?_⟩;have q:=PoS.up I.up q;unfold z0J at q;revert q;cases fi _ with
 | bad=>exact λq=>q
 | ex c=>exact λq=>q
 | ok ts=>
  show PoS Y _ ((zC g ft fe k js _ ts).s λvs=> .rf vs) D->PoS Y _ ((zC g ft fe k js _ ts).s λvs=> .rf vs) _;cases zC g ft fe k js _ ts with
  | bad=>exact λq=>q
  | ex c=>exact λq=>q
  | ok vs=>exact λq=>q
end
end PV
namespace PySem.RV
open PySem PySem.Spec PyProof.Rows PySem.Builtin.SmallTypes
theorem Uk:Manifest.owners.lookup (String.ofList "desrever".toList.reverse)=some Manifest.sig_reversed:=by kernel_rfl
theorem jb:Slot "reversed" "__next__" "reversed.__next__":=
 .of (owner:="reversed") (n:="__next__") (by kernel_rfl) (by decide+kernel) (by decide+kernel) (by decide+kernel)
  (by first | exact .inl (by decide+kernel) | exact .inr (by decide+kernel)) (by kernel_rfl)
theorem wB:entryFor table "reversed.__next__"=some Builtin.«reversed.__next__»:=entryFor_of_tree (by kernel_rfl)
theorem WK (a:Value):argsOk "reversed.__next__" ⟨[a],[]⟩:=by
 unfold argsOk;rw[signature?_of (n:="__txen__".toList) (by kernel_rfl) Uk];kernel_rfl
theorem WL:Slot "reversed" "__iter__" "reversed.__iter__":=
 .of (owner:="reversed") (n:="__iter__") (by kernel_rfl) (by decide+kernel) (by decide+kernel) (by decide+kernel)
  (by first | exact .inl (by decide+kernel) | exact .inr (by decide+kernel)) (by kernel_rfl)
theorem YS (a:Value):argsOk "reversed.__iter__" ⟨[a],[]⟩:=by
 unfold argsOk;rw[signature?_of (n:="__reti__".toList) (by kernel_rfl) Uk];kernel_rfl
theorem yt:entryFor table "reversed.__iter__"=some Builtin.«dict_keyiterator.__iter__»:=
 entryFor_alias (id' :="dict_keyiterator.__iter__") (by kernel_rfl) (by first | rfl | decide+kernel | (unfold String.splitOn;simp+decide [String.splitOnAux])) (by decide+kernel) (by kernel_rfl)
theorem gT:typeLookup (.type "tuple") "__reversed__"=pure none:=by rw[typeLookup_type,builtinLookup_eq_fast];kernel_rfl
theorem gU:isSubtype (.type "tuple") (.type "dict")=pure false:=by rw[isSubtype_type];kernel_rfl
noncomputable abbrev IsRv (h:Heap)(it:Addr)(v:Value)(i:Int):Prop:=h.get? it=some { cls:= .type "reversed",data:= .fields #[v,rawInt i] }
section
variable {prog:Program}{w:World}{A:Around}{E:Value->Shared->Prop}{s:Shared}{it l:Addr}{xs:Array Value}
theorem uI {v:Value}{i:Int}(x:IsRv s.heap it v i):s.TypeIs (.ref it) "reversed":=⟨_,x,rfl⟩
theorem next_item {i:Nat}{x:Value}{Q:Option Value->Shared->Prop}(hit:IsRv s.heap it (.ref l) (i:Int))(ht:IsTup s.heap l xs)(hf:(xs.size:Int) < 2 ^ 63)(hx:xs[i]? =some x)
  (hQ:∀h' tk,IsRv h' it (.ref l) ((i:Int) - 1)->bZ it s.heap h' ->Q (some x) { s with heap:=h',toks:=tk }):wpAny (model prog w) A (pyNext (.ref it)) Q E s:=by
 refine a7 (wpAny_attempt (bn (uI hit) jb (bH jb (uI hit) wB ?_ (WK _))));refine a7 (bR rfl ?_);refine a7 (b9 hit rfl rfl ?_);refine a7 (b9 hit rfl rfl ?_);have hi:=(Array.getElem?_eq_some_iff.mp hx).1;have hT:=ht.typeIs;refine a7 (wpAny_specialOf hT slot_tuple_getitem.lookup ?_);refine a7 (wpAny_mkInt ?_);refine a7 (wpAny_attempt (getItem_tuple ht (by omega) (by omega) (seqIndex_of (by omega) (by omega)) (by simpa using hx) ?_))
 refine a7 (b9 hit rfl rfl ?_);refine a7 (br hit (by simp) λg1 z1 e1=> ?_)
 exact aq ⟨x,rfl,aq (hQ g1 _ z1 e1)⟩
theorem next_end {Q:Option Value->Shared->Prop}(hh:A.handled=none)(hit:IsRv s.heap it (.ref l) (-1))
  (hQ:∀h',fK it s.heap h' ->Q none { s with heap:=h' }):wpAny (model prog w) A (pyNext (.ref it)) Q E s:=by
 refine a7 (wpAny_attempt (bn (uI hit) jb (bH jb (uI hit) wB ?_ (WK _))));refine a7 (bR rfl ?_);refine a7 (b9 hit rfl rfl ?_);refine a7 (b9 hit rfl rfl ?_);refine a7 (c_ ?_);refine a7 (show wpAny _ _ _ _ _ _ from ?_);refine a7 (br hit (by simp) λg1 z1 e1=> ?_)
 refine br z1 (by simp) λg2 z2 e2=> ?_
 refine a7 (show wpAny _ _ (newExc _ [] >>= λe=>raiseNew e) _ _ _ from ?_);refine a7 ?_;refine a7 (aZ (a7 (bR (by first | rfl | (simp only[firstArgMember])) (aZ ?_ (by size_fits)))) (by size_fits))
 refine a7 (wpAny_handled ?_);rw[hh];refine a7 (aq (wpAny_throw ?_));refine a7 (wpAny_isInstance ⟨_,af _ rfl,rfl⟩ isSubtype_stop ?_);exact aq (hQ _ (((e1.extBut.trans e2.extBut).push _).push _))
theorem iter_rv {v:Value}{i:Int}{Q:Value->Shared->Prop}(hit:IsRv s.heap it v i)(h:Q (.ref it) s):wpAny (model prog w) A (pyIter (.ref it)) Q E s:=by
 refine wpAny_pyIter_slot (uI hit) WL (bH WL (uI hit) yt ?_ (YS _));exact aq ⟨_,rfl,"reversed",_,uI hit,jb.lookup,h⟩
theorem x6:mroOf (.type "reversed")=pure [.type "reversed",.type "object"]:=by rw[mroOf_type];kernel_rfl
theorem gW:typeLookup (.type "reversed") "__new__"=pure (some (.builtin "reversed.__new__")):=by kernel_rfl
theorem XI:Bind.madeBy (.type "reversed")=pure (some "reversed.__new__"):=madeBy_type x6 gW (by decide+kernel)
theorem gX:isSubtype (.type "reversed") (.type "reversed")=pure true:=by rw[isSubtype_type];kernel_rfl
theorem gY (a:Value):newClass "reversed" ⟨[.type "reversed",a],[]⟩=pure (.type "reversed",[a]):=by
 unfold newClass;simp only[isType,gX,pure_bind,eH,aN,if_false]
theorem YT:entryFor table "reversed.__new__"=some Builtin.«reversed.__new__»:=entryFor_of_tree (by kernel_rfl)
theorem V1 {Q:Fin->Shared->Prop}(ht:IsTup s.heap l xs)(hf:(xs.size:Int) < 2 ^ 63)
  (h:∀tk,Q (.done (.ret (.ref s.heap.objs.size))) { s with heap:=s.heap.push { cls:= .type "reversed",data:= .fields #[.ref l,rawInt ((xs.size:Int) - 1)] },toks:=tk }):
  wpAny (model prog w) A (Builtin.«reversed.__new__» ⟨[.type "reversed",.ref l],[]⟩) Q E s:=by
 have hT:=ht.typeIs;refine a7 (bR (gY _) ?_);refine a7 (bR (by first | rfl | kernel_rfl) ?_)
 refine a7 (bR (by first | rfl | kernel_rfl) ?_)
 refine a7 (wpAny_specialOf hT gT ?_);refine a7 ?_;refine a7 (wpAny_isInstance hT gU ?_);refine a7 (wpAny_specialOf hT slot_tuple_getitem.lookup ?_);refine aq ?_;refine a7 (len_tuple ht hf ?_);refine a7 (bR rfl ?_);refine a7 (show wpAny _ _ (newObj _ (.fields #[.ref l,rawInt _])) _ _ _ from ?_);exact aZ (aq (h _)) (by size_fits)
theorem YU:Slot "reversed" "__init__" "object.__init__":=
 .of (owner:="object") (n:="__init__") (by kernel_rfl) (by decide+kernel) (by decide+kernel) (by decide+kernel)
  (by first | exact .inl (by decide+kernel) | exact .inr (by decide+kernel)) (by kernel_rfl)
theorem YV:TypeCalled "reversed" "reversed.__new__" "object.__init__":=
 ⟨by decide+kernel,by decide+kernel,⟨_,_,x6⟩,XI,by decide+kernel,by kernel_rfl,YU⟩
theorem V2 (a:Value):checkTypeCall "reversed" ⟨[a],[]⟩=pure ():=by kernel_rfl
theorem V3 (a:Value):checkBuiltinCall "reversed.__new__" ⟨[.type "reversed",a],[]⟩=pure ():=by kernel_rfl
theorem call_rvT (ht:IsTup s.heap l xs)(hf:(xs.size:Int) < 2 ^ 63)
  (h:∀tk,Q (.ref s.heap.objs.size) { s with heap:=s.heap.push { cls:= .type "reversed",data:= .fields #[.ref l,rawInt ((xs.size:Int) - 1)] },toks:=tk }):wpAny (model prog w) A (call (.type "reversed") [.ref l]) Q E s:=by
 refine callType_new (S:=λ_ R s=>(∃xs,IsTup s.heap l xs/\(xs.size:Int) < 2 ^ 63/\∀tk,R (.ok (.ret (.ref s.heap.objs.size))) { s with heap:=s.heap.push { cls:= .type "reversed",data:= .fields #[.ref l,rawInt ((xs.size) - 1)] },toks:=tk })) YV (by decide) (V2 _) (V3 _) (λobj=>PySem.F.args_object_init_2 obj _) YT (.of_wp λprog w A R s h=> ?_) ⟨xs,ht,hf,λtk=> ?_⟩
 ·obtain⟨xs,h1,h2,h3⟩:=h;exact V1 h1 h2 λtk=>⟨_,rfl,h3 tk⟩
 ·exact⟨⟨_,af _ rfl,rfl⟩,h tk⟩
end
end PySem.RV
namespace PySem.RV
open PySem PySem.Spec PyProof.Rows
theorem V4:typeLookup (.type "list_reverseiterator") "__len__"=pure none:=by rw[typeLookup_type,builtinLookup_eq_fast];kernel_rfl
theorem XJ:typeLookup (.type "list_reverseiterator") "__length_hint__"=pure (some (.builtin "list_reverseiterator.__length_hint__")):=by rw[typeLookup_type];kernel_rfl
section
variable {G:Array GenState->Array GenState->Prop}{P:Nat->Value->Prop}{St:Nat->Shared->Prop}
theorem yu {Q:List Value->Shared->Prop}(W:WalksS prog w A.in1 I fp wr G n P St)(hT:∀i s,St i s->s.TypeIs (.ref I) "list_reverseiterator")(hst:St 0 s)(hfp:∀b∈fp,b < s.heap.objs.size)(hI:I∈fp)
  (hQ:∀s' acc,Moved wr G s s' ->ItemsOf P acc n->Q acc.toList s') (hn:n<=sizeLine):wpAny (model prog w) A (collect (.ref I)) Q E s:=by
 have nf:=λz=>aX _ (hfp _ z);have nI:s.heap.objs.size ≠ I:=λz=>nf (z ▸ hI);unfold collect;refine a7 (wpAny_runValue (bv F.entry_proto_collect ?_));refine a7 (aZ (aq ⟨bJ F.plain_list_iadd _,bv F.entry_list_iadd ?_⟩));have g0:=W.frame 0 s (s.heap.push { cls:= .type "list",data:= .seq ([]:List _).toArray }) _ hst (aj _) λb _ o e=>a9 _ e;have g1:(s.heap.push { cls:= .type "list",data:= .seq ([]:List _).toArray }).get? _=some _:=af _ rfl;have g2:eI (.ref s.heap.objs.size) (.ref I)=false:=by simp[eI,nI]
 refine(show wpAny _ _ (Builtin.List.listExtendWith _ _ _) _ _ _ from ?_);refine a7 (cM (hT 0 _ g0) ?_);rw[if_neg (by rw[g2];decide)]
 refine a7 (W.self 0 _ _ _ g0 (a7 (bQ ?_)));refine a7 (wpAny_specialOf (hT 0 _ g0) V4 ?_);refine a7 (wpAny_specialOf (hT 0 _ g0) XJ ?_);generalize hid:("list_reverseiterator.__length_hint__")=id0;subst hid;refine a7 (wpAny_isInstance (b:=true) (hT 0 _ g0) (by kernel_rfl) ?_)
 refine aq ?_;refine aq ⟨bJ F.plain_extend_loop _,codeAny_extend_loopS W hn _ nf _ n 0 _ _ _ rfl (aQ _) g0 g1 (ItemsOf.nil P) λs' acc' c' hm hS' hacc=> ?_⟩;exact a7 (wpAny_load hS' (aq (hQ s' _ (Moved.drop_new hm (aj _)) hacc)))
theorem gZ (W:WalksS prog w A.in1.in1 I fp wr G n P St)(hT:∀i s,St i s->s.TypeIs (.ref I) "list_reverseiterator")(hst:St 0 s)(hfp:∀b∈fp,b < s.heap.objs.size)(hI:I∈fp)
  (h:∀s' acc,Moved wr G s s' ->ItemsOf P acc n->Q₁ (.ref s'.heap.objs.size) { s' with heap:=s'.heap.push { cls:= .type "tuple",data:= .seq acc } }) (hsz:n<=sizeLine):
  codeAny (model prog w) A (.call (.builtin "tuple.__new__") ⟨[.type "tuple",.ref I],[]⟩) (wants Q₁ E) s:=by
 refine codeAny_of_tree ?_;refine(show wpAny _ A.in1 (do checkBuiltinCall "tuple.__new__" ⟨[.type "tuple",.ref I],[]⟩;again (.builtin "tuple.__new__" ⟨[.type "tuple",.ref I],[]⟩)) _ _ s from ?_)
 refine a7 (bR (F.newCall_tuple_1 _) (aq ⟨bJ ig _,bv F.entry_tuple_new ?_⟩));rw[cK ig _];have hsub:=sub_tuple_self;have hinit:=init_tuple_lookup;have hmh:=madeHere_tuple;have ty:=hT 0 s hst
 wp_walk using cM ty,yu (hn:=hsz) W hT hst hfp hI
 intro s' acc hm hacc;have e:acc.toList.toArray=acc:=by simp
 refine(show wpAny _ _ (eJ acc.toList.toArray >>= λv=>ret v) _ _ _ from ?_);unfold eJ;refine a7 (aZ (aq ?_) (by rw[e];show acc.size<=sizeLine;rw[hacc.1];exact hsz))
 rw[e];exact h s' acc hm hacc
theorem tuple_lr (W:WalksS prog w A.in1.in1.in1 I fp wr G n P St)(hT:∀i s,St i s->s.TypeIs (.ref I) "list_reverseiterator")(hst:St 0 s)(hfp:∀b∈fp,b < s.heap.objs.size)(hI:I∈fp)
  (hQ:∀s' acc,Moved wr G s s' ->ItemsOf P acc n->Q (.ref s'.heap.objs.size) { s' with heap:=s'.heap.push { cls:= .type "tuple",data:= .seq acc } }) (hsz:n<=sizeLine):
  wpAny (model prog w) A (call (.type "tuple") [.ref I]) Q E s:=
 callType_codes (Q₁:=λobj s₁=>s₁.TypeIs obj _/\Q obj _) fM (F.typeCall_tuple_1 _) F.entry_object_init
  (gZ (hsz:=hsz) W hT hst hfp hI λs' acc hm hacc=>⟨⟨_,af _ rfl,rfl⟩,hQ s' acc hm hacc⟩) λobj s₁ h₁=>
   ⟨h₁.1,fN obj _,object_init_meets fM.init.lookup fM.made (by decide) _ w _ _ _ ⟨h₁.1,rfl,h₁.2⟩⟩
end
end PySem.RV
namespace PV
open PySem PySem.Spec PyProof.Rows L2
def z2i (K:aa)(a:Addr)(n:Nat):It:=
 ⟨λi H=>∃xs x,SqT K H a xs/\xs.length=n/\xs.reverse[i]? =some x,λi H x H' =>H' =H/\∀xs,SqT K H a xs->xs.reverse[i]? =some x,λi H=>∃xs,SqT K H a xs/\xs.length=n/\n<=i⟩
def z2j (K:aa)(a:Addr)(n:Nat):It:=
 ⟨λi H=>∃xs x,SqL K H a xs/\xs.length=n/\xs.reverse[i]? =some x,λi H x H' =>H' =H/\∀xs,SqL K H a xs->xs.reverse[i]? =some x,λi H=>∃xs,SqL K H a xs/\xs.length=n/\n<=i⟩
theorem x8 {α:Type}{xs:List α}{x:α}(h:xs.reverse[i]? =some x):i < xs.length/\xs[xs.length - 1 - i]? =some x:=by
 have hi:=(ai.mp h).1;rw[bO]at hi;rw[fE hi]at h;exact⟨hi,h⟩
theorem V5 {P:Program}{w:World}{K:aa}{tg:Expr}(a it:Addr)(n:Nat):y9 P w K tg (z2i K a n) [it] it (λi h=>i<=n/\RV.IsRv h it (.ref a) ((n:Int) - 1 - (i:Int))) where
 mem:=by simp
 obj:=λi h st b hb=>by
  have e:b=it:=by simpa using hb
  subst e;exact⟨_,st.2,λv z=>nomatch z⟩
 keep:=λi h h' st k=>⟨st.1,k it (by simp) _ st.2⟩
 item:=by
  intro X hP hw hK hc i pins s σ H E I hf st hg;subst hP hw hK;obtain⟨xs,x,hq,hn,hx⟩:=hg;obtain⟨its,rv,p,hz⟩:=I.tuple hq;obtain⟨hi,hx'⟩:=x8 hx;obtain⟨u,hu,ru⟩:=rv.get hx';obtain⟨f0,f1,f2,f3,f4,f5⟩:=hf it (by simp)
  have hl:=rv.length;have e:(n:Int) - 1 - (i:Int)=((xs.length - 1 - i:Nat):Int):=by omega
  have hit:=st.2;rw[e]at hit;have hb:(its.toArray.size:Int) < 2 ^ 63:=by
   rw[bP]at hz;simp;omega
  refine RV.next_item hit p hb (x:=u) (by simpa using hu) λh' tk st' sb=> ?_
  have I1:Inv X pins σ H { s with heap:=h',toks:=tk }:=I.turned (t' :=tk) (λb o hb e=>(sb.2 b hb).trans e) f0 f1 f3 f4 f5;have e2:((xs.length - 1 - i:Nat):Int) - 1=(n:Int) - 1 - ((i+1:Nat):Int):=by omega
  rw[e2]at st';exact⟨u,rfl,ya (s:={ s with heap:=h',toks:=tk }) st' rfl rfl (by decide) ⟨x,H,I1,ru,⟨rfl,λys hy=>by rw[I.tuple_inj hy hq];exact hx⟩,⟨by omega,st'⟩,λb hb=>(hf b hb).1⟩⟩
 done:=by
  intro X hP hw hK hc i pins s σ H E I hf st hg;subst hP hw hK;obtain⟨xs,hq,hn,hx⟩:=hg;obtain⟨f0,f1,f2,f3,f4,f5⟩:=hf it (by simp)
  have hit:=st.2;have h1:=st.1;rw[show (n:Int) - 1 - (i:Int)= -1 by omega]at hit
  exact RV.next_end (I.ok.hd hc) hit λh' eb=>⟨rfl,I.turned (t' :=s.toks) (λb o hb e=>eb b o hb e) f0 f1 f3 f4 f5⟩
 self:=λ_ _ _ _ _ st h=>RV.iter_rv st.2 h
theorem V6 {P:Program}{w:World}{K:aa}{tg:Expr}(a it:Addr)(n:Nat):y9 P w K tg (z2j K a n) [it] it (λi h=>i<=n/\h.IsRevIter it a ((n:Int) - 1 - (i:Int))) where
 mem:=by simp
 obj:=λi h st b hb=>by
  have e:b=it:=by simpa using hb
  subst e;obtain⟨o,e,c,d⟩:=st.2;exact⟨o,e,λv z=>by rw[d]at z;cases z⟩
 keep:=λi h h' st k=>⟨st.1,st.2.at λo e=>k it (by simp) o e⟩
 item:=by
  intro X hP hw hK hc i pins s σ H E I hf st hg;subst hP hw hK;obtain⟨xs,x,hq,hn,hx⟩:=hg;obtain⟨its,rv,p,hz⟩:=I.list hq;obtain⟨hi,hx'⟩:=x8 hx;obtain⟨u,hu,ru⟩:=rv.get hx';obtain⟨f0,f1,f2,f3,f4,f5⟩:=hf it (by simp)
  have e:(n:Int) - 1 - (i:Int)=((xs.length - 1 - i:Nat):Int):=by omega
  have hit:=st.2;rw[e]at hit;refine wpAny_pyNext_rev_item hit p.isList (x:=u) (by simpa using hu) λh' st' sb=> ?_
  have I1:Inv X pins σ H { s with heap:=h' }:=I.turned (t' :=s.toks) (λb o hb e=>(sb.2 b hb).trans e) f0 f1 f3 f4 f5;have e2:((xs.length - 1 - i:Nat):Int) - 1=(n:Int) - 1 - ((i+1:Nat):Int):=by omega
  rw[e2]at st';obtain⟨o,e,c,d⟩:=id st';exact⟨u,rfl,ya (s:={ s with heap:=h' }) e c d (by decide) ⟨x,H,I1,ru,⟨rfl,λys hy=>by rw[I.list_inj hy hq];exact hx⟩,⟨by omega,st'⟩,λb hb=>(hf b hb).1⟩⟩
 done:=by
  intro X hP hw hK hc i pins s σ H E I hf st hg;subst hP hw hK;obtain⟨xs,hq,hn,hx⟩:=hg;obtain⟨f0,f1,f2,f3,f4,f5⟩:=hf it (by simp)
  have hit:=st.2;have h1:=st.1;rw[show (n:Int) - 1 - (i:Int)= -1 by omega]at hit
  exact wpAny_pyNext_rev_end (I.ok.hd hc) hit λh' eb=>⟨rfl,I.turned (t' :=s.toks) (λb o hb e=>eb b o hb e) f0 f1 f3 f4 f5⟩
 self:=λ_ _ _ _ _ st h=>wpAny_pyIter_revIter st.2 h
theorem zF.rev {H:Hp}:∀{vs:List V} {ts:List T},zF H vs ts->zF H vs.reverse ts.reverse
 | _,_,.nil=> .nil
 | _,_,.cons r t=>by rw[c9,c9];exact(zF.rev t).append (.cons r .nil)
theorem G1 {K:aa}{B1 H1:Hp}{a:Addr}{xs:List V}{ts:List T}(h:B1 a=some (.tup xs))(r:zF B1 xs ts):rI B1 H1 (z2i K a xs.length) ts.reverse:=λB2 H2 s1 s2=>by
 have h2:=s2 _ _ (s1 _ _ h);have hr:=r.rev;refine⟨λi hi=> ?_,λi t x H3 e y=> ?_,λi hi=>⟨xs,SqT.of h2,rfl,by rw[bO]at hi;rw[r.length];exact hi⟩⟩
 ·obtain⟨v,e,_⟩:=hr.get (ae hi);exact⟨xs,v,SqT.of h2,rfl,e⟩
 ·obtain⟨rfl,y⟩:=y;obtain⟨v,e1,r1⟩:=hr.get e;have:=y xs (SqT.of h2);rw[e1]at this;cases this;refine⟨zr.refl _, ?_⟩;rw[zO.self B2 _ s2];exact r1.mono s1
theorem G4 {K:aa}{B1 H1:Hp}{a:Addr}{xs:List V}{ts:List T}(h:B1 a=some (.lst xs))(r:zF B1 xs ts):rI B1 H1 (z2j K a xs.length) ts.reverse:=λB2 H2 s1 s2=>by
 have h2:=s2 _ _ (s1 _ _ h);have hr:=r.rev;refine⟨λi hi=> ?_,λi t x H3 e y=> ?_,λi hi=>⟨xs,SqL.of h2,rfl,by rw[bO]at hi;rw[r.length];exact hi⟩⟩
 ·obtain⟨v,e,_⟩:=hr.get (ae hi);exact⟨xs,v,SqL.of h2,rfl,e⟩
 ·obtain⟨rfl,y⟩:=y;obtain⟨v,e1,r1⟩:=hr.get e;have:=y xs (SqL.of h2);rw[e1]at this;cases this;refine⟨zr.refl _, ?_⟩;rw[zO.self B2 _ s2];exact r1.mono s1
def z2k (fa:En->R T):En->R (List T):=λρ=>(fa ρ).bind λt=>(JO t).bind λxs=> .ok xs.reverse
def V7:T->R T
 | .lst xs=>if xs.length<=bnd then .ok (.tup xs.reverse) else .bad
 | _=> .bad
section
variable {X:Cx}{Y:Fx}{a b tg:Expr}{fa fb:En->R T}{pos p p' pos' :Pos}
theorem G5 {ta:TA}(hg:Gl X "reversed")(hm:X.mg "reversed"=none)(ha:PA X [a] ta)(hs:St1 X a:=by exact st1 rfl):
  PI X tg (.Call (.Name "reversed" p) [a] [] pos) (λσ H R=>ta σ H λvs H1=>∃l xs,vs=[.ref l]/\((H1 l=some (.lst xs)/\R (z2j X.K l xs.length) H1)\/(H1 l=some (.tup xs)/\R (z2i X.K l xs.length) H1))):=by
 intro pins s σ H R I h;refine Call_ (j8 I hg hm boot_reversed (aV (thn (ha pos _ s σ H _ I h) λus s1 ⟨vs,H1,I1,r1,q1⟩=> ?_) hs rfl));obtain⟨l,xs,e,q⟩:=q1;subst e;obtain⟨u,rfl,ru⟩:=Zt r1;obtain rfl:u=Value.ref l:=ru;have ok:∀b∈[s1.heap.objs.size],Jp X _ H1 b:=λb hb=>by
  have e:=by simpa using hb
  subst e;exact I1.fpOk (aj _) (I1.hok.fresh (aj _))
 rcases q with ⟨hl,q⟩ | ⟨hl,q⟩
 ·obtain⟨its,rv,p,hz⟩:=I1.list (SqL.of hl);have e:((its.toArray.size):Int) - 1=(xs.length) - 1 - ((0):Int):=by have:=rv.length;simp;omega
  refine call_reversed_list p.isList ?_;rw[e];have st:(s1.heap.push (revObj l ((xs.length) - 1 - ((0):Int)))).IsRevIter _ l _:=⟨_,af _ rfl,rfl,rfl⟩;refine wpAny_pyIter_revIter st ?_;exact⟨s1.heap.objs.size,[s1.heap.objs.size],_,_,H1,rfl,I1.kept (λb o e=>a9 _ e),V6 l _ _,⟨aQ _,st⟩,ok,q⟩
 ·obtain⟨its,rv,p,hz⟩:=I1.tuple (SqT.of hl);have hlen:=rv.length;have e:((its.toArray.size):Int) - 1=(xs.length) - 1 - ((0):Int):=by simp;omega
  refine RV.call_rvT p (by rw[bP]at hz;omega) λtk=> ?_
  rw[e];refine RV.iter_rv (af _ rfl) ?_;exact⟨s1.heap.objs.size,[s1.heap.objs.size],_,_,H1,rfl,I1.kept (λb o e=>a9 _ e),V5 l _ _,⟨aQ _,af _ rfl⟩,ok,q⟩
theorem z2l (hg:Gl X "reversed")(hm:X.mg "reversed"=none)(ha:Snd X Y a fa)(hs:St1 X a:=by exact st1 rfl):Wm X Y tg (.Call (.Name "reversed" p) [a] [] pos) (z2k fa):= .mk λρ=>
 PI.imp (G5 hg hm (zz (ha ρ) zQ hs) hs) λσ H R ⟨B,I,q⟩=>step I q λt v H1 _ s1 r1 I1 q1=>by
  cases r1 with
  | @tup l xs ts h r=>exact⟨l,xs,rfl,.inr ⟨I1.sB _ _ h,ZH I1 (show Po Y rI _ H1 _ R from q1) (G1 h r)⟩⟩
  | @lst l xs ts h r=>exact⟨l,xs,rfl,.inl ⟨I1.sB _ _ h,ZH I1 (show Po Y rI _ H1 _ R from q1) (G4 h r)⟩⟩
  | _=>exact q1.elim
theorem Ul:∀{xs ys:List V} {us ws:List Value},zX xs us->zX ys ws->zX (xs++ys) (us++ws)
 | _,_,_,_,.nil,q=>q
 | _,_,_,_,.cons r t,q=> .cons r (Ul t q)
theorem Um:∀{xs:List V} {us:List Value},zX xs us->zX xs.reverse us.reverse
 | _,_,.nil=> .nil
 | _,_,.cons r t=>by rw[c9,c9];exact Ul (Um t) (.cons r .nil)
theorem XL {its:List Value}{acc:Array Value}(h:ItemsOf (λi v=>its.toArray[its.toArray.size - 1 - i]? =some v) acc its.toArray.size):acc.toList=its.reverse:=by
 have h1:=by
  have:=h.1;simpa using this
 have h2:=h.2;refine cI λi=> ?_
 by_cases hi:i < its.length
 ·have hlt:i < acc.toList.length:=by simp;omega
  have e:=ae hlt;have:=h2 i _ (by rw[← Array.getElem?_toList];exact e)
  rw[fE hi,e,← this];simp
 ·rw[aU (by simp;omega),aU (by simp;omega)]
theorem G6 (hh:X.A.handled=none)(gl:Gl X "tuple")(mg:X.mg "tuple"=none)(gl' :Gl X "reversed")(mg' :X.mg "reversed"=none)(ha:Snd X Y a fa)(hs:St1 X a:=by exact st1 rfl)(hs' :St1 X (.Call (.Name "reversed" p') [a] [] pos'):=by exact st1 rfl):
  Snd X Y (.Call (.Name "tuple" p) [.Call (.Name "reversed" p') [a] [] pos'] [] pos) (ap1 V7 fa):= .mk λρ=>by
 intro pins s σ H Q I ⟨B,J,q⟩;have hq:tS Y rC fa ρ σ H (λv H1=>∃l xs,v= .ref l/\H1 l=some (.lst xs)/\xs.length<=sizeLine/\∀t,H1 t=none->Q (.ref t) (upd H1 t (.tup xs.reverse))):=by
  refine step J q λt v H1 _ s1 r1 I1 q1=> ?_;cases r1 with
  | @lst l xs ts h r=>
   have q1:Po Y rC _ H1 (if ts.length<=bnd then .ok (.tup ts.reverse) else .bad) Q:=q1
   split at q1
   ·rename_i hb;exact⟨l,xs,rfl,I1.sB _ _ h,by rw[r.length];exact Zp hb,λt ht=>KJ I1.sB q1 rfl r.rev ht⟩
   ·exact q1.elim
  | _=>exact q1.elim
 refine bU (j8 I gl mg PyProof.Rows.Boot.«tuple» (aV (rest:=[]) ?_ hs' rfl));rw[hs'];refine dQ (bU (j8 I gl' mg' boot_reversed (aV (e:=a) (rest:=[]) ?_ hs rfl)));refine thn ((zz (ha ρ) zQ hs) pos' pins s σ H (λvs H1=>∃l xs,vs=[.ref l]/\H1 l=some (.lst xs)/\xs.length<=sizeLine/\∀t,H1 t=none->Q (.ref t) (upd H1 t (.tup xs.reverse))) I ?_) λus s1 ⟨vs,H1,I1,r1,l,xs,e,hl,hz,q1⟩=> ?_
 ·obtain⟨B',J',q'⟩:=hq;refine⟨B',J', ?_⟩;revert q';cases fa ρ with
  | bad=>exact λq' =>q'
  | ex c=>exact λq' =>q'
  | ok t=>
   intro q' v H1 s1 r1;obtain⟨l,xs,rfl,h⟩:=q' v H1 s1 r1;exact⟨l,xs,rfl,h⟩
 subst e;obtain⟨u,rfl,ru⟩:=Zt r1;obtain rfl:u=Value.ref l:=ru;obtain⟨its,rv,pl,_⟩:=I1.list (SqL.of hl);have hlt:=I1.hok.lt hl;refine call_reversed_list pl.isList (i8 ?_);have e0:((its.toArray.size):Int) - 1 - ((0:Nat))=((its.toArray.size):Int) - 1:=by omega
 refine RV.tuple_lr (Walks.listRev (A:=X.A.in1.in1.in1) hh _ l (aD hlt) _).toS (λi s st=>st.2.1.typeIs) ⟨aQ _,⟨_,af _ rfl,rfl,by rw[e0];rfl⟩,pl.isList.push _⟩ (λb hb=> ?_) (by simp) (λs' acc hm hacc=> ?_) (by rw[aC,← rv.length];exact hz)
 ·have hb:=by simpa using hb
  rcases hb with rfl | rfl
  ·rw[bg];exact bT _
  ·rw[bg];exact bF hlt
 obtain⟨h',g',d',tk',os'⟩:=s';have e1:g' =s1.gens:=hm.gens;have e2:d' =s1.drawn:=hm.drawn;have e3:=hm.os;subst e1 e2 e3;have kp:∀b o,s1.heap.get? b=some o->h'.get? b=some o:=λb o e=>hm.heap b o (λz=>by
  have z:b=s1.heap.objs.size:=by simpa using z
  have:=ao e;rw[z]at this;exact aX _ this) (a9 _ e)
 have I2:=I1.kept (t' :=tk') kp;have ea:acc=its.reverse.toArray:=by rw[← XL hacc]
 rw[ea];refine⟨.ref h'.objs.size,upd H1 _ (.tup xs.reverse),I2.laid (λb u e=>a9 _ e) (aj _) ⟨by rw[bO];exact hz,its.reverse,Um rv,⟨_,af _ rfl,rfl,_,rfl⟩,.inr ⟨_,af _ rfl,rfl⟩⟩,rfl,q1 _ (I2.hok.fresh (aj _))⟩
end
noncomputable def wo:List T->Option Bool
 | []=>some false
 | .bl k :: r=>match wo r with | some j=>some (k || j) | none=>none
 | _ :: _=>none
def z2m:T->R T
 | .lst ts=>match wo ts with | some k=> .ok (.bl k) | none=> .bad
 | _=> .bad
theorem YW:∀{H:Hp} {xs:List V} {ts:List T} {its:List Value} {k:Bool},zF H xs ts->zX xs its->wo ts=some k->∃tr:Nat->Bool,(∀i v,its[i]? =some v->v=Value.bool (tr i))/\(a_ its.length).any tr=k
 | _,_,_,_,k,.nil,.nil,h=>by
  have h' :=h;cases h';exact⟨λ_=>true,λi v e=>by simp at e,rfl⟩
 | H,_,_,_,k,.cons r rs,.cons (b:=u) rv vs,h=>by
  cases r with
  | bl b=>
   unfold wo at h;split at h
   ·rename_i j e;cases h;obtain⟨tr,h1,h2⟩:=YW rs vs e;obtain rfl:u=Value.bool b:=rv;refine⟨λi=>match i with | 0=>b | i+1=>tr i,λi v e=> ?_, ?_⟩
    ·cases i with
     | zero=>simp at e;exact e.symm
     | succ i=>exact h1 i v (by simpa using e)
    ·rw[am,cx,eD,List.any_map,← h2];rfl
   ·cases h
  | _=>cases h
section
variable {X:Cx}{Y:Fx}{a b:Expr}{fa fb:En->R T}{pos p p' pos' pt:Pos}{elts:List Expr}{kk:Nat}
theorem YX (hh:X.A.handled=none):Zc X (.builtin "any") (λvs H Q=>∃l xs ts k,vs=[.ref l]/\H l=some (.lst xs)/\zF H xs ts/\wo ts=some k/\Q (.bl k) H):=by
 intro pins s σ H vs us Q I rv h;obtain⟨l,xs,ts,k,rfl,hl,r,hk,q⟩:=h;obtain⟨u,rfl,ru⟩:=Zt rv;obtain rfl:u=Value.ref l:=ru;obtain⟨its,rv,p,_⟩:=zT I (.inl hl) r;obtain⟨tr,h1,h2⟩:=YW r rv hk;refine call_any_walk (c8 p ?_);have hlt:=I.hok.lt hl;have old:∀b o,s.heap.get? b=some o->(s.heap.push { cls:= .type "list_iterator",data:= .fields #[.ref l,.int 0 0] }).get? b=some o:=λb o e=>a9 _ e;refine⟨s.heap.objs.size,_,_,_,_,_,tr,rfl,dX (A:=X.A.in1) hh _ l (aD hlt) its.toArray, ?_, ?_,λh' tk hk' => ?_⟩
 ·refine⟨?_,p.at λo e=>old _ o e⟩;exact⟨_,af _ rfl,rfl,rfl⟩
 ·intro i v s' Q' E' hi hq;rw[h1 i v (by simpa using hi)]
  exact aY hq
 ·rw[aC,h2];refine⟨.bl k,H,I.kept (λb o e=>hk' b o ?_ (old b o e)),rfl,q⟩;simp;exact aD (ao e)
theorem z2n (hh:X.A.handled=none)(gl:Gl X "any")(mg:X.mg "any"=none)(ha:j9 X Y a fa)(hs:St1 X a:=by exact st1 rfl):Snd X Y (.Call (.Name "any" p) [a] [] pos) (ap1 z2m fa):=
 JI (YX hh) (λv t B H Q r sB q=>by
  cases r with
  | @lst l xs ts h r=>
   have q:Po Y rC B H (match wo ts with | some k=> .ok _ | none=> .bad) Q:=q
   split at q
   ·rename_i k e;exact⟨l,xs,ts,k,rfl,h,r,e,po0 sB q rfl (.bl k)⟩
   ·exact q.elim
  | _=>exact q.elim) gl mg PyProof.Rows.Boot.«any» ha hs
end
noncomputable def Uo (x:Int):List Int->List Int
 | []=>[x]
 | y :: ys=>if x<=y then x :: y :: ys else y :: Uo x ys
def YY:List Int->List Int
 | []=>[]
 | x :: xs=>Uo x (YY xs)
def V8:T->R T
 | .lst ts=>match Z2 ts with | some l=>if ts.length < 64 then .ok (.lst ((YY l).map T.int)) else .bad | none=> .bad
 | _=> .bad
theorem JQ (x:Int):∀ys:List Int,(Uo x ys).Perm (x :: ys)
 | []=> .refl _
 | y :: ys=>by
  unfold Uo;split
  ·exact .refl _
  ·exact((JQ x ys).cons y).trans (.swap x y ys)
theorem WM:∀xs:List Int,(YY xs).Perm xs
 | []=> .refl _
 | x :: xs=>(JQ x _).trans ((WM xs).cons x)
theorem JR (x:Int):∀ys:List Int,ys.Pairwise (·<=·)->(Uo x ys).Pairwise (·<=·)
 | [],_=>by unfold Uo;simp
 | y :: ys,h=>by
  unfold Uo;rw[cB]at h;split
  ·rename_i hx;refine cB.mpr ⟨λz hz=> ?_,cB.mpr h⟩;rcases ak.mp hz with rfl | hz
   ·exact hx
   ·exact di hx (h.1 z hz)
  ·refine cB.mpr ⟨λz hz=> ?_,JR x ys h.2⟩;rcases ak.mp ((JQ x ys).mem_iff.mp hz) with rfl | hz
   ·omega
   ·exact h.1 z hz
theorem JS:∀xs:List Int,(YY xs).Pairwise (·<=·)
 | []=> .nil
 | x :: xs=>JR x _ (JS xs)
theorem WN:∀(xs ys:List Int),xs.Perm ys->xs.Pairwise (·<=·)->ys.Pairwise (·<=·)->xs=ys
 | [],ys,p,_,_=>(List.nil_perm.mp p).symm
 | x :: xs,[],p,_,_=>by cases List.perm_nil.mp p
 | x :: xs,y :: ys,p,h1,h2=>by
  rw[cB]at h1 h2;have e:x=y:=by
   have a1:x<=y:=by
    rcases ak.mp (p.mem_iff.mpr (ab)) with z | z
    ·omega
    ·exact h1.1 y z
   have a2:y<=x:=by
    rcases ak.mp (p.mem_iff.mp (ab)) with z | z
    ·omega
    ·exact h2.1 x z
   omega
  subst e;rw[WN xs ys (List.Perm.cons_inv p) h1.2 h2.2]
theorem jJ:∀{its:List Value} {ns:List Int},IntsAre its ns->zX (ns.map V.int) its:=by
 intro its ns h
 induction h with
 | nil=>exact .nil
 | cons n t _ ih=>exact .cons ⟨_,rfl⟩ ih
theorem Up:∀(ps:List (Int×Tok)),IntsAre (ps.map λp=>Value.int p.1 p.2) (ps.map (·.1))
 | []=> .nil
 | p :: ps=> .cons _ _ (Up ps)
theorem JT:∀ns:List Int,zF H (ns.map V.int) (ns.map T.int)
 | []=> .nil
 | n :: ns=> .cons (.int n) (JT ns)
section
theorem yv:Zc X (.builtin "sorted") (λvs H Q=>∃l xs ts is,vs=[.ref l]/\H l=some (.lst xs)/\zF H xs ts/\Z2 ts=some is/\ts.length < 64/\∀r,H r=none->Q (.ref r) (upd H r (.lst ((YY is).map V.int)))):=by
 intro pins s σ H vs us Q I rv h;obtain⟨l,xs,ts,is,rfl,hl,r,hk,h64,q⟩:=h;obtain⟨u,rfl,ru⟩:=Zt rv;obtain rfl:u=Value.ref l:=ru;obtain⟨its,rv,p,hlen,_⟩:=zT I (.inl hl) r;obtain⟨ps,h1,h2⟩:=JP r rv hk;refine sorted_ints p (h1 ▸ Up ps) (by omega) λout ns' a1 a2 a3=> ?_
 have e:=WN _ _ (a2.trans (by rw[h2];exact(WM is).symm)) a3 (JS is)
 obtain⟨n,he⟩:=sortedAll_at _ its out;have hle:s.heap.objs.size<=s.heap.objs.size+1:=dB _;refine⟨.ref _,upd H _ _,I.laid (λb u e=>sortedAll_old e) hle ?_,rfl,by have:=q _ (I.hok.fresh hle);rw[← e]at this;exact this⟩
 have hl2:ns'.length=ts.length:=by
  have h3:=a2.length_eq;rw[ac]at h3;have h4:its.length=ps.length:=by rw[h1,ac]
  omega
 exact⟨by rw[ac,bP];omega,out.toList,n,jJ a1,he⟩
theorem G7 (gl:Gl X "sorted")(mg:X.mg "sorted"=none)(ha:j9 X Y a fa)(hs:St1 X a:=by exact st1 rfl):Snd X Y (.Call (.Name "sorted" p) [a] [] pos) (ap1 V8 fa):=
 JI yv (λv t B H Q r sB q=>by
  cases r with
  | @lst l xs ts h r=>
   have q:Po Y rC B H (match Z2 ts with | some l=>if ts.length < 64 then .ok _ else .bad | none=> .bad) Q:=q
   split at q
   ·rename_i is e;split at q
    ·rename_i h64;refine⟨l,xs,ts,is,rfl,h,r,e,h64,λz hz=> ?_⟩;exact q _ _ (zr.new hz _) (.lst (ja hz _) (JT _))
    ·exact q.elim
   ·exact q.elim
  | _=>exact q.elim) gl mg PyProof.Rows.Boot.«sorted» ha hs
end
end PV
namespace PySem.RV
open PySem PySem.Spec PyProof.Rows PySem.Builtin.SmallTypes
theorem draws_tup (hh:A.handled=none)(it l:Addr)(hne:l ≠ it)(items:Array Value):Draws prog w A it [it,l] items.size (λi v=>items[i]? =some v) (λi h=>h.IsTupleIter it l i/\h.IsTuple l items) where
 live:=λi h st=>(ZG.nx_tup hne items).there st it (.head _)
 frame:=λi h h' st hk=>(ZG.nx_tup hne items).keep st hk
 item:=λi s Q E hi st hQ=>ZG.tup_item st.1 st.2 (x:=items[i]) (by simp[hi]) λh' a b=>hQ _ h' s.toks (by simp[hi]) ⟨a,st.2.extBut b.extBut hne⟩ b
 done:=λs Q E st hE=>ZG.tup_stop hh st.1 st.2 (by simp) hE
noncomputable abbrev eOb (i:Addr):Obj:={ cls:= .type "enumerate",data:= .fields #[.none,.bool false,.ref i,rawInt 0,.none,.none] }
theorem YZ (l:Addr)(items:Array Value)(n:Nat)(dct:Option Addr)(sl:Array (Option Value)):
  Meets (Builtin.«enumerate.__new__» ⟨[.type "enumerate",.ref l],[]⟩) (λ_ R s=>s.heap.get? l=some { cls:= .type "tuple",dict:=dct,data:= .seq items n,slots:=sl }/\
   R (.ok (.ret (.ref (s.heap.push (ZG.oT l)).objs.size))) { s with heap:=(s.heap.push (ZG.oT l)).push (eOb s.heap.objs.size) }):=
 .of_wp λprog w A R s h=>by
  obtain⟨hp,g,d,tk,os⟩:=s;obtain⟨hl,h⟩:=h;have hsub:=sub_enumerate;have hL:ie (iF ⟨hp,g,d,tk,os⟩) l items:=⟨_,hl,rfl,n,rfl⟩
  wp_walk using cj hl
  refine wpAny_stack_any λst=>aq ?_;split
  ·rename_i c _ _ _ _ _;cases (c == Value.type "enumerate") <;> (wp_walk using cj hl,wpAny_pyIter_tuple hL;exact⟨_,rfl,h⟩)
  ·wp_walk using cj hl,wpAny_pyIter_tuple hL
   exact⟨_,rfl,h⟩
theorem enum_callT (hL:s.heap.IsTuple l items)
  (h:∀h',IsEnum h' (s.heap.objs.size+1) s.heap.objs.size 0 .none->h'.IsTupleIter s.heap.objs.size l 0->(∀b o,s.heap.get? b=some o->h'.get? b=some o)->Q (.ref (s.heap.objs.size+1)) { s with heap:=h' }):
  wpAny (model prog w) A (call (.type "enumerate") [.ref l]) Q E s:=by
 obtain⟨⟨c,dct,dt,sl⟩,hl,hc,n,hd⟩:=hL;obtain rfl:c= .type _:=hc;obtain rfl:dt= .seq _ n:=hd;refine callType_new F.called_enumerate (by decide) (F.typeCall_enumerate_1 _) (F.newCall_enumerate_1 _) (λobj=>fN obj _) F.entry_enumerate_new (YZ l _ n dct sl) ⟨hl, ?_⟩
 have hz:(s.heap.push (ZG.oT l)).objs.size=s.heap.objs.size+1:=bg ..;have e1:((s.heap.push (ZG.oT l)).push (eOb s.heap.objs.size)).get? _=some _:=af _ rfl;rw[hz]at e1;rw[hz];exact⟨⟨_,e1,rfl⟩,h _ e1 ⟨_,a9 _ (af _ rfl),rfl,rfl⟩ λb o x=>a9 _ (a9 _ x)⟩
end PySem.RV
namespace PV
open PySem PySem.Spec PyProof.Rows L2
def z2o (K:aa)(l:Addr)(n:Nat):It:=
 ⟨λi H=>∃xs x,SqT K H l xs/\xs.length=n/\xs[i]? =some x,λi H v H' =>∃p x,H p=none/\v= .ref p/\(∀xs,SqT K H l xs->xs[i]? =some x)/\H' =upd H p (.tup [.int i,x]),λi H=>∃xs,SqT K H l xs/\xs.length=n/\n<=i⟩
theorem yw {P:Program}{w:World}{K:aa}{elts:List Expr}{kk:Nat}{pt:Pos}(e it l:Addr)(n:Nat)(hei:e ≠ it)(hle:l ≠ e)(hli:l ≠ it):
  y9 P w K (.Tuple elts kk pt) (z2o K l n) [e,it] e (λi h=>i<=n/\(∃old,IsEnum h e it i old)/\h.IsTupleIter it l i) where
 mem:=by simp
 obj:=λi h st b hb=>by
  obtain⟨_,⟨old,he⟩,o,e1,c,d⟩:=st;rcases ak.mp hb with rfl | hb
  ·exact⟨_,he,λv z=>nomatch z⟩
  ·have z:b=it:=by simpa using hb
   subst z;exact⟨o,e1,λv z=>by rw[d]at z;cases z⟩
 keep:=λi h h' st k=>by
  obtain⟨hn,⟨old,he⟩,o,e1,r⟩:=st;exact⟨hn,⟨old,k e (by simp) _ he⟩,o,k it (by simp) o e1,r⟩
 item:=by
  intro X hP hw hK hc i pins s σ H E I hf st hg;subst hP hw hK;obtain⟨xs,x,hq,hxn,hx⟩:=hg;obtain⟨its,rv,p,hz⟩:=I.tuple hq;obtain⟨u,hu,ru⟩:=rv.get hx;obtain⟨hin,⟨old,he⟩,hit⟩:=st;have hi:i < its.toArray.size:=by
   have:=(ai.mp hu).1;simpa using this
  have D:=RV.draws_tup (prog:=X.prog) (w:=X.w) (A:=X.A.in1) (I.ok.hd hc) it l hli its.toArray;have hef:e ∉ [it,l]:=λz=>by
   rcases ak.mp z with z | z
   ·exact hei z
   ·exact hle (aM.mp z).symm
  have WE:=WalksT.enumerateD D e hei hef (.head _);refine WE.item i s _ _ hi ⟨⟨old,he⟩,hit,p⟩ λT vals h' tk hP hT hTup hM hk=> ?_;obtain⟨t,y,hy,rfl⟩:=hP;have hyu:y=u:=by
   have:its[i]? =some y:=by simpa using hy
   rw[hu]at this;exact(aB this).symm
  subst hyu;refine⟨.ref T,rfl, ?_⟩;refine WE.go elts kk pt i T _ _ _ hM λh2 hst2 hk2=> ?_;have hTn:H T=none:=I.hok.fresh hT;have hTne:∀b∈[e,it],b ≠ T:=λb hb z=>by
   obtain⟨_,_,h3,h4⟩:=hM;rcases ak.mp hb with rfl | hb
   ·exact h3 z.symm
   ·have:b=it:=by simpa using hb
    subst this;exact h4 z.symm
  have UF:IsTup h2 T #[.int i t,y]:=by
   obtain⟨o,eo,r⟩:=hTup;exact⟨o,hk2 T o (λhb=>hTne T hb rfl) eo,r⟩
  refine⟨.ref T,upd H T (.tup [.int i,x]),Inv.laidT (s:=s) (h' :=h2) (ch:=[e,it]) (tk:=tk) I hf (λb o hb e=>hk2 b o hb (hk b o hb e)) (λb o hb _=> ?_) hT ⟨by rw[bP];show 2<=16777216;decide,[.int i t,y],.cons ⟨t,rfl⟩ (.cons ru .nil),UF,.inl ⟨_,_,rfl⟩⟩,rfl,⟨T,x,hTn,rfl,λys hy=>by rw[I.tuple_inj hy hq];exact hx,rfl⟩,⟨by have:=(ai.mp hx).1;omega,hst2.1,hst2.2.1⟩,λb hb=> ?_⟩
  ·obtain⟨⟨old2,he2⟩,⟨o2,eo2,_⟩,_⟩:=hst2;rcases ak.mp hb with rfl | hb
   ·exact⟨_,he2⟩
   ·have:b=it:=by simpa using hb
    subst this;exact⟨o2,eo2⟩
  ·rw[zv (hTne b hb)];exact(hf b hb).1
 done:=by
  intro X hP hw hK hc i pins s σ H E I hf st hg;subst hP hw hK;obtain⟨xs,hq,hxn,hx⟩:=hg;obtain⟨its,rv,p,hz⟩:=I.tuple hq;obtain⟨hin,⟨old,he⟩,hit⟩:=st;have hl:=rv.length;have D:=RV.draws_tup (prog:=X.prog) (w:=X.w) (A:=X.A.in1) (I.ok.hd hc) it l hli its.toArray;have hn:its.toArray.size=i:=by simp;omega
  refine wpAny_pyNext_enum_endD D he (by rw[hn];exact⟨hit,p⟩) λh' hk=>⟨rfl, ?_⟩
  obtain⟨f0,f1,f2,f3,f4,f5⟩:=hf it (by simp)
  exact I.turned (t' :=s.toks) (λb o hb e=>hk b o hb e) f0 f1 f3 f4 f5
 self:=λ_ _ _ _ _ st h=>let ⟨_,⟨_,he⟩,_⟩:=st;wpAny_pyIter_enum he h
theorem V9 {K:aa}{B1 H1:Hp}{a:Addr}{xs:List V}{ts:List T}(h:B1 a=some (.tup xs))(r:zF B1 xs ts):rI B1 H1 (z2o K a xs.length) (jM ts):=λB2 H2 s1 s2=>by
 have h2:=s2 _ _ (s1 _ _ h);rw[Je];refine⟨λi hi=> ?_,λi t x H3 e y=> ?_,λi hi=>⟨xs,SqT.of h2,rfl,by rw[r.length];exact hi⟩⟩
 ·obtain⟨v,e,_⟩:=r.get (ae hi);exact⟨xs,v,SqT.of h2,rfl,e⟩
 ·obtain⟨p,v,hp,rfl,y,rfl⟩:=y;obtain⟨t',et,rfl⟩:=WJ e;obtain⟨v',e1,r1⟩:=r.get et;have:=y xs (SqT.of h2);rw[e1]at this;cases this;refine⟨zr.new hp _,.tup (ja hp _) (.cons (.int _) (.cons ?_ .nil))⟩;exact(r1.mono s1).mono (zO.ge s2 (zr.new hp _))
def Uq (fa:En->R T):En->R (List T):=λρ=>(fa ρ).bind λt=>match t with
 | .tup xs=> .ok (jM xs)
 | _=> .bad
section
theorem Va {ta:TA}(hg:Gl X "enumerate")(hm:X.mg "enumerate"=none)(ha:PA X [a] ta)(hs:St1 X a:=by exact st1 rfl):
  PI X (.Tuple elts kk pt) (.Call (.Name "enumerate" p) [a] [] pos) (λσ H R=>ta σ H λvs H1=>∃l xs,vs=[.ref l]/\H1 l=some (.tup xs)/\R (z2o X.K l xs.length) H1):=by
 intro pins s σ H R I h;refine Call_ (j8 I hg hm PyProof.Rows.Boot.«enumerate» (aV (thn (ha pos _ s σ H _ I h) λus s1 ⟨vs,H1,I1,r1,q1⟩=> ?_) hs rfl));obtain⟨l,xs,e,hl,q⟩:=q1;subst e;obtain⟨u,rfl,ru⟩:=Zt r1;obtain rfl:u=Value.ref l:=ru;obtain⟨its,rv,pl,hz⟩:=I1.tuple (SqT.of hl);have hlt:=I1.hok.lt hl;refine RV.enum_callT (show s1.heap.IsTuple l _ from pl) λh' he hit hk=>wpAny_pyIter_enum he ?_;have f:∀b∈[s1.heap.objs.size+1,s1.heap.objs.size],Jp X _ H1 b:=λb hb=>by
  rcases ak.mp hb with rfl | hb
  ·exact I1.fpOk (dB _) (I1.hok.fresh (dB _))
  ·have z:=by simpa using hb
   subst z;exact I1.fpOk (aj _) (I1.hok.fresh (aj _))
 exact⟨s1.heap.objs.size+1,[s1.heap.objs.size+1,s1.heap.objs.size],_,_,H1,rfl,I1.kept hk,yw _ _ l _ (iA _) (aD (bF hlt)) (aD hlt),⟨aQ _,⟨_,he⟩,hit⟩,f,q⟩
theorem XM (hg:Gl X "enumerate")(hm:X.mg "enumerate"=none)(ha:Snd X Y a fa)(hs:St1 X a:=by exact st1 rfl):Wm X Y (.Tuple elts kk pt) (.Call (.Name "enumerate" p) [a] [] pos) (Uq fa):= .mk λρ=>
 PI.imp (Va hg hm (zz (ha ρ) zQ hs) hs) λσ H R ⟨B,I,q⟩=>step I q λt v H1 _ s1 r1 I1 q1=>by
  cases r1 with
  | @tup l xs ts h r=>exact⟨l,xs,rfl,I1.sB _ _ h,ZH I1 (show Po Y rI _ H1 _ R from q1) (V9 h r)⟩
  | _=>exact q1.elim
end
end PV
namespace PySem.RW37
open PySem PySem.Spec PyProof.Rows L2
section
def z2p (i j k:Nat)(ta:TA):TS:=λD σ H=>ta σ H λvs H1=>∃v w z,vs=[v,w,z]/\D.nx (((σ.set i (some v)).set j (some w)).set k (some z)) H1
theorem ps_par3 {kt k2 pt2}(hc:X.calm=true)(hN:X.N.Nodup)(hi:X.N[i]? =some x)(hj:X.N[j]? =some y)(hk:X.N[k]? =some z)(hij:i ≠ j)(hik:i ≠ k)(hjk:j ≠ k)
  (hx:X.env.scope.names.lookup x=some .local) (hy:X.env.scope.names.lookup y=some .local) (hz:X.env.scope.names.lookup z=some .local) (ha:PA X [a,b,c] ta)
  (hw:swappedStores [.Tuple [.Name x px,.Name y py,.Name z pz] kt pt] (.Tuple [a,b,c] k2 pt2) X.env=pure (some [x,y,z]))
  (hs:swapsWithSole [.Tuple [.Name x px,.Name y py,.Name z pz] kt pt] (.Tuple [a,b,c] k2 pt2) pos.line X.env=pure false:=by rfl):
  PS X (.Assign [.Tuple [.Name x px,.Name y py,.Name z pz] kt pt] (.Tuple [a,b,c] k2 pt2) pos) (z2p i j k ta):=by
 intro pins s σ H D I h;refine a7 (wpAny_standAt ?_);rw[hs];refine a7 (aq ?_);refine a7 (Tuple_ (thn (ha _ pins s σ H _ I h) λus s1 ⟨vs,H1,I1,r1,q1⟩=> ?_));obtain⟨v,w,q,e1,q1⟩:=q1;subst e1;obtain⟨u1,u2,u3,rfl,rv,rw',rz⟩:∃u1 u2 u3,us=[u1,u2,u3]/\Z4 v u1/\Z4 w u2/\Z4 q u3:=by
  cases r1 with
  | cons p q=>
   cases q with
   | cons p' q' =>
    cases q' with
    | cons p'' q'' =>
     cases q'';exact⟨_,_,_,rfl,p,p',p''⟩
 refine aZ ?_ (by show 3<=sizeLine;decide)
 have I2:Inv X pins σ H1 { s1 with heap:=s1.heap.push { cls:= .type "tuple",data:= .seq [u1,u2,u3].toArray } }:=I1.kept (t' :=s1.toks) λb o e=>a9 _ e;rw[hw];refine a7 (aq ?_);refine a7 (c_ (a7 (unpackItems_tuple (items:= #[u1,u2,u3]) (I.ok.hd hc) (iX _ _) λh' hx' => ?_)));have I3:=I2.kept (t' :=s1.toks) λb o e=>hx' b o (aD (ao e)) e;refine a7 (assignInOrder_cons (wpAny_bindName (ZX I3 hN hk (.inl hz) rz (λs2 I4=> ?_) (.inr hz))));refine assignInOrder_cons (wpAny_bindName (ZX I4 hN hj (.inl hy) rw' (λs3 I5=> ?_) (.inr hy)));refine assignInOrder_cons (wpAny_bindName (ZX I5 hN hi (.inl hx) rv (λs4 I6=>assignInOrder_nil (aq ?_)) (.inr hx)));rw[eC _ _ (aS hij),eC _ _ (aS hik),eC _ _ (aS hjk)]at I6;exact⟨_,H1,I6,q1⟩
end
end PySem.RW37
namespace PV
open PySem PySem.Spec PyProof.Rows L2 PySem.RW37
section
theorem yx {σ:L2.St}(I:Inv X pins σ H s)(rx:Z4 v u)(r:Rep H v t)(hp:H tp=some (.tup xs))(hv:zX xs its)
  (hu:∀its',zX xs its' ->its' =its) (e:dj X.K (.type (tyN t)) its=some b) (h:∀tk,Q (.bool b) { s with toks:=tk }):
  wpAny (model X.prog X.w) A (call (.builtin "isinstance") [u,.ref tp]) Q E s:=by
 obtain⟨_,its',hv',⟨o,ho,hc,n,hd⟩,_⟩:=(show Z5 _ X.w H _ tp _ from I.hok tp _ hp);obtain rfl:=hu _ hv';obtain⟨c,dd,da,sl⟩:=o;subst hc hd;cases r with
 | non=>cases (rx);exact bY i4 I.kIn True.intro ho e (λz=>nomatch z) h
 | bl y=>cases (rx);exact bY i5 I.kIn True.intro ho e (λz=>nomatch z) h
 | int i=>obtain⟨t,q⟩:=(rx);cases q;exact bY iq I.kIn True.intro ho e (λz=>nomatch z) h
 | str y=>obtain⟨t,q⟩:=(rx);cases q;exact bY ir I.kIn True.intro ho e (λz=>nomatch z) h
 | @tup a xs _ ea=>
  cases (rx);obtain⟨_,_,_,p,_⟩:=(show Z5 _ X.w H _ a _ from I.hok a _ ea);obtain⟨o,h1,h2,_⟩:=p;exact bY f_ I.kIn ⟨o,h1,h2⟩ ho e (λz=>nomatch z) h
 | @lst a xs _ ea=>
  cases (rx);obtain⟨_,_,n,_,h1⟩:=(show Z5 _ X.w H _ a _ from I.hok a _ ea);exact bY d8 I.kIn ⟨_,h1,rfl⟩ ho e (λz=>nomatch z) h
 | @fz a ob xs _ ea=>
  cases (rx);obtain⟨_,_,_,n,_,h1⟩:=(show Z5 _ X.w H _ a _ from I.hok a _ ea);exact bY d8 I.kIn ⟨_,h1,rfl⟩ ho e (λz=>nomatch z) h
theorem Vb:∀its',zX [.ty n,.ty m] its' ->its' =[.type n,.type m]:=λits' h=>by
 cases h with
 | cons p q=>
  cases q with
  | cons p' q' =>
   cases q';rw[p,p']
theorem qa:Zc X (.builtin "isinstance") (λxs H Q=>∃v tp n m t b,xs=[v,.ref tp]/\H tp=some (.tup [.ty n,.ty m])/\Rep H v t/\dj X.K (.type (tyN t)) [.type n,.type m]=some b/\Q (.bl b) H):=by
 intro pins s σ H xs us Q I rv h;obtain⟨v,tp,n,m,t,b,rfl,hp,r,hk,q⟩:=h;obtain⟨u,w,rfl,ru,rw'⟩:=uy rv;obtain rfl:w=Value.ref tp:=rw';exact yx I ru r hp (.cons rfl (.cons rfl .nil)) Vb hk λtk=>⟨.bl _,H,I.tok tk,rfl,q⟩
def G8 (n m:String)(t:T):R T:= .ok (.bl (isT n t || isT m t))
theorem XN {K:aa}{t:T}{n m:String}(h1:bp K (.type (tyN t)) (.type n)=some (isT n t))(h2:bp K (.type (tyN t)) (.type m)=some (isT m t)):
  dj K (.type (tyN t)) [.type n,.type m]=some (isT n t || isT m t):=by
 unfold dj;rw[h1];cases isT n t with
 | true=>rfl
 | false=>
  unfold dj;rw[h2];cases isT m t <;> rfl
theorem G9 (hk:∀t,bp X.K (.type (tyN t)) (.type n)=some (isT n t))(hk' :∀t,bp X.K (.type (tyN t)) (.type m)=some (isT m t))
  (gl:Gl X "isinstance") (mg:X.mg "isinstance"=none) (gl1:Gl X (aH n)) (mg1:X.mg (aH n)=none) (bt1:bootBuiltins (aH n)=some (.type n)) (gl2:Gl X (aH m)) (mg2:X.mg (aH m)=none) (bt2:bootBuiltins (aH m)=some (.type m)) (ha:Snd X Y a fa)
  (hs:starEach [a,.Tuple [.Name (aH n) p1,.Name (aH m) p2] kt pt] X.env=[(false,eval a X.env),(false,eval (.Tuple [.Name (aH n) p1,.Name (aH m) p2] kt pt) X.env)]:=by exact st2 rfl rfl)
  (hs2:starEach [.Tuple [.Name (aH n) p1,.Name (aH m) p2] kt pt] X.env=[(false,eval (.Tuple [.Name (aH n) p1,.Name (aH m) p2] kt pt) X.env)]:=by exact st1 rfl)
  (hs3:starEach [.Name (aH n) p1,.Name (aH m) p2] X.env=[(false,eval (.Name (aH n) p1) X.env),(false,eval (.Name (aH m) p2) X.env)]:=by exact st2 rfl rfl)
  (hs4:starEach [.Name (aH m) p2] X.env=[(false,eval (.Name (aH m) p2) X.env)]:=by exact st1 rfl)
  (hn1:aH n ≠ "__name__":=by decide) (hd1:(aH n == ("__debug__":Str))=false:=by decide) (hn2:aH m ≠ "__name__":=by decide) (hd2:(aH m == ("__debug__":Str))=false:=by decide)
  (hz:((backTo pos (starEach [.Tuple [.Name (aH n) p1,.Name (aH m) p2] kt pt] X.env)).any λx=>x.fst)=false:=by exact Zm rfl):
  Snd X Y (.Call (.Name "isinstance" p) [a,.Tuple [.Name (aH n) p1,.Name (aH m) p2] kt pt] [] pos) (ap1 (G8 n m) fa):= .mk λρ=>
 PE.imp (ZF qa gl mg PyProof.Rows.Boot.«isinstance» (zz (ha ρ) (zz (VN (zz (uw (v:= .ty n) gl1 mg1 bt1 rfl hn1 hd1) (zz (uw (v:= .ty m) gl2 mg2 bt2 rfl hn2 hd2) zQ hs4) (by rw[hs3,hs4]))) zQ hs2) (by rw[hs,hs2])) (by decide) (by decide) (by rw[hs,hs2]) hz) λσ H Q ⟨B,I,q⟩=>
  step I q λt v H1 _ s1 r1 I1 q1=>⟨Zp (by show 2<=bnd;decide),λp hp=>⟨v,p,n,m,t,_,rfl,zA,(r1.mono I1.sB).mono (zr.new hp _),XN (hk t) (hk' t),q1 _ _ (zr.new hp _) (.bl _)⟩⟩
end
end PV
namespace PV
open PySem PySem.Spec PyProof.Rows L2
noncomputable def uJ (t t' :T):R T:=match t,t' with
 | .int i,.int j=> .ok (.int (if j > i then j else i))
 | _,_=> .bad
noncomputable def z0K:T->R T
 | .int i=> .ok (.int (if i < 0 then -i else i))
 | _=> .bad
noncomputable def ZE (f:Int->Int->Bool):Int->List Int->Int
 | i,[]=>i
 | i,j :: r=>ZE f (if f j i then j else i) r
def maxLT:T->R T
 | .lst ts=>match Z2 ts with | some (i :: l)=> .ok (.int (ZE (λa b=>decide (b < a)) i l)) | _=> .bad
 | _=> .bad
def qb:T->R T
 | .lst ts=>match Z2 ts with | some (i :: l)=> .ok (.int (ZE (λa b=>decide (a < b)) i l)) | _=> .bad
 | _=> .bad
theorem W0:∀(l:List Int) (i:Int),ZE (λa b=>decide (b < a)) i l∈i :: l/\∀x∈i :: l,x<=ZE (λa b=>decide (b < a)) i l
 | [],i=>⟨ab,λx h=>by simp at h;subst h;exact iG _⟩
 | j :: r,i=>by
  unfold ZE
  by_cases hj:i < j
  ·simp only[hj,decide_true,if_true];obtain⟨h1,h2⟩:=W0 r j;refine⟨a8 _ h1,λx hx=> ?_⟩;rcases ak.mp hx with rfl | hx
   ·exact di (Int.le_of_lt hj) (h2 j ab)
   ·exact h2 x hx
  ·simp only[hj,decide_false,aN,if_false];obtain⟨h1,h2⟩:=W0 r i;refine⟨?_,λx hx=> ?_⟩
   ·rcases ak.mp h1 with h | h
    ·rw[h];exact ab
    ·exact a8 _ (a8 _ h)
   ·rcases ak.mp hx with rfl | hx
    ·exact h2 x ab
    ·rcases ak.mp hx with rfl | hx
     ·exact di (Int.not_lt.mp hj) (h2 i ab)
     ·exact h2 x (a8 _ hx)
theorem W1:∀(l:List Int) (i:Int),ZE (λa b=>decide (a < b)) i l∈i :: l/\∀x∈i :: l,ZE (λa b=>decide (a < b)) i l<=x
 | [],i=>⟨ab,λx h=>by simp at h;subst h;exact iG _⟩
 | j :: r,i=>by
  unfold ZE
  by_cases hj:j < i
  ·simp only[hj,decide_true,if_true];obtain⟨h1,h2⟩:=W1 r j;refine⟨a8 _ h1,λx hx=> ?_⟩;rcases ak.mp hx with rfl | hx
   ·exact di (h2 j ab) (Int.le_of_lt hj)
   ·exact h2 x hx
  ·simp only[hj,decide_false,aN,if_false];obtain⟨h1,h2⟩:=W1 r i;refine⟨?_,λx hx=> ?_⟩
   ·rcases ak.mp h1 with h | h
    ·rw[h];exact ab
    ·exact a8 _ (a8 _ h)
   ·rcases ak.mp hx with rfl | hx
    ·exact h2 x ab
    ·rcases ak.mp hx with rfl | hx
     ·exact di (h2 i ab) (Int.not_lt.mp hj)
     ·exact h2 x (a8 _ hx)
theorem jN (ps:List (Int×Tok))(i:Nat)(h:i < ps.length):numAt ps.toArray i=(ps.map (·.1))[i]'(by simpa using h):=by
 unfold numAt;simp[h]
section
theorem Ga (hc:X.calm=true)(gl:Gl X "max")(mg:X.mg "max"=none)(ha:Snd X Y a fa)(hb:Snd X Y b fb)
  (hs:starEach [a,b] X.env=[(false,eval a X.env),(false,eval b X.env)]:=by exact st2 rfl rfl) (hs2:starEach [b] X.env=[(false,eval b X.env)]:=by exact st1 rfl):
  Snd X Y (.Call (.Name "max" p) [a,b] [] pos) (zd uJ fa fb):= .mk λρ=>
 PE.imp (ZF (Y7 hc) gl mg PyProof.Rows.Boot.«max» (zz (ha ρ) (zz (hb ρ) zQ hs2) (by rw[hs,hs2])) (by decide) (by decide) (by rw[hs,hs2]) (by rw[hs2];rfl)) λσ H Q ⟨B,I,q⟩=>
  step I q λt v H1 _ s1 r1 I1 q1=>step I1 q1 λt' v' H2 _ s2 r2 I2 q2=>by
   cases r1 with
   | int i=>
    cases r2 with
    | int j=>exact⟨i,j,rfl,po0 I2.sB q2 rfl (.int _)⟩
    | _=>exact q2.elim
   | _=>cases r2 <;> exact q2.elim
theorem z2q (gl:Gl X "abs")(mg:X.mg "abs"=none)(ha:j9 X Y a fa)(hs:St1 X a:=by exact st1 rfl):Snd X Y (.Call (.Name "abs" p) [a] [] pos) (ap1 z0K fa):=
 JI vw (λv t B H Q r sB q=>by
  cases r with
  | int i=>exact⟨i,rfl,po0 sB q rfl (.int _)⟩
  | _=>exact q.elim) gl mg PyProof.Rows.Boot.«abs» ha hs
theorem Gb (hh:X.A.handled=none):Zc X (.builtin "max") (λvs H Q=>∃l xs ts i is,vs=[.ref l]/\H l=some (.lst xs)/\zF H xs ts/\Z2 ts=some (i :: is)/\Q (.int (ZE (λa b=>decide (b < a)) i is)) H):=by
 intro pins s σ H vs us Q I rv h;obtain⟨l,xs,ts,i,is,rfl,hl,r,hk,q⟩:=h;obtain⟨u,rfl,ru⟩:=Zt rv;obtain rfl:u=Value.ref l:=ru;obtain⟨its,rv,p,_⟩:=zT I (.inl hl) r;obtain⟨ps,h1,h2⟩:=JP r rv hk;have e:its.toArray=intItems ps.toArray:=by rw[h1];simp[intItems]
 rw[e]at p;have hlen:=by have:=congrArg fH h2;simpa using this
 refine max_intList hh p (by simp[hlen]) λv h' tk hv kp=> ?_
 obtain⟨t,rfl⟩:=intItems_at hv;obtain⟨b1,b2⟩:=argBest_gt (numAt ps.toArray) (ps.toArray.size - 1);have hsz:ps.toArray.size=ps.length:=by simp
 rw[hsz]at b1 b2 ⊢;obtain⟨m1,m2⟩:=W0 is i;have e2:numAt ps.toArray (argBest (λi j=>decide (numAt ps.toArray i > numAt ps.toArray j)) (ps.length - 1))=ZE (λa b=>decide (b < a)) i is:=by
  refine iM (m2 _ ?_) ?_
  ·rw[jN ps _ (by omega),← h2]
   exact iB _
  ·rw[← h2]at m1;obtain⟨j,hj,ej⟩:=dC.mp m1;rw[← ej];have hj' :=by simpa using hj
   rw[← jN ps j hj'];exact b2 j (by omega)
 rw[e2];exact⟨.int _,H,I.kept kp,⟨t,rfl⟩,q⟩
theorem qc (hh:X.A.handled=none):Zc X (.builtin "min") (λvs H Q=>∃l xs ts i is,vs=[.ref l]/\H l=some (.lst xs)/\zF H xs ts/\Z2 ts=some (i :: is)/\Q (.int (ZE (λa b=>decide (a < b)) i is)) H):=by
 intro pins s σ H vs us Q I rv h;obtain⟨l,xs,ts,i,is,rfl,hl,r,hk,q⟩:=h;obtain⟨u,rfl,ru⟩:=Zt rv;obtain rfl:u=Value.ref l:=ru;obtain⟨its,rv,p,_⟩:=zT I (.inl hl) r;obtain⟨ps,h1,h2⟩:=JP r rv hk;have e:its.toArray=intItems ps.toArray:=by rw[h1];simp[intItems]
 rw[e]at p;have hlen:=by have:=congrArg fH h2;simpa using this
 refine min_intList hh p (by simp[hlen]) λv h' tk hv kp=> ?_
 obtain⟨t,rfl⟩:=intItems_at hv;obtain⟨b1,b2⟩:=argBest_lt _ (ps.toArray.size - 1);have hsz:ps.toArray.size=ps.length:=by simp
 rw[hsz]at b1 b2 ⊢;obtain⟨m1,m2⟩:=W1 is i;have e2:numAt ps.toArray (argBest (λi j=>decide (numAt ps.toArray i < numAt ps.toArray j)) (ps.length - 1))=ZE (λa b=>decide (a < b)) i is:=by
  refine iM ?_ (m2 _ ?_)
  ·rw[← h2]at m1;obtain⟨j,hj,ej⟩:=dC.mp m1;rw[← ej];have hj' :=by simpa using hj
   rw[← jN ps j hj'];exact b2 j (by omega)
  ·rw[jN ps _ (by omega),← h2]
   exact iB _
 rw[e2];exact⟨.int _,H,I.kept kp,⟨t,rfl⟩,q⟩
theorem Gc (hh:X.A.handled=none)(gl:Gl X "min")(mg:X.mg "min"=none)(ha:j9 X Y a fa)(hs:St1 X a:=by exact st1 rfl):Snd X Y (.Call (.Name "min" p) [a] [] pos) (ap1 qb fa):=
 JI (qc hh) (λv t B H Q r sB q=>by
  cases r with
  | @lst l xs ts h r=>
   have q:Po Y rC B H (match Z2 ts with | some (i :: l)=> .ok (.int (ZE (λa b=>decide _) i l)) | _=> .bad) Q:=q
   split at q
   ·rename_i i k e;exact⟨l,xs,ts,i,k,rfl,h,r,e,po0 sB q rfl (.int _)⟩
   ·exact q.elim
  | _=>exact q.elim) gl mg PyProof.Rows.Boot.«min» ha hs
end
section
end
noncomputable def jW:List T->Option (List (Str×Int))
 | []=>some []
 | .tup [.str x,.int i] :: r=>match jW r with | some l=>some ((x,i) :: l) | none=>none
 | _ :: _=>none
def qd (t k:T):R T:=match t,k with
 | .tup ts,.str x=>match jW ts with
  | some l=>if (l.map (·.1)).Nodup then (match l.lookup x with | some i=> .ok (.int i) | none=> .bad) else .bad
  | none=> .bad
 | _,_=> .bad
def WO:T->R T
 | .tup ts=>match jW ts with
  | some l=>if (l.map (·.1)).Nodup then .ok (.int (l.map (·.2)).sum) else .bad
  | none=> .bad
 | _=> .bad
def Vc (j:Nat)(fa:En->R T)(g:List T->R T):En->RS:=λρ=>((fa ρ).bind λt=>(vE j ρ).bind λk=>(qd t k).bind λx=>(WO t).bind λy=>g [x,y]).s λt=> .rt t
section
end
noncomputable def kY:T->T->R T
 | .int i,.int j=>if 0 < j/\j.natAbs.log2 < 9000 then .ok (.int (i / j)) else .bad
 | _,_=> .bad
section
theorem Ge:OpR X (binaryOp .FloorDiv) (L2.rI (λ_ j=>0 < j/\j.natAbs.log2 < 9000) λi j=> .int (i / j)):=opI λi j _ _ _ _ _ hc q=>by
 exact floordiv_int (by omega) (by rw[dO i (by omega)];exact q) (.inl (PyProof.noPylong_of_log2 hc.2))
theorem XO:OpR X (binaryOp .FloorDiv) (rG Y kY):=by
 intro pins s σ H x y v u Q I rx ry h;obtain⟨B,t,t',sB,r,r',q⟩:=h;cases r with
 | int i=>
  cases r' with
  | int j=>
   by_cases hj:0 < j/\j.natAbs.log2 < 9000
   ·exact Ge _ s σ H _ _ v u Q I rx ry ⟨i,j,rfl,rfl,hj,po0 sB q (if_pos hj) (.int _)⟩
   ·rw[show kY (.int i) (.int j)= .bad from if_neg hj]at q;exact q.elim
  | _=>exact q.elim
 | _=>cases r' <;> exact q.elim
theorem z2r (ha:Snd X Y a fa)(hb:Snd X Y b fb):Snd X Y (.BinOp a .FloorDiv b pos) (zd kY fa fb):=uB XO ha hb
end
noncomputable def big:Nat:=2 ^ 8000
def mlT:T->T->R T
 | .int i,.int j=>if i.natAbs < big/\j.natAbs < big then .ok (.int (i*j)) else .bad
 | _,_=> .bad
theorem Ur (h:i.natAbs < big):fU i<=2 ^ 20:=by
 unfold fU;split
 ·exact aQ _
 ·rename_i h0;have h0:i.natAbs ≠ 0:=λz=>h0 (by rw[Int.natAbs_eq_zero.mp z];rfl)
  have h1:=(Nat.log2_lt h0).mpr h;omega
section
theorem z2s:OpR X (binaryOp .Mult) (L2.rI (λi j=>i.natAbs < big/\j.natAbs < big) λi j=> .int (i*j)):=opI λi j _ _ _ _ _ hc q=>mul_int q (IntMulOk.of_bits (Ur hc.1) (Ur hc.2))
theorem Gf:OpR X (binaryOp .Mult) (rG Y mlT):=by
 intro pins s σ H x y v u Q I rx ry h;obtain⟨B,t,t',sB,r,r',q⟩:=h;cases r with
 | int i=>
  cases r' with
  | int j=>
   by_cases hj:i.natAbs < big/\j.natAbs < big
   ·exact z2s _ s σ H _ _ v u Q I rx ry ⟨i,j,rfl,rfl,hj,po0 sB q (if_pos hj) (.int _)⟩
   ·rw[show mlT (.int i) (.int j)= .bad from if_neg hj]at q;exact q.elim
  | _=>exact q.elim
 | _=>cases r' <;> exact q.elim
theorem s_ml (ha:Snd X Y a fa)(hb:Snd X Y b fb):Snd X Y (.BinOp a .Mult b pos) (zd mlT fa fb):=uB Gf ha hb
end
theorem XQ:typeLookup (.type "tuple") "keys"=pure none:=by rw[typeLookup_type,builtinLookup_eq_fast];kernel_rfl
theorem XR:typeLookup (.type "tuple") "__getattr__"=pure none:=by rw[typeLookup_type,builtinLookup_eq_fast];kernel_rfl
section
theorem Vd {sl:Array (Option Value)}{u:Tok}{Q:PySem.Fin->Shared->Prop}(hh:A.handled=none)(hl:s.heap.get? l=some { cls:= .type "tuple",dict:=none,data:= .seq its n,slots:=sl })
  (h:∀h' tk e,Heap.NewAttrErr s.heap h' e (.ref l) "keys"->E (.ref e) { s with heap:=h',toks:=tk }):
  wpAny (model prog w) A (Builtin.«object.__getattribute__» ⟨[.ref l,.str "keys" u],[]⟩) Q E s:=by
 obtain⟨hp,g,d,tk,os⟩:=s;have hT:(⟨hp,g,d,tk,os⟩:Shared).TypeIs (.ref l) "tuple":=⟨_,hl,rfl⟩;have f1:=XQ;unfold Builtin.«object.__getattribute__»
 repeat (any_goals (first | assumption | wp_step))
 exact wpAny_raiseAttrError hh h (attrMsg_fits (by decide+kernel) (by decide+kernel))
end
section
theorem XS {l:Addr}{its:Array Value}{n:Nat}{sl:Array (Option Value)}{u:Tok}{R:Result->Shared->Prop}(hh:A.handled=none)(hl:s.heap.get? l=some { cls:= .type "tuple",dict:=none,data:= .seq its n,slots:=sl })
  (h:∀h' tk e,Heap.NewAttrErr s.heap h' e (.ref l) "keys"->R (.error (.ref e)) { s with heap:=h',toks:=tk }):
  codeAny (model prog w) A (.call (.builtin "tuple.__getattribute__") ⟨[.ref l,.str "keys" u],[]⟩) R s:=
 codeAny_call_builtin bV.plain F.entry_tuple_ga (bV.check _ _ _ _ _ _ _ _ (show s.TypeIs _ _ from ⟨_,hl,rfl⟩) (F.args_tuple_getattribute_2 _ _) (Vd hh hl h))
theorem XT {l:Addr}{its:Array Value}{n:Nat}{sl:Array (Option Value)}{Q:Option Value->Shared->Prop}(hh:A.handled=none)(hl:s.heap.get? l=some { cls:= .type "tuple",dict:=none,data:= .seq its n,slots:=sl })
  (h:∀h' tk,(∀b o,s.heap.get? b=some o->h'.get? b=some o)->Q none { s with heap:=h',toks:=tk }):
  wpAny (model prog w) A (getAttr? (.ref l) "keys") Q E s:=by
 obtain⟨hp,g,d,tk,os⟩:=s;have hT:∀t,(⟨hp,g,d,t,os⟩:Shared).TypeIs (.ref l) "tuple":=λ_=>⟨_,hl,rfl⟩;have f1:=sub_AttributeError;have f2:=bV.lookup;have f3:=bV.bind (.ref l);have f5:=XR;unfold getAttr? getAttrBy? getAttrBy
 repeat (any_goals (first | assumption | exact hT _ | wp_step))
 refine XS (s:=⟨hp,g,d,tk+1,os⟩) hh hl λh' tk' e hx=> ?_;obtain⟨t',u',he⟩:=hx.there;have hE:(⟨h',g,d,tk',os⟩:Shared).TypeIs (.ref e) "AttributeError":=⟨_,he,rfl⟩;show wpAny _ _ (getattributeRaised _ _ _ _ _ _ _) _ _ _;unfold getattributeRaised
 repeat (any_goals (first | assumption | wp_step))
 exact h _ _ hx.keeps
end
noncomputable def Zk (h:Heap)(its:List Value)(ps:List (Str×Int)):Prop:=Paired (λv (p:Str×Int)=>∃a t u n ob,v=Value.ref a/\h.get? a=some ob/\ob.cls= .type "tuple"/\ob.data= .seq #[.str p.1 t,.int p.2 u] n) its ps
theorem Zk.keep {ps:List (Str×Int)}(x:Zk h its ps)(k:∀b o,h.get? b=some o->h'.get? b=some o):Zk h' its ps:=
 Paired.mapP x λv p ⟨a,t,u,n,ob,e1,e2,e3⟩=>⟨a,t,u,n,ob,e1,k _ _ e2,e3⟩
theorem Zk.off {h h' :Heap}{D I:Addr}(k:∀b o,b ≠ D->b ≠ I->h.get? b=some o->h'.get? b=some o):∀{its:List Value} {ps:List (Str×Int)},Zk h its ps->(∀v a,v∈its->v=Value.ref a->a ≠ D/\a ≠ I)->Zk h' its ps
 | _,_,.nil,_=> .nil
 | _,_,.cons r q,ha=>by
  obtain⟨a,t,u,n,ob,e1,e2,e3⟩:=r;obtain⟨n1,n2⟩:=ha _ a ab e1;exact .cons ⟨a,t,u,n,ob,e1,k _ _ n1 n2 e2,e3⟩ (Zk.off k q λv b hv=>ha v b (a8 _ hv))
def KVs (kvs:List (Key×Value))(ps:List (Str×Int)):Prop:=Paired (λ(q:Key×Value) (p:Str×Int)=>q.1=Sum.inr p.1/\∃t,q.2=Value.int p.2 t) kvs ps
theorem KVs.snoc:∀{kvs:List (Key×Value)} {ps:List (Str×Int)} {x:Str} {i:Int} {t:Tok},KVs kvs ps->KVs (kvs++[(Sum.inr x,.int i t)]) (ps++[(x,i)])
 | _,_,x,i,t,.nil=> .cons ⟨rfl,t,rfl⟩ .nil
 | _,_,x,i,t,.cons r q=> .cons r (KVs.snoc q)
theorem KVs.keys:∀{kvs:List (Key×Value)} {ps:List (Str×Int)},KVs kvs ps->kvs.map (·.1)=ps.map λp=>(Sum.inr p.1:Key)
 | _,_,.nil=>rfl
 | _,_,.cons r q=>by rw[aF,aF,r.1,KVs.keys q]
theorem KVs.len {kvs:List (Key×Value)}{ps:List (Str×Int)}(h:KVs kvs ps):kvs.length=ps.length:=by
 have:=congrArg fH h.keys;simpa using this
theorem yy {kvs:List (Key×Value)}{k:Key}(h:k ∉ kvs.map (·.1)):stored kvs k v=kvs++[(k,v)]:=by
 unfold stored;rw[if_neg];intro z;rw[eY]at z;obtain⟨q,hq,e⟩:=z;exact h (aI.mpr ⟨q,hq,of_decide_eq_true e⟩)
section
variable {prog:Program}{w:World}{A:Around}{R:Result->Shared->Prop}{I:Addr}{fp wr:List Addr}{n:Nat}{P:Nat->Value->Prop}{St:Nat->Heap->Prop}
theorem Us:entryFor table "dict.update.loop"=some Builtin.«dict.update.loop»:=entryFor_of_tree (by kernel_rfl)
theorem Ut:plainId "dict.update.loop"=true:=by decide+kernel
theorem jX {α β:Type}{F:α->β->Prop}:∀{xs:List α} {ys:List β} {i:Nat} {y:β},Paired F xs ys->ys[i]? =some y->∃x,xs[i]? =some x/\F x y
 | _,_,_,_,.nil,h=>by simp at h
 | _,_,0,y,.cons r _,h=>by simp at h;subst h;exact⟨_,rfl,r⟩
 | _,_,i+1,y,.cons _ q,h=>by
  obtain⟨x,e,r⟩:=jX q (by simpa using h)
  exact⟨x,by simpa using e,r⟩
theorem wC {α β:Type}{F:α->β->Prop}:∀{xs:List α} {ys:List β},Paired F xs ys->xs.length=ys.length
 | _,_,.nil=>rfl
 | _,_,.cons _ q=>by simp[wC q]
theorem qe {l:Addr}{its:List Value}{ps:List (Str×Int)}(hh:A.handled=none)(I D:Addr)(hlI:l ≠ I)(hD:D ≠ I)(hDl:D ≠ l)(nd:(ps.map (·.1)).Nodup)(hps:ps.length<=sizeLine)(kw:Value):
  ∀(m i:Nat) (s:Shared) (kvs:List (Key×Value)) (tk0:Tok),ps.length - i=m->i<=ps.length->s.heap.IsTupleIter I l i->s.heap.IsTuple l its.toArray->Zk s.heap its ps->(∀v a,v∈its->v=Value.ref a->a ≠ D/\a ≠ I)->
   s.heap.DictOf (ZW prog w) D kvs->KVs kvs (ps.take i)->
   (∀h' tk kvs',(∀b o,b ≠ D->b ≠ I->s.heap.get? b=some o->h'.get? b=some o)->h'.DictOf (ZW prog w) D kvs' ->KVs kvs' ps->R (.ok (.ret kw)) { s with heap:=h',toks:=tk })->
   codeAny (model prog w) A (.builtin "dict.update.loop" ⟨[.ref D,.ref I,.int (i:Int) tk0,kw],[]⟩) R s:=by
 intro m
 induction m with
 | zero=>
  intro i s kvs tk0 hm hi hit ht hp ha hd hk hR;obtain rfl:i=ps.length:=by omega
  refine bv Us ?_;unfold Builtin.«dict.update.loop»;dsimp only;have hl:=wC hp;refine a7 (wpAny_pyNext_tuple_end hh hit ht (by simp[hl]) λh' he=> ?_)
  rw[List.take_length]at hk;refine a7 (bR (a:=()) rfl (aq ?_));exact hR h' s.toks kvs (λb o _ hb e=>he b o hb e) (hd.extBut he hD) hk
 | succ m ih=>
  intro i s kvs tk0 hm hi hit ht hp ha hd hk hR;refine bv Us ?_;unfold Builtin.«dict.update.loop»;dsimp only;have hi' :i < ps.length:=by omega
  have ei:=ae hi';obtain⟨v,ev,a,t,u,n,ob,rfl,ga,ca,da⟩:=jX hp ei;refine a7 (wpAny_pyNext_tuple_item hit ht (x:= .ref a) (by simpa using ev) λh1 hit1 sb=> ?_)
  obtain⟨naD,naI⟩:=ha _ a (b_ ev) rfl;have ga1:=(sb.2 a naI).trans ga;have hd1:=hd.sameBut sb hD;have hTa:fX { s with heap:=h1 } (.ref a) "tuple":=⟨_,ga1,ca⟩;refine a7 (bQ (a7 (wpAny_tryCatch ?_)));refine a7 (cM hTa ?_);refine a7 (bq ga1 da (aq ?_));have hnew:(Sum.inr ps[i].1) ∉ kvs.map (·.1):=by
   rw[hk.keys];intro z;obtain⟨p,hp',e⟩:=aI.mp z;have e:p.1=ps[i].1:=by injection e
   obtain⟨j,hj,ej⟩:=dC.mp hp';rw[cL]at hj;rw[List.getElem_take]at ej;have hji:j < i:=by omega
   have:=(d_.mp nd) j i (by rw[ac];omega) (by rw[ac];exact hi') hji
   rw[eW,eW]at this;exact this (by rw[ej,e])
  have hz:kvs.length<=sizeLine:=by rw[hk.len,cL];exact aA (Nat.min_le_right _ _) hps
  refine bQ (wpAny_dictSet_pairs (JA _ _ _ _) hd1 λh2 hd2 sb2=> ?_);rw[yy hnew]at hd2;refine aq ⟨bJ Ut _, ?_⟩;have hk2:KVs (kvs++[(Sum.inr ps[i].1,.int ps[i].2 u)]) (ps.take (i+1)):=by
   rw[List.take_succ,ei];exact hk.snoc
  have k12:∀b o,b ≠ D->b ≠ I->s.heap.get? b=some o->h2.get? b=some o:=λb o n1 n2 e=>(sb2.2 b n1).trans ((sb.2 b n2).trans e);have:=ih _ { s with heap:=h2,toks:=s.toks+1 } _ 0 (by omega) (by omega) (hit1.extBut sb2.extBut (aS hD)) (ie.at ht λo e=>k12 l o (aS hDl) hlI e) ?_ ha hd2 hk2 (λh' tk kvs' k' d' q' =>hR h' tk _ (λb o n1 n2 e=>k' b o n1 n2 (k12 b o n1 n2 e)) d' q')
  ·exact this
  ·exact hp.off k12 ha
end
theorem Zk.mem {h:Heap}:∀{its:List Value} {ps:List (Str×Int)},Zk h its ps->∀{v:Value} {a:Addr},v∈its->v=Value.ref a->∃o,h.get? a=some o
 | _,_,.nil,_,_,hv,_=>by simp at hv
 | _,_,.cons r q,v,a,hv,e=>by
  rcases ak.mp hv with z | hv
  ·obtain⟨b,t,u,n,ob,e1,e2,_⟩:=r;subst z;rw[e]at e1;cases e1;exact⟨_,e2⟩
  ·exact Zk.mem q hv e
section
theorem qf {l:Addr}{its:List Value}{ps:List (Str×Int)}{n:Nat}{sl:Array (Option Value)}{Q:Value->Shared->Prop}(hh:A.handled=none)(hl:s.heap.get? l=some { cls:= .type "tuple",dict:=none,data:= .seq its.toArray n,slots:=sl })
  (hp:Zk s.heap its ps) (nd:(ps.map (·.1)).Nodup) (hps:ps.length<=sizeLine)
  (h:∀h' tk kvs,(∀b o,s.heap.get? b=some o->h'.get? b=some o)->h'.DictOf (ZW prog w) s.heap.objs.size kvs->KVs kvs ps->Q (.ref s.heap.objs.size) { s with heap:=h',toks:=tk }):
  wpAny (model prog w) A (call (.type "dict") [.ref l]) Q E s:=by
 refine callType_codes (Q₁:=λobj s₁=>obj= .ref _/\s₁={ s with heap:=s.heap.push _ }) F.kt_called_dict (F.kt_typeCall_dict_1 _) F.entry_dict_init (kt_code_dict_new _ ⟨rfl,rfl⟩) ?_
 rintro obj s₁ ⟨rfl,rfl⟩
 generalize hG:s.heap.push _=G;have hnew:G.DictOf (ZW prog w) s.heap.objs.size []:=by rw[← hG];exact Heap.DictOf.new _
 have gk:∀b o,s.heap.get? b=some o->G.get? b=some o:=λb o e=>by rw[← hG];exact a9 _ e
 have gl:=gk _ _ hl;have hlt:=ao hl;have hT:fX { s with heap:=G } (.ref l) _:=⟨_,gl,rfl⟩;refine⟨hnew.typeIs,F.args_dict_init_2 _ _, ?_⟩;refine a7 ?_;refine a7 (wpAny_notOrdered_dict hnew.typeIs ?_);refine aq ?_;refine a7 (cM hT ?_);refine a7 (XT hh gl λh1 tk1 k1=> ?_);refine a7 (c_ ?_);have gl1:=k1 _ _ gl;have hL1:h1.IsTuple l _:=⟨_,gl1,rfl,n,rfl⟩;refine a7 (wpAny_pyIter_tuple hL1 ?_);generalize hG2:h1.push _=G2;have D0:s.heap.objs.size < h1.objs.size:=by
  obtain⟨o,_,_,e,_⟩:=id hnew;exact ao (k1 _ _ e)
 have k2:∀b o,h1.get? b=some o->G2.get? b=some o:=λb o e=>by rw[← hG2];exact a9 _ e
 have gi:G2.get? h1.objs.size=some { cls:= .type "tuple_iterator",data:= .fields #[.ref l,.int 0 0] }:=by rw[← hG2];exact af _ rfl
 have hd2:G2.DictOf (ZW prog w) s.heap.objs.size []:=by
  obtain⟨o,es,ep,e,r⟩:=hnew;exact⟨o,es,ep,k2 _ _ (k1 _ _ e),r⟩
 refine aq ⟨bJ Ut _, ?_⟩;refine qe (A:=A.in1) hh _ _ (aD (dM hlt D0)) (aD D0) (d7 hlt) nd hps _ _ 0 _ [] 0 rfl (aQ _) ⟨_,gi,rfl,rfl⟩ ⟨_,k2 _ _ gl1,rfl,n,rfl⟩ (hp.keep λb o e=>k2 b o (k1 b o (gk b o e))) (λv a hv e=> ?_) hd2 .nil λh' tk kvs kk dd qq=> ?_
 ·obtain⟨o,eo⟩:=hp.mem hv e;have:=ao eo;exact⟨aD this,aD (dM this D0)⟩
 ·refine⟨rfl,h h' tk kvs (λb o e=>kk b o (aD (ao e)) (aD (dM (ao e) D0)) (k2 b o (k1 b o (gk b o e)))) dd qq⟩
end
abbrev kvV (ps:List (Str×Int)):List (Key×V):=ps.map λp=>(Sum.inr p.1,V.int p.2)
theorem Gg:∀{kvs:List (Key×Value)} {ps:List (Str×Int)},KVs kvs ps->KV (kvV ps) kvs
 | _,_,.nil=> .nil
 | _,_,.cons r q=>by
  obtain⟨e,t,e2⟩:=r;exact .cons ⟨e.symm,⟨t,e2⟩⟩ (Gg q)
theorem qg:∀{ps:List (Str×Int)} {kvs:List (Key×Value)},KV (kvV ps) kvs->KVs kvs ps
 | [],_,.nil=> .nil
 | p :: ps,_,.cons r q=>by
  obtain⟨e,t,e2⟩:=r;exact .cons ⟨e.symm,t,e2⟩ (qg q)
theorem x9:∀{kvs:List (Key×Value)} {ps:List (Str×Int)} {x:Str} {i:Int},KVs kvs ps->ps.lookup x=some i->∃t,valueAt kvs (Sum.inr x)=some (.int i t)
 | _,_,x,i,.nil,h=>by simp at h
 | _,_,x,i,.cons (b:=p) r rs,h=>by
  obtain⟨e,t,e2⟩:=r;rw[aw]at h
  by_cases hx:x=p.1
  ·have:(x == p.1)=true:=by simp[hx]
   rw[this]at h;cases h;unfold valueAt;rw[iN,show decide _=true from decide_eq_true (by rw[e,hx])]
   simp[e2]
  ·have:=beq_eq_false_iff_ne.mpr hx;rw[this]at h;obtain⟨t',h'⟩:=x9 rs h;refine⟨t', ?_⟩;unfold valueAt at h' ⊢;rw[iN,show decide _=false from decide_eq_false (by rw[e];intro z;injection z with z;exact hx z.symm)]
   exact h'
theorem qh {ps:List (Str×Int)}(h:jW (t :: ts)=some ps):∃x i l,t= .tup [.str x,.int i]/\jW ts=some l/\ps=(x,i) :: l:=by
 unfold jW at h;split at h
 ·rename_i e;cases e
 ·rename_i x i r e;injection e with e1 e2;subst e1 e2;split at h
  ·rename_i l el;cases h;exact⟨x,i,l,rfl,el,rfl⟩
  ·cases h
 ·cases h
theorem qi:∀{ts:List T} {ps:List (Str×Int)},jW ts=some ps->ps.length=ts.length
 | [],_,h=>by cases h;rfl
 | t :: ts,ps,h=>by
  obtain⟨x,i,l,rfl,el,rfl⟩:=qh h;simp[qi el]
theorem z2t (h:zF H ys [.str x,.int i]):ys=[.str x,.int i]:=by
 cases h with
 | cons r1 h=>
  cases r1;cases h with
  | cons r2 h=>
   cases r2;cases h;rfl
theorem XU (h:zX [V.str x,V.int i] its):∃t u,its=[.str x t,.int i u]:=by
 obtain⟨u1,u2,rfl,⟨t1,rfl⟩,⟨t2,rfl⟩⟩:=uy h;exact⟨t1,t2,rfl⟩
theorem Ve {σ:L2.St}(I:Inv X pins σ H s)(r:Rep H v (.tup [.str x,.int i]))(rv:Z4 v u):
  ∃a t u' n ob,u=Value.ref a/\s.heap.get? a=some ob/\ob.cls= .type "tuple"/\ob.data= .seq #[.str x t,.int i u'] n:=by
 cases r with
 | @tup a ys _ ha ry=>
  obtain rfl:u=Value.ref a:=rv;have hy:=z2t ry;subst hy;obtain⟨_,its',rv',⟨ob,e1,e2,n,e3⟩,_⟩:=(show Z5 _ X.w H _ a _ from I.hok a _ ha);obtain⟨t1,t2,rfl⟩:=XU rv';exact⟨a,t1,t2,n,ob,rfl,e1,e2,e3⟩
theorem Uu {X:Cx}{pins:List (Addr×Obj)}{σ:L2.St}{H:Hp}{s:Shared}(I:Inv X pins σ H s):∀{xs:List V} {ts:List T} {its:List Value} {ps:List (Str×Int)},zF H xs ts->zX xs its->jW ts=some ps->Zk s.heap its ps/\∀(i:Int) t,its[0]? ≠ some (Value.int i t)
 | _,_,_,ps,.nil,.nil,h=>by cases h;exact⟨.nil,λ_ _ z=>by simp at z⟩
 | _,_,_,ps,.cons r rs,.cons rv vs,h=>by
  obtain⟨x,i,l,rfl,el,rfl⟩:=qh h;obtain⟨p1,_⟩:=Uu I rs vs el;obtain⟨a,t1,t2,n,ob,rfl,e⟩:=Ve I r rv;exact⟨.cons ⟨a,t1,t2,n,ob,rfl,e⟩ p1,λ_ _ z=>by simp at z⟩
section
theorem Gh {σ:L2.St}(I:Inv X pins σ H s):sysModules < s.heap.objs.size:=dM (by decide) (I.mod.glob.keeps I.bk).lt
theorem yz (hh:X.A.handled=none):Zc X (.type "dict") (λvs H Q=>∃l xs ts ps,vs=[.ref l]/\H l=some (.tup xs)/\zF H xs ts/\jW ts=some ps/\(ps.map (·.1)).Nodup/\
  ∀q,H q=none->Q (.ref q) (upd H q (.dK (kvV ps)))):=by
 intro pins s σ H vs us Q I rv h;obtain⟨l,xs,ts,ps,rfl,hl,r,ey,nd,q⟩:=h;obtain⟨u,rfl,ru⟩:=Zt rv;obtain rfl:u=Value.ref l:=ru;obtain⟨hz,its,rv,⟨⟨c,dd,da,sl⟩,ho,hc,n,hd⟩,hno⟩:=(show Z5 _ X.w H _ l _ from I.hok l _ hl);subst hc hd;obtain⟨pa,ni⟩:=Uu I r rv ey;have hb:ps.length<=sizeLine:=by rw[qi ey,← r.length];exact hz
 have hdn:dd=none:=by
  rcases hno with ⟨i,t,e⟩ | ⟨o,e1,e2⟩
  ·exact absurd (by simpa using e) (ni i t)
  ·rw[ho]at e1;cases e1;exact e2
 subst hdn;refine qf hh ho pa nd hb λh' tk kvs k dd qq=> ?_;refine⟨.ref _,_,I.laid k (aj _) ?_,rfl,q _ (I.hok.fresh (aj _))⟩;exact⟨by rw[ac];exact hb,beq_eq_false_iff_ne.mpr (aS (aD (Gh I))),kvs,Gg qq,dd⟩
theorem Gi:IxR X (λx y H Q=>∃a ps k i,x= .ref a/\y= .str k/\H a=some (.dK (kvV ps))/\ps.lookup k=some i/\Q (.int i) H):=by
 intro value slice pins s σ H x y v u Q I rx ry h hs;obtain⟨p,ps,k,i,rfl,rfl,hp,he,q⟩:=h;cases rx;obtain⟨t,rfl⟩:=ry;obtain⟨hz,hS,vs,r,m⟩:=(show Z5 _ X.w H _ p _ from I.hok p _ hp);obtain⟨t',e⟩:=x9 (qg r) he;exact tail_any m.typeIs slot_dict_getitem.lookup (wpAny_getItem_of (JA _ _ _ _) m.mapOf e ⟨.int i,H,I.tok _,⟨_,rfl⟩,q⟩) hs
theorem qj:MtR X "dict.values" (λx xs H Q=>∃a ps,x= .ref a/\xs=[]/\H a=some (.dK (kvV ps))/\∀r,H r=none->Q (.ref r) (upd H r (.ext λh=>h.IsValuesView r a))):=by
 intro pins s σ H x xs v0 us Q I rx rv h;obtain⟨a,ps,rfl,rfl,ha,q⟩:=h;obtain rfl:v0=Value.ref a:=rx;cases rv;obtain⟨hz,hS,vs,r,m⟩:=(show Z5 _ X.w H _ a _ from I.hok a _ ha);refine call_meetsIn eK m.typeIs PySem.F.entry_dict_values (PySem.F.args_dict_values_1 _) (meets_dict_values _ a hS) ⟨⟨vs,m⟩, ?_⟩;have hle:s.heap.objs.size<=s.heap.objs.size:=aj _;refine⟨.ref _,_,I.laid (λb o e=>a9 _ e) hle ?_,rfl,q _ (I.hok.fresh hle)⟩;exact⟨⟨_,af _ rfl,rfl,rfl⟩,⟨_,af _ rfl⟩,λh1 h2 ⟨o,e1,e2⟩ e=>⟨o,e _ e1,e2⟩⟩
theorem qk (val:Nat->Int):∀n:Nat,preSum val n=((a_ n).map val).sum
 | 0=>rfl
 | n+1=>by
  rw[fw,bj,List.sum_append,← qk val n];simp[preSum]
theorem qm (hh:X.A.handled=none):Zc X (.builtin "sum") (λvs H Q=>∃r φ a ps,vs=[.ref r]/\H r=some (.ext φ)/\(∀h:Heap,φ h->h.IsValuesView r a)/\H a=some (.dK (kvV ps))/\Q (.int (ps.map (·.2)).sum) H):=by
 intro pins s σ H vs us Q I rv h;obtain⟨r,φ,a,ps,rfl,hr,hφ,ha,q⟩:=h;obtain⟨u,rfl,ru⟩:=Zt rv;obtain rfl:u=Value.ref r:=ru;obtain⟨h1,_,_⟩:=(show Z5 _ X.w H _ r _ from I.hok r _ hr);obtain⟨hz,hS,vs,rr,m⟩:=(show Z5 _ X.w H _ a _ from I.hok a _ ha);obtain⟨ep,hat⟩:=m.dictAt;have hk:=qg rr;have K:=PySem.W.kdl_values (prog:=X.prog) (knd:=ZW _ X.w) (r:=r) (d:=a) (kvs:=vs) (ep:=ep);refine call_sum_walkAnyS ?_;obtain⟨oI,St,hit,W,st⟩:=K.iter X.A.in1 s hh ⟨hφ _ h1,hat⟩;refine hit _ _ ⟨s.heap.objs.size,_,_,_,_,_,_,λi=>((ps[i]?).map (·.2)).getD 0,rfl,W.toS,st,λb hb=> ?_,λi v hv=> ?_,λs' t' hm=> ?_⟩
 ·rw[size_push'];rcases ak.mp hb with e | hb
  ·rw[e];exact bT _
  ·rw[aM.mp hb];exact bF (I.hok.lt ha)
 ·obtain⟨k,hv⟩:=hv;have hi:i < ps.length:=by rw[← hk.len];exact(ai.mp hv).1
  obtain⟨q',e1,e2,t,e3⟩:=jX hk (ae hi);rw[hv]at e1;cases e1;exact⟨t,by dsimp only;rw[ae hi];exact e3⟩
 ·have kp:=λb o e=>
   hm.heap b o (λz=>absurd (ao e) (by rw[aM.mp z];exact aX _)) (a9 _ e)
  rw[Moved.eq_with hm];have es:preSum (λi=>((ps[i]?).map (·.2)).getD 0) vs.length=(ps.map (·.2)).sum:=by
   rw[qk,hk.len];congr 1
   refine cI λi=> ?_;rw[ar,ar]
   by_cases hi:i < ps.length
   ·simp[hi]
   ·rw[aU (by simp;omega),aU (by omega)];rfl
  rw[es];exact⟨.int _,H,I.kept kp,⟨_,rfl⟩,q⟩
end
theorem XV (h:qd t k= .ok v):∃ts ps x i,t= .tup ts/\k= .str x/\jW ts=some ps/\(ps.map (·.1)).Nodup/\ps.lookup x=some i/\v= .int i:=by
 unfold qd at h;split at h
 ·rename_i ts x;split at h
  ·rename_i l e;split at h
   ·rename_i nd;split at h
    ·rename_i i ei;cases h;exact⟨ts,l,x,i,rfl,rfl,e,nd,ei,rfl⟩
    ·cases h
   ·cases h
  ·cases h
 ·cases h
theorem qo (t k:T):(∃v,qd t k= .ok v)\/qd t k= .bad:=by
 unfold qd;split
 ·split
  ·split
   ·split
    ·exact .inl ⟨_,rfl⟩
    ·exact .inr rfl
   ·exact .inr rfl
  ·exact .inr rfl
 ·exact .inr rfl
section
theorem Vf {ps:List (Str×Int)}(ht:t= .tup ts)(e:jW ts=some ps)(nd:(ps.map (·.1)).Nodup):WO t= .ok (.int (ps.map (·.2)).sum):=by
 subst ht;unfold WO;dsimp only;rw[e];dsimp only;rw[if_pos nd]
theorem XW (hij:i ≠ j)(hy:Y.cl=cl)(F:jq X.prog X.w X.K X.mg X.base CX0 jf fo fd ps (spP cl 2 g))(hr:ZP k X.A)(hjf:jf<=k)(gf:Gl X f)
  (mf:X.mg f=some (.ref fo)) (kp:bC X.K (.ref fo)=true) (bd:L2.Binds X.K fd ps []) (hN:X.N.Nodup) (hi:X.N[i]? =some x) (hx:L2.Loc X.env.scope x) (gl:Gl X "dict") (mg:X.mg "dict"=none) (gs:Gl X "sum") (ms:X.mg "sum"=none)
  (pi:PE X (.Name x p3) (wg i)) (pj:PE X (.Name y p4) (wg j)) (ha:Snd X Y a fa) (pi' :PE X (.Name x p5) (wg i):=by exact VF (by rfl) (by rfl)) (hs:St1 X a:=by exact st1 rfl)
  (hsw:swapsWith (.Call (.Name "dict" p2) [a] [] pa) (some (.Name x p1)) pb.line X.env=pure false:=by rfl) (hf:X.fn x=true\/X.env.scope.names.lookup x=some .local:=by first | exact .inl rfl | exact .inr rfl | assumption) (hd:(f == ("__debug__":Str))=false:=by decide)
  (hb:attributeBase (.Name x p5) "values" X.env (eval (.Name x p5) X.env)=eval (.Name x p5) X.env:=by rfl) (hli:(p6.endLine == p7.line)=true:=by rfl):
  wx X Y [.Assign [.Name x p1] (.Call (.Name "dict" p2) [a] [] pa) pb,.Return (some (.Call (.Name f p8) [.Subscript (.Name x p3) (.Name y p4) p9,.Call (.Name "sum" pc) [.Call (.Attribute (.Name x p5) "values" p6) [] [] p7] [] pd] [] pos)) pos'] (Vc j fa g):= .mk λρ=>by
 subst hy;have hh:=hr.hd;have st2' :starEach [.Subscript (.Name x p3) (.Name y p4) p9,.Call (.Name "sum" pc) [.Call (.Attribute (.Name x p5) "values" p6) [] [] p7] [] pd] X.env=(false,eval _ X.env) :: starEach _ X.env:=zR rfl;have W:=(wN (U4 hN hi hx (ZD (yz hh) gl mg PyProof.Rows.Boot.«dict» (zz (ha ρ) zQ hs) (by decide) (by decide) hs rfl) hsw hf)
  (ux (Wo (pos:=pos') (Ye (E:=Y.E) (p:=p8) (pos:=pos) F (hr.mono hjf) gf mf kp bd .nil gK
   (zz (ym Gi pi pj (λ_ _=>rfl)) (zz (ZF (qm hh) gs ms PyProof.Rows.Boot.«sum» (zz (KC PySem.F.plainAttrs_dict eK PySem.F.type_dict_values qj pi' hb hli) zQ (st1 rfl)) (by decide) (by decide) (st1 rfl) rfl) zQ (st1 rfl)) st2') hd st2' (Zm rfl)))))
 intro pins s σ H D Iv ⟨B,I,q⟩;have hlen:i < σ.length:=by rw[Iv.len];exact(ai.mp hi).1
 refine W pins s σ H D Iv ?_;have q' :PoS Y B ((fa ρ).s λt=>(((vE j ρ).bind λk=>(qd t k).bind λx=>(WO t).bind λy=>g [x,y]).s λt=> .rt t)) D:=by
  have e:Vc j fa g ρ=((fa ρ).s λt=>(((vE j ρ).bind λk=>(qd t k).bind λx=>(WO t).bind λy=>g [x,y]).s λt=> .rt t)):=by
   unfold Vc;cases fa ρ <;> rfl
  rw[← e];exact q
 refine jy I q' λt v H1 _ s1 r1 I1 q1=> ?_;unfold vE at q1;split at q1
 ·rename_i kk e;obtain⟨u,eu,ru⟩:=I1.vl j kk e;have q1:PoS Y _ (((qd t kk).bind λx=>(WO t).bind λy=>g [x,y]).s λt=> .rt t) D:=q1;rcases qo t kk with ⟨v',e'⟩ | e'
  ·obtain⟨ts,qs,z,m,rfl,rfl,e1,nd,ei,rfl⟩:=XV e';rw[e']at q1;rw[Vf rfl e1 nd]at q1;have q1:PoS Y _ ((g _).s λt=> .rt t) D:=q1;cases r1 with
   | @tup l xs _ h r=>
    cases ru;refine⟨l,xs,ts,qs,rfl,I1.sB _ _ h,r.mono I1.sB,e1,nd,λw hw=> ?_⟩;have gi:(σ.set i (some (V.ref w)))[i]? =some (some (V.ref w)):=by rw[aT hlen]
    have gj:(σ.set i (some (V.ref w)))[j]? =some (some (V.str z)):=by rw[ay hij];exact eu
    refine⟨_,gi,_,gj,w,qs,z,m,rfl,rfl,zA,ei, ?_⟩;refine⟨_,gi,.inr (.inr (.inl ⟨rfl,.inl ⟨_,zA⟩⟩)),w,qs,rfl,rfl,zA,λy hy=> ?_⟩;have hyw:y ≠ w:=λe=>by rw[e,zA]at hy;cases hy
    have hy1:=by rw[zv hyw]at hy;exact hy
    refine⟨y,_,w,qs,rfl,zA,λh z=>z,by rw[zv (aS hyw)];exact zA, ?_⟩
    have s13:zr H1 (upd (upd H1 w (.dK (kvV qs))) y (.ext λh=>h.IsValuesView y w)):=λb o hb=>by
     have n1:b ≠ w:=λe=>by rw[e,hw]at hb;cases hb
     have n2:b ≠ y:=λe=>by rw[e,hy1]at hb;cases hb
     rw[zv n2,zv n1];exact hb
    have I3:=I1.grow s13;refine⟨_,[.int m,.int _],rfl,I3.sB,.cons (.int _) (.cons (.int _) .nil), ?_⟩;revert q1;cases g _ with
    | bad=>exact λq1=>q1
    | ex c=>exact λq1 d H' s sB=>q1 d H' (I3.sH.trans s) ((zO.ge I1.sB s13).trans sB)
    | ok t=>exact λq1 b H' s r=>q1 b H' (I3.sH.trans s) (r.mono (Ub I3.sH I3.old s I3.sB))
  ·rw[e']at q1;exact q1.elim
 ·exact q1.elim
end
section
end
section
end
end PV
namespace PySem.RV
open PySem PySem.Spec PyProof.Rows PySem.Builtin.SmallTypes
section
end
end PySem.RV
namespace PV
open PySem PySem.Spec PyProof.Rows L2
section
end
section
section
end
end
section
end
section
end
end PV
namespace PV
open PySem PySem.W PyProof.Rows
section
variable {α β:Type}
noncomputable def Gd (lt:Nat->Nat->Bool)(n:Nat):KasT α->(α->Prop)->Prop
 | .ret a,P=>P a
 | .ask i j k,P=>(i < n/\j < n/\i ≠ j)/\Gd lt n (k (lt i j)) P
theorem Gd.mono {lt:Nat->Nat->Bool}{P P' :α->Prop}(h:∀a,P a->P' a):∀(t:KasT α),Gd lt n t P->Gd lt n t P'
 | .ret a,g=>h a g
 | .ask i j k,⟨h1,g⟩=>⟨h1,Gd.mono h _ g⟩
theorem Gd.bind {lt:Nat->Nat->Bool}{P:β->Prop}{f:α->KasT β}:∀(t:KasT α),Gd lt n t (λa=>Gd lt n (f a) P)->Gd lt n (t.bind f) P
 | .ret a,g=>g
 | .ask i j k,⟨h1,g⟩=>⟨h1,Gd.bind _ g⟩
end
section
variable {O:KeyOrd}{key:Nat->O.α}
noncomputable abbrev kp (key:Nat->O.α)(p:Array Nat)(i:Nat):O.α:=key (p.getD i 0)
structure Pm (n:Nat) (p:Array Nat):Prop where
 sz:p.size=n
 pm:p.toList.Perm (a_ n)
theorem Pm.lt {p:Array Nat}(h:Pm n p)(hi:i < n):p.getD i 0 < n:=by
 have hs:i < p.size:=by rw[h.sz];exact hi
 have e:p.getD i 0=p[i]:=by simp[iT,hs]
 rw[e];exact bf.mp (h.pm.mem_iff.mp (Array.getElem_mem_toList hs))
theorem Pm.inj {p:Array Nat}(h:Pm n p)(hi:i < n)(hj:j < n)(e:p.getD i 0=p.getD j 0):i=j:=by
 have hs:i < p.size:=by rw[h.sz];exact hi
 have hs' :j < p.size:=by rw[h.sz];exact hj
 have e1:p.getD i 0=p[i]:=by simp[iT,hs]
 have e2:p.getD j 0=p[j]:=by simp[iT,hs']
 rw[e1,e2]at e;have nd:=h.pm.nodup_iff.mpr List.nodup_range;have:=(io (h₀:=by simpa using hs) (h₁:=by simpa using hs') nd).mp (by simpa using e)
 exact this
def So (key:Nat->O.α)(p:Array Nat)(m:Nat):Prop:=∀i j,i < j->j < m->O.klt (kp key p i) (kp key p j)
theorem W2 {p q:Array Nat}(h:p[i]? =q[j]?):p.getD i 0=q.getD j 0:=by
 have e:∀(a:Array Nat) (k:Nat),a.getD k 0=(a[k]?).getD 0:=λa k=>by simp
 rw[e,e,h]
variable (hk:∀i j,i < n->j < n->key i=key j->i=j)
include hk
theorem XX {p:Array Nat}(h:Pm n p)(hi:i < n)(hj:j < n)(hij:i ≠ j)(hf:O.blt (kp key p i) (kp key p j)=false):O.klt (kp key p j) (kp key p i):=by
 cases q:O.blt _ _ with
 | true=>exact q
 | false=>exact absurd (h.inj hi hj (hk _ _ (h.lt hi) (h.lt hj) (O.total _ _ hf q))) hij
omit hk in
theorem So.snoc {p:Array Nat}(h:So key p m)(h1:1<=m)(hl:O.klt (kp key p (m - 1)) (kp key p m)):So key p (m+1):=λi j hij hj=>by
 by_cases hjm:j=m
 ·subst hjm
  by_cases him:i=j - 1
  ·rw[him];exact hl
  ·exact ce (h i _ (by omega) (by omega)) (dk hl)
 ·exact h i j hij (by omega)
theorem qp {p:Array Nat}(hp:Pm n p):∀(f m:Nat),1<=m->m+f=n->So key p m->Gd (λi j=>O.blt (key i) (key j)) n (kas_asc p f m) λr=>m<=r/\r<=n/\So key p r/\(r < n->O.klt (kp key p r) (kp key p (r - 1)))
 | 0,m,_,hm,h=>⟨aj _,by omega,h,λz=>by omega⟩
 | f+1,m,h1,hm,h=>by
  refine⟨⟨hp.lt (by omega),hp.lt (by omega),λz=>absurd (hp.inj (by omega) (by omega) z) (by omega)⟩, ?_⟩
  show Gd _ n (if O.blt _ _=true then .ret m else kas_asc p f _) _
  cases q:O.blt _ _ with
  | true=>exact⟨aj _,by omega,h,λ_=>q⟩
  | false=>
   exact Gd.mono (λr ⟨a,b,c⟩=>⟨by omega,b,c⟩) _ (qp hp f _ (by omega) (by omega) (h.snoc h1 (XX hk hp (by omega) (by omega) (by omega) q)))
def De (key:Nat->O.α)(p:Array Nat)(m:Nat):Prop:=∀i j,i < j->j < m->O.klt (kp key p j) (kp key p i)
theorem qr {p:Array Nat}(hp:Pm n p):∀(f m:Nat),2<=m->m+f=n->De key p m->Gd (λi j=>O.blt (key i) (key j)) n (kas_desc f p m 0) λr=>r.1=p/\r.2.2=0/\m<=r.2.1/\r.2.1<=n/\De key p r.2.1
 | 0,m,_,hm,h=>⟨rfl,rfl,aj _,by show m<=n;omega,h⟩
 | f+1,m,h1,hm,h=>by
  refine⟨⟨hp.lt (by omega),hp.lt (by omega),λz=>absurd (hp.inj (by omega) (by omega) z) (by omega)⟩, ?_⟩
  show Gd _ n (if O.blt _ _=true then (if 0 > 0 then kas_desc f _ _ 0 else kas_desc f p _ 0) else .ask _ _ λd=>if d=true then .ret _ else kas_desc f p _ _) _
  cases q:O.blt _ _ with
  | true=>
   refine Gd.mono (λr ⟨a,b,c,d⟩=>⟨a,b,by omega,d⟩) _ (qr hp f _ (by omega) (by omega) λi j hij hj=> ?_)
   by_cases hjm:j=m
   ·subst hjm
    by_cases him:i=j - 1
    ·rw[him];exact q
    ·exact ce (show O.klt _ _ from q) (dk (h i _ (by omega) (by omega)))
   ·exact h i j hij (by omega)
  | false=>
   refine⟨⟨hp.lt (by omega),hp.lt (by omega),λz=>absurd (hp.inj (by omega) (by omega) z) (by omega)⟩, ?_⟩
   have q2:O.blt _ _=true:=XX hk hp (by omega) (by omega) (by omega) q
   show Gd _ n (if O.blt _ _=true then .ret _ else _) _
   rw[if_pos q2];exact⟨rfl,rfl,aj _,by show m<=n;omega,h⟩
omit hk in
theorem xa {p:Array Nat}(hp:Pm n p)(i j:Nat):Pm n (kas_rev p i j):=⟨(mirror_size _ _ _ _).trans hp.sz,(dY.mp (mirror_perm p i j _)).trans hp.pm⟩
omit hk in
theorem qt {p:Array Nat}(hp:Pm n p)(hm:m<=n)(hk' :k < m):(kas_rev p 0 m).getD k 0=p.getD (m - 1 - k) 0:=by
 refine W2 ?_;unfold kas_rev;rw[getElem?_mirror_all (by rw[hp.sz];exact hm),if_pos ⟨aQ _,hk'⟩]
 congr 1
 omega
theorem jm {p:Array Nat}(hp:Pm n p)(h2:2<=n):Gd (λi j=>O.blt (key i) (key j)) n (kas_count n p) λr=>1<=r.1/\r.1<=n/\Pm n r.2/\So key r.2 r.1:=by
 refine Gd.bind _ (Gd.mono (λm ⟨a,b,c,d⟩=> ?_) _ (qp hk hp _ 1 (aj _) (by omega) λi j hij hj=>by omega))
 by_cases hmn:m=n
 ·rw[if_pos (by simpa using hmn)]
  exact⟨a,b,hp,c⟩
 ·rw[if_neg (by simpa using hmn)]
  by_cases hm1:m > 1
  ·rw[if_pos hm1];refine⟨⟨hp.lt (by omega),hp.lt (by omega),λz=>absurd (hp.inj (by omega) (by omega) z) (by omega)⟩, ?_⟩
   have q:O.blt _ (kp key p (m - 1))=true:=c 0 _ (by omega) (by omega)
   show Gd _ n (if O.blt _ _=true then .ret _ else _) _
   rw[if_pos q];exact⟨a,b,hp,c⟩
  ·have e:m=1:=by omega
   subst e;have d1:=d (by omega)
   refine Gd.bind _ (Gd.mono (λr ⟨r1,r2,r3,r4,r5⟩=> ?_) _ (qr hk hp _ _ (by omega) (by omega) λi j hij hj=>by
    have:i=0/\j=1:=by omega
    rw[this.1,this.2];exact d1))
   rw[r2,r1];refine Gd.bind _ (Gd.mono (λm' ⟨x1,x2,x3,_⟩=>⟨by omega,x2,xa hp 0 _,x3⟩) _ (qp hk (xa hp 0 _) _ _ (by omega) (by omega) λi j hij hj=> ?_))
   unfold kp;rw[qt hp r4 (by omega),qt hp r4 hj]
   exact r5 _ _ (by omega) (by omega)
theorem W3 {p:Array Nat}(hp:Pm n p)(hkn:k < n)(hs:So key p k):∀(f l r:Nat),r<=k->l<=r->r - l<=f->(∀i,i < l->O.klt (kp key p i) (kp key p k))->(∀i,r<=i->i < k->O.klt (kp key p k) (kp key p i))->
  Gd (λi j=>O.blt (key i) (key j)) n (kas_place p k f l r) λm=>m<=k/\(∀i,i < m->O.klt (kp key p i) (kp key p k))/\∀i,m<=i->i < k->O.klt (kp key p k) (kp key p i)
 | 0,l,r,h1,h2,h3,h4,h5=>⟨by omega,h4,λi hi hik=>h5 i (by omega) hik⟩
 | f+1,l,r,h1,h2,h3,h4,h5=>by
  unfold kas_place
  by_cases hlr:l ≥ r
  ·rw[if_pos hlr];exact⟨by omega,h4,λi hi hik=>h5 i (by omega) hik⟩
  ·rw[if_neg hlr];refine⟨⟨hp.lt hkn,hp.lt (by omega),λz=>absurd (hp.inj hkn (by omega) z) (by omega)⟩, ?_⟩
   show Gd _ n (if O.blt _ _=true then kas_place p k f l _ else kas_place p k f _ r) _
   cases q:O.blt _ _ with
   | true=>
    refine W3 hp hkn hs f l _ (by omega) (by omega) (by omega) h4 λi hi hik=> ?_
    by_cases e:i=(l+r) / 2
    ·rw[e];exact q
    ·exact ce (q) (dk (hs _ _ (by omega) hik))
   | false=>
    refine W3 hp hkn hs f _ r h1 (by omega) (by omega) (λi hi=> ?_) h5
    have ql:=XX hk hp hkn (by omega) (by omega) q
    by_cases e:i=(l+r) / 2
    ·rw[e];exact ql
    ·exact ce (hs _ _ (by omega) (by omega)) (dk ql)
omit hk in
theorem qu {p:Array Nat}(hp:Pm n p)(hkn:k < n)(hl:l<=k):(bubble p k (k - l)).getD i 0=if i=l then p.getD k 0 else if l < i/\i<=k then p.getD (i - 1) 0 else p.getD i 0:=by
 have h:=getElem?_bubble (by rw[hp.sz];exact hkn) (k - l) (by omega) i
 rw[show k - (k - l)=l by omega]at h
 repeat' split at h
 all_goals first | (rw[if_pos (by assumption)];exact W2 h) | (rw[if_neg (by assumption),if_pos (by assumption)];exact W2 h) | (rw[if_neg (by assumption),if_neg (by assumption)];exact W2 h)
theorem xf:∀(f:Nat) (p:Array Nat) (k:Nat),Pm n p->k+f=n->So key p k->Gd (λi j=>O.blt (key i) (key j)) n (kas_bin f p k) λq=>Pm n q/\So key q n
 | 0,p,k,hp,hkf,h=>⟨hp,by rw[← hkf];exact h⟩
 | f+1,p,k,hp,hkf,h=>by
  unfold kas_bin;refine Gd.bind _ (Gd.mono (λl ⟨a,b,c⟩=> ?_) _ (W3 hk hp (by omega) h k 0 k (aj _) (aQ _) (by omega) (λi hi=>by omega) λi hi hik=>by omega))
  refine xf f _ _ ⟨(bubble_size _ _ _).trans hp.sz,(dY.mp (bubble_perm p k _)).trans hp.pm⟩ (by omega) λi j hij hj=> ?_
  unfold kp;rw[qu hp (by omega) a,qu hp (by omega) a]
  by_cases hi:i=l
  ·rw[if_pos hi,if_neg (by omega),if_pos ⟨by omega,by omega⟩]
   exact c _ (by omega) (by omega)
  ·rw[if_neg hi]
   by_cases hj' :j=l
   ·rw[if_pos hj',if_neg (by omega)]
    exact b i (by omega)
   ·rw[if_neg hj']
    by_cases x:l < i/\i<=k
    ·rw[if_pos x,if_pos ⟨by omega,by omega⟩]
     exact h _ _ (by omega) (by omega)
    ·rw[if_neg x]
     by_cases y:l < j/\j<=k
     ·rw[if_pos y];exact h _ _ (by omega) (by omega)
     ·rw[if_neg y];exact h _ _ hij (by omega)
theorem qv (h2:2<=n):Gd (λi j=>O.blt (key i) (key j)) n (kas_sort n) λq=>Pm n q/\So key q n:=by
 refine Gd.bind _ (Gd.mono (λr ⟨a,b,c,d⟩=> ?_) _ (jm hk ⟨by simp,by simp⟩ h2))
 by_cases h:r.1 < n
 ·rw[if_pos h,show max r.1 1=r.1 by omega]
  exact xf hk _ _ _ c (by omega) d
 ·rw[if_neg h];exact⟨c,by rw[show n=r.1 by omega];exact d⟩
end
end PV
namespace PV
open PySem PySem.Spec PyProof.Rows L2
section
end
section
end
section
open PySem.W PySem.Calls
variable {O:KeyOrd}{key:Nat->O.α}
end
section
open PySem.W PySem.Calls
end
end PV
namespace PV
open PySem PySem.Spec PyProof.Rows L2
section
end
section
open HT in
open HT in
end
section
end
end PV
namespace PV
open PySem PySem.Spec PyProof.Rows L2
end PV
namespace L2
open PySem PySem.Spec PyProof.Rows PySem.W
end L2
namespace L2
open PySem PySem.Spec PyProof.Rows PySem.W
section
end
end L2
namespace L2
open PySem PySem.Spec PyProof.Rows PySem.W
end L2
namespace PV
open PySem PySem.Spec PyProof.Rows L2 PySem.W
section
end
end PV
namespace L2
open PySem PySem.Spec PyProof.Rows PySem.W
end L2
namespace PV
open PySem PySem.Spec PyProof.Rows L2
end PV
namespace PV
open PySem PySem.Spec PyProof.Rows L2 PySem.W
section
def ixO (i:Nat)(fb:En->R T):En->R T:=λρ=>match ρ[i]? with
 | some (.ow ts)=>(fb ρ).bind λt=>match t with
  | .int j=>atT ts j
  | _=> .bad
 | _=> .bad
theorem z2u (hv:PE X (.Name x p) (wg i))(hb:Snd X Y b fb)(hs:jR b:=by exact λ_ _=>rfl):Snd X Y (.Subscript (.Name x p) b pos) (ixO i fb):= .mk λρ=>
 PE.imp (ym Ww hv (hb ρ) hs) λσ H Q ⟨B,I,q⟩=>by
  unfold ixO at q;split at q
  ·rename_i ts e;obtain⟨a,xs,e1,_⟩:=I.ow i ts e;refine⟨.ref a,e1,step I q λt' v' H2 _ s2 r2 I2 q2=> ?_⟩;obtain⟨a2,xs2,e2,_,_,hh,rr,_⟩:=I2.ow i ts e;rw[e1]at e2;cases e2;cases r2 with
   | int j=>
    have q2:Po Y rC _ H2 (atT ts j) Q:=q2;unfold atT at q2;split at q2
    ·rename_i t e3;obtain⟨w,e4,e5⟩:=JJ rr e3;exact .inl ⟨_,xs2,j,w,rfl,rfl,SqL.of hh,e4,po0 I2.sB q2 rfl e5⟩
    ·exact q2.elim
   | _=>exact q2.elim
  ·exact q.elim
theorem SI.forget (I:SI Y B ρ σ H)(i:Nat)(v:Option V):SI Y B (ρ.set i .un) (σ.set i v) H where
 s0:=I.s0
 sH:=I.sH
 sB:=I.sB
 old:=I.old
 len:=by rw[aE,aE];exact I.len
 vl:=λj t h=>by
  rcases zq h with ⟨_,z⟩ | ⟨n,z⟩
  ·cases z
  ·obtain⟨v',e,r⟩:=I.vl j t z;exact⟨v',by rw[ay (aS n)];exact e,r⟩
 ow:=λj ts h=>by
  rcases zq h with ⟨_,z⟩ | ⟨n,z⟩
  ·cases z
  ·obtain⟨a,xs,e,b0,h0,hh,r,d⟩:=I.ow j ts z;refine⟨a,xs,by rw[ay (aS n)];exact e,b0,h0,hh,r,λj' us n' h' => ?_⟩
   rcases zq h' with ⟨_,z'⟩ | ⟨n2,z'⟩
   ·cases z'
   ·rw[ay (aS n2)];exact d j' us n' z'
 xc:=λj c h=>by
  rcases zq h with ⟨_,z⟩ | ⟨n,z⟩
  ·cases z
  ·obtain⟨a,e,r⟩:=I.xc j c z;exact⟨a,by rw[ay (aS n)];exact e,r⟩
 st:=let ⟨as,O,x⟩:=I.st;⟨as,O,x.set i _ _ rfl (λ_=>Sl.noConfusion)⟩
end
end PV
namespace PV
open PySem PySem.Spec PyProof.Rows L2
section
end
end PV
namespace PV
open PySem PySem.Spec PyProof.Rows L2 PySem.W
section
end
theorem qw:∀(ns:List (Str×NameKind)) (n:Nat) (acc:List (Str×Addr)),(∀k,(x,k)∈ns->k ≠ NameKind.cell)->(cellsFrom n ns acc).lookup x=acc.lookup x
 | [],_,_,_=>rfl
 | (y,k) :: ns,n,acc,h=>by
  unfold cellsFrom;have h' :=λk hk=>h k (a8 _ hk);split
  ·rename_i hk;rw[qw ns _ _ h',aw];have:x ≠ y:=λz=>h k (by rw[z];exact ab) (eq_of_beq hk)
   rw[beq_eq_false_iff_ne.mpr this]
  ·exact qw ns _ _ h'
theorem Uv:∀(ns:List (Str×NameKind)) (n:Nat) (acc:List (Str×Addr)),(cellsFrom n ns acc).lookup x=some c->((x,NameKind.cell)∈ns/\n<=c)\/acc.lookup x=some c
 | [],_,_,h=> .inr h
 | (y,k) :: ns,n,acc,h=>by
  unfold cellsFrom at h;split at h
  ·rename_i hk;rcases Uv ns _ _ h with ⟨a,b⟩ | z
   ·exact .inl ⟨a8 _ a,cJ b⟩
   ·rw[aw]at z
    by_cases hx:x=y
    ·subst hx;rw[beq_self_eq_true]at z;have e:=aB z;rw[eq_of_beq hk];exact .inl ⟨ab,h_ e⟩
    ·rw[beq_eq_false_iff_ne.mpr hx]at z;exact .inr z
  ·rcases Uv ns _ _ h with ⟨a,b⟩ | z
   ·exact .inl ⟨a8 _ a,b⟩
   ·exact .inr z
theorem W4:∀(ns:List (Str×NameKind)) (n:Nat) (acc:List (Str×Addr)),(∃c,acc.lookup x=some c)->∃c,(cellsFrom n ns acc).lookup x=some c
 | [],_,_,h=>h
 | (y,k) :: ns,n,acc,h=>by
  unfold cellsFrom;split
  ·refine W4 ns _ _ ?_;rw[aw]
   by_cases hx:x=y
   ·subst hx;rw[beq_self_eq_true];exact⟨_,rfl⟩
   ·rw[beq_eq_false_iff_ne.mpr hx];exact h
  ·exact W4 ns _ _ h
theorem xg:∀(ns:List (Str×NameKind)) (n:Nat) (acc:List (Str×Addr)),(x,NameKind.cell)∈ns->∃c,(cellsFrom n ns acc).lookup x=some c
 | (y,k) :: ns,n,acc,h=>by
  unfold cellsFrom;rcases ak.mp h with e | h
  ·cases e;refine W4 ns _ _ ⟨n, ?_⟩;rw[aw,beq_self_eq_true]
  ·split <;> exact xg ns _ _ h
theorem qx:∀(ns:List (Str×NameKind)) (n m:Nat) (acc:List (Str×Addr)),m<=n->((x,NameKind.cell)∈ns\/∀d,acc.lookup x=some d->m<=d)->(cellsFrom n ns acc).lookup x=some c->m<=c
 | [],_,_,_,_,h,e=>(h.resolve_left (by simp)) _ e
 | (y,k) :: ns,n,m,acc,hm,h,e=>by
  unfold cellsFrom at e;split at e
  ·refine qx ns _ m _ (Nat.le_succ_of_le hm) ?_ e
   by_cases hx:x=y
   ·subst hx;refine .inr λd z=> ?_;rw[aw,beq_self_eq_true]at z;have e:=aB z;rw[← e];exact hm
   ·rcases h with h | h
    ·rcases ak.mp h with z | z
     ·cases z;exact absurd rfl hx
     ·exact .inl z
    ·refine .inr λd z=> ?_;rw[aw,beq_eq_false_iff_ne.mpr hx]at z;exact h d z
  ·rename_i hk;refine qx ns _ m _ hm ?_ e;rcases h with h | h
   ·rcases ak.mp h with z | z
    ·cases z;exact absurd rfl hk
    ·exact .inl z
   ·exact .inr h
theorem qy:∀(ns:List (Str×NameKind)) (n:Nat) (acc:List (Str×Addr)),(∀x y c,acc.lookup x=some c->acc.lookup y=some c->x=y)->(∀x c,acc.lookup x=some c->c < n)->∀x y c,(cellsFrom n ns acc).lookup x=some c->(cellsFrom n ns acc).lookup y=some c->x=y
 | [],_,_,h,_=>h
 | (y,k) :: ns,n,acc,h,hb=>by
  unfold cellsFrom;split
  ·have lk:∀x c,((y,n) :: acc).lookup x=some c->(x=y/\c=n)\/acc.lookup x=some c:=λx c e=>by
    rw[aw]at e
    by_cases hx:x=y
    ·subst hx;rw[beq_self_eq_true]at e;exact .inl ⟨rfl,(aB e).symm⟩
    ·rw[beq_eq_false_iff_ne.mpr hx]at e;exact .inr e
   refine qy ns _ _ (λa b c e1 e2=> ?_) λa c e=> ?_
   ·rcases lk a c e1 with ⟨p1,q1⟩ | z1 <;> rcases lk b c e2 with ⟨p2,q2⟩ | z2
    ·rw[p1,p2]
    ·exact absurd (hb _ _ z2) (by rw[q1];exact aX _)
    ·exact absurd (hb _ _ z1) (by rw[q2];exact aX _)
    ·exact h a b c z1 z2
   ·rcases lk a c e with ⟨_,q⟩ | z
    ·rw[q];exact bT _
    ·exact bF (hb _ _ z)
  ·exact qy ns _ _ h hb
theorem uK:∀(ns:List (Str×NameKind)) (h:Heap) (acc:List (Str×Addr)),(cellsFrom h.objs.size ns acc).lookup x=some c->(∀d,acc.lookup x=some d->∃v,h.IsCell d v)->∃v,(pushCells h ns).IsCell c v
 | [],_,_,e,k=>k c e
 | (y,k) :: ns,h,acc,e,hk=>by
  unfold pushCells;unfold cellsFrom at e;split at e
  ·rename_i hc;rw[if_pos hc];have sz:(h.push { cls:= .type "cell",data:= .cell none }).objs.size=h.objs.size+1:=bg ..;rw[← sz]at e;refine uK ns _ _ e λd z=> ?_;rw[aw]at z
   by_cases hx:x=y
   ·subst hx;rw[beq_self_eq_true]at z;have e:=aB z;rw[← e];exact⟨none,_,af _ rfl,rfl⟩
   ·rw[beq_eq_false_iff_ne.mpr hx]at z;obtain⟨v,o,eo,ed⟩:=hk d z;exact⟨v,o,a9 _ eo,ed⟩
  ·rename_i hc;rw[if_neg hc];exact uK ns _ _ e hk
theorem jz (h:(relabel scope env).names.lookup x=some k):∃k',(x,k')∈scope.names/\(k=k' \/k' = .free/\k= .cell):=by
 have go:∀ns:List _,(ns.map λ(n,k)=>if (k == NameKind.free && env.scope.kind == .function && env.kindOf n == some .cell) then (n,NameKind.cell) else (n,k)).lookup x=some k->∃k',(x,k')∈ns/\(k=k' \/k' = .free/\k= .cell):=by
  intro ns
  induction ns with
  | nil=>intro h;simp at h
  | cons y ns ih=>
   intro h;obtain⟨n,k'⟩:=y;rw[aF]at h
   by_cases hx:x=n
   ·subst hx;refine⟨k',ab, ?_⟩
    by_cases hc:(k' == NameKind.free && env.scope.kind == .function && env.kindOf x == some .cell)=true
    ·simp only[if_pos hc,aw,beq_self_eq_true]at h;rw[ag,ag]at hc;exact .inr ⟨eq_of_beq hc.1.1,(aB h).symm⟩
    ·simp only[if_neg hc,aw,beq_self_eq_true]at h;exact .inl (aB h).symm
   ·obtain⟨z,hz,h1⟩:=ih (by
     by_cases hc:(k' == NameKind.free && env.scope.kind == .function && env.kindOf n == some .cell)=true
     ·simp only[if_pos hc,aw,(beq_eq_false_iff_ne.mpr hx)]at h;exact h
     ·simp only[if_neg hc,aw,(beq_eq_false_iff_ne.mpr hx)]at h;exact h)
    exact⟨z,a8 _ hz,h1⟩
 exact go _ h
def cxD (X:Cx)(scope:Scope)(N' :List Str)(cl:List (Str×Addr))(C:Addr)(s3:Shared)(H3:Hp)(fp:List Addr)(pins:List (Addr×Obj)):Cx:=
 { X with N:=N',s₀:=s3,H₀:=H3,env:=compEnvC scope (cellsFrom (C+1) scope.names cl) C X.env,outer:=X.stack,stack:=X.stack,ex:=fp,fn:=λx=>scope.names.lookup x == some .cell,pn:=X.pn++pins,xe:=λ_ _=>False }
structure CSd (X:Cx) (scope:Scope):Prop where
 kind:scope.kind= .function
 can:∀x∈scope.names,scope.names.lookup x.1=some x.2
 fre:∀x∈scope.names,x.2= .free->X.env.kindOf x.1=some .cell\/X.env.kindOf x.1=some .free
section
theorem yA (I:L2.Inv X pins σ H s)(S:CSd X scope)(hc:X.calm=true)
  (hcl:∀x c,cl.lookup x=some c->X.env.cells.lookup x=some c) (hcf:∀x∈scope.names,x.2=NameKind.free->∃c,cl.lookup x.1=some c)
  (hfp:∀b∈fp,Jp X pins H b) (hfo:∀b∈fp,∃o,s.heap.get? b=some o)
  (h0s:h0.objs.size=s.heap.objs.size+1) (h0k:∀b o,s.heap.get? b=some o->h0.get? b=some o) (eh:h' =pushCells h0 scope.names)
  (hns:h'.Ns s.heap.objs.size (λ_=>none)) (hk:∀b o,s.heap.get? b=some o->h'.get? b=some o)
  (hl:σ'.length=N'.length) (hσ:∀(i:Nat) (x:Str) (v:V),N'[i]? =some x->σ'[i]? =some (some v)->∃j:Nat,X.N[j]? =some x/\σ[j]? =some (some v)/\Vis X.env.scope x/\(scope.names.lookup x=some .free)/\(X.env.kindOf x=some .cell\/X.env.kindOf x=some .free)):
  L2.Inv (cxD X scope N' cl s.heap.objs.size s H fp pins) [] σ' H { s with heap:=h',toks:=tk }:=by
 have stk:=I.stkSub;have hlt:=λb hb=>let ⟨o,e⟩:=hfo b hb;ao e;have fresh:=I.hok.fresh (aj _);have cll:∀x c,cl.lookup x=some c->c < s.heap.objs.size:=λx c e=>by
  obtain⟨v,o,eo,_⟩:=I.cell x c (hcl x c e);exact ao eo
 have any:∀x c,(cellsFrom _ scope.names cl).lookup x=some c->s.heap.objs.size+1<=c\/X.env.cells.lookup x=some c:=λx c e=>by
  rcases Uv _ _ _ e with ⟨_,z⟩ | z
  ·exact .inl z
  ·exact .inr (hcl x c z)
 refine⟨⟨I.ok.mod,S.kind,I.ok.glob,I.ok.blt,aj _,qy _ _ _ (λx y c h1 h2=>I.ok.inj x y c (hcl _ _ h1) (hcl _ _ h2)) (λx c e=>bF (cll x c e)),λx hx=> ?_,λx c h e=> ?_,λ_=>I.ok.hd hc,I.ok.frames,.inl rfl,λb hb=> ?_,I.bs,
   aA I.ok.bsz I.sz,λb o e hb=> ?_,λb hb hb' => ?_,I.stack,I.stkFree⟩,rfl,I.bare,Un.kept hk,⟨_,hns,λi x v h1 h2 h3=> ?_⟩,λx c e=> ?_,fresh,λx c e=> ?_,λp hp=> ?_,I.hok.kept hk,hl⟩
 ·have hx' :=hx;have:(x,NameKind.cell)∈scope.names\/(x,NameKind.free)∈scope.names:=by
   rcases hx' with h | h
   ·obtain⟨k',m,e | ⟨e,_⟩⟩:=jz h
    ·exact .inl (e ▸ m)
    ·exact .inr (e ▸ m)
   ·obtain⟨k',m,e | ⟨e,_⟩⟩:=jz h
    ·exact .inr (e ▸ m)
    ·exact .inr (e ▸ m)
  rcases this with h | h
  ·exact xg _ _ _ h
  ·exact W4 _ _ _ (hcf _ h rfl)
 ·have hm:=bz (eq_of_beq h);exact cJ (qx _ _ _ _ (aj _) (.inl hm) e)
 ·refine⟨aD (hlt b hb),λx c e=> ?_⟩;rcases any x c e with z | z
  ·exact λq=>absurd (hlt b hb) (by rw[← q];exact iU.mpr (cJ z))
  ·exact(hfp b hb).2.2.2.2.1 x c z
 ·rcases(hfp b hb).2.2.2.1 with h | h
  ·exact I.ok.noex b o e h
  ·exact absurd (aL (ao e) (aA I.ok.bsz h)) (aX _)
 ·have q:=hfp b hb;rcases ak.mp (stk b hb') with z | z
  ·exact q.2.1 z
  ·exact q.2.2.1 z
 ·obtain⟨j,e1,e2,e3,e4,e5⟩:=hσ i x v h1 h2;obtain⟨m,hn,hloc⟩:=I.loc;obtain⟨u,ru,lk⟩:=hloc j x v e1 e2 e3;have only:∀k,(x,k)∈scope.names->k= .free:=λk hk=>by
   have:=S.can _ hk;rw[e4]at this;exact(aB this).symm
  refine⟨u,ru,.inr ⟨?_, ?_⟩⟩
  ·rcases h3 with h | h | h
   ·obtain⟨k',m',e | ⟨_,e⟩⟩:=jz h
    ·have:=only _ m';rw[← e]at this;cases this
    ·cases e
   ·exact .inl h
   ·exact .inr h
  ·rcases lk with ⟨hk',_⟩ | ⟨_,c,hc',hcell⟩
   ·rcases e5 with z | z <;> (rw[z]at hk';cases hk')
   ·obtain⟨c',hc2⟩:=hcf _ (bz e4) rfl;have:=hcl x c' hc2;rw[hc']at this;cases this;obtain⟨o,eo,ed⟩:=hcell;refine⟨c, ?_,o,hk _ _ eo,ed⟩;show (cellsFrom _ _ cl).lookup x=_;rw[qw _ _ _ λk hk=>by rw[only k hk];decide]
    exact hc2
 ·have e:(cellsFrom _ _ cl).lookup x=some c:=e;rw[← h0s]at e;rw[eh];refine uK _ _ _ e λd z=> ?_;obtain⟨v,o,eo,ed⟩:=I.cell x d (hcl _ _ z);exact⟨v,o,h0k _ _ eo,ed⟩
 ·rcases any x c e with z | z
  ·exact I.hok.fresh (cJ z)
  ·exact I.freeC x c z
 ·have hp' :=by
   have:=hp;rwa[aW]at this
  obtain⟨e,n,ne,nf,dc⟩:=I.pin p hp';refine⟨hk _ _ e,n,aD (ao e),λhb=> ?_,dc⟩;rcases ak.mp (stk _ hb) with z | z
  ·exact ne z
  ·exact nf z
end
theorem XY {Q:Env->Shared->Prop}
  (hQ:Q { scope,locals:=s.heap.objs.size,globals,cells:=cellsFrom (s.heap.objs.size+1) scope.names closure,qual,func:=none,code:=outer.code,frame:=outer.frame,builtins:=outer.builtins } { s with heap:=pushCells (s.heap.push { cls:= .type "dict",data:= .dict #[] }) scope.names }):
  wpAny M A (newFunctionEnv scope globals closure [] qual none .none (some outer)) Q E s:=by
 refine a7 (wpAny_alloc ?_);refine a7 (wpAny_layCells _ (λname kind cells=>by cases hkc:kind == NameKind.cell <;> simp[hkc]) _ _ _ _ ?_)
 refine a7 (aq (aq ?_));rw[show ({ s with heap:=s.heap.push _ }:Shared).heap.objs.size=s.heap.objs.size+1 from bg ..];exact hQ
abbrev qz (X:Cx)(scope:Scope)(N' :List Str)(P:Cx->Prop):Prop:=∀cl C s3 H3 fp pins,P (cxD X scope N' cl C s3 H3 fp pins)
section
theorem qA {js:List Nat}{use:Option (Value->Sem Unit)}(S:CSd X scope)(CP:gz X scope N' k js)(hc:X.calm=true)
  (hi:PI X tg iter wi) (hg:qz X scope N' λXC=>PG XC tg g) (ht:qz X scope N' λXC=>PIf XC ifs tt) (he:qz X scope N' λXC=>PE XC elt te) {pins:List (Addr×Obj)} {σ:Sg} {H:Hp} {s:Shared} {Q:Value->Shared->Prop} {F:Addr->Hp->Prop} (I:L2.Inv X pins σ H s)
  (h:wi σ H λJ H1=>∀D,H1 D=none->∃W,(∃m,W 0 m [] (WI k js σ) (upd H1 D (.lst [])))/\yq J D g tt te (λ_ H' =>F D H') W)
  (hQ:∀D C H' s',L2.Inv X pins σ H' s' ->F D H' ->H' C=none->(X.s₀.heap.objs.size<=C)->C ≠ X.env.locals->(∀x c,X.env.cells.lookup x=some c->c ≠ C)->(∀p∈X.pn++pins,p.1 ≠ C)->(∃m,s'.heap.Ns C m)->compPost (model X.prog X.w) X.A X.xe use Q (.ref D) C (.ok .next) s')
  (hs:∀x,foldedSetIterable iter X.env x=pure x:=by intro _;rfl):
  wpAny (model X.prog X.w) X.A (comprehension (.ListComp elt [⟨tg,iter,ifs,0⟩] scope pos) scope X.env pos' (newList []) false (eval iter X.env) use) Q X.xe s:=by
 obtain⟨cl,ecl,hcl,hcf⟩:=YE (scope:=scope) (env:=X.env) λx hx hf=>I.ok.has x.1 (S.fre x hx hf);refine wpAny_comprehension_free rfl hs ecl S.kind (λx hx hl=>by rw[S.can x hx,hl]) ?_
 refine thn (hi pins s σ H _ I h) λv s1 h1=>thn h1 λitv s2 h2=> ?_;obtain⟨it,fp,tn,J,H2,e,I2,TJ,st2,f2,q2⟩:=h2;subst e;refine aZ ?_;have hD:=I2.hok.fresh (aj _);have I3:L2.Inv X pins σ (upd H2 s2.heap.objs.size (.lst [])) { s2 with heap:=s2.heap.push { cls:= .type "list",data:= .seq _ } }:=
  I2.laid (t' :=s2.toks) (λb u e=>a9 _ e) (aj _) ⟨aQ _,[],_,.nil,af _ rfl⟩
 obtain⟨W,⟨m0,w0⟩,turn⟩:=q2 s2.heap.objs.size hD;have f3:∀b∈fp,Jp X pins (upd H2 s2.heap.objs.size (.lst [])) b:=λb hb=>by
  obtain⟨o,eo,_⟩:=TJ.obj _ _ st2 b hb;exact⟨by rw[zv (aD (ao eo))];exact(f2 b hb).1,(f2 b hb).2⟩
 have o3:∀b∈fp,∃o,(s2.heap.push { cls:= .type "list",data:= .seq ([]:List Value).toArray }).get? b=some o:=λb hb=>by
  obtain⟨o,eo,_⟩:=TJ.obj _ _ st2 b hb;exact⟨o,a9 _ eo⟩
 have t3:tn 0 (s2.heap.push { cls:= .type "list",data:= .seq ([]:List Value).toArray }):=TJ.keep _ _ _ st2 λb hb o e=>a9 _ e;refine XY ?_;generalize hD' :s2.heap.objs.size=D at*;generalize hH:upd H2 D (.lst [])=H3 at*;generalize hG:({ s2 with heap:=s2.heap.push _ }:Shared)=s3 at*;have hg3:s2.heap.push { cls:= .type "list",data:= .seq ([]:List Value).toArray }=s3.heap:=by rw[← hG]
 rw[hg3]at o3 t3;have k4:∀b o,s3.heap.get? b=some o->(pushCells (s3.heap.push { cls:= .type "dict",data:= .dict #[] }) scope.names).get? b=some o:=λb o e=>pushCells_keeps _ _ b o (a9 _ e);have IC:=yA (N' :=N') (cl:=cl) (fp:=fp) (σ' :=WI k js σ) (tk:=s3.toks) I3 S hc hcl hcf f3 o3 (bg ..) (λb o e=>a9 _ e) rfl ((Heap.Ns.new _ _).keeps (pushCells_keeps _ _)) k4 (by unfold WI;simp[CP.len]) (λi x v h1 h2=>by
  unfold WI at h2
  by_cases hik:i < k
  ·rw[ax (by simpa using hik),aO,if_pos hik]at h2
   cases h2
  ·have hk' :=by omega
   rw[av (by simpa using hk'),aP,ar]at h2
   cases ej:js[i - k]? with
   | none=>rw[ej]at h2;cases h2
   | some j=>
    rw[ej]at h2;obtain⟨y,e1,e2,e3,e4,e5⟩:=CP.cap _ j ej;have:k+(i - k)=i:=by omega
    rw[this,h1]at e1;cases e1;refine⟨j,e2, ?_,e3,e4,e5⟩;have h2' :some ((σ[j]?).getD _)=some _:=h2;cases ez:σ[j]? with
    | none=>rw[ez]at h2';cases h2'
    | some z=>rw[ez]at h2';exact congrArg _ (aB h2'))
 generalize hXD:cxD X _ N' cl _ s3 H3 fp _=XD at IC;have TC:y9 XD.prog XD.w XD.K tg J fp it tn:=by rw[← hXD];exact TJ
 have t4:=TJ.keep _ _ _ t3 λb hb o e=>k4 b o e;have fC:∀b∈fp,Jp XD [] H3 b:=λb hb=>by
  obtain⟨q0,q1,q2,q3,q4,q5⟩:=f3 b hb;obtain⟨o,eo⟩:=o3 b hb;rw[← hXD];refine⟨q0,aD (ao eo),λhb' => ?_,.inl hb,λx c e=> ?_,λp hp=> ?_⟩
  ·rcases ak.mp (I3.stkSub b hb') with z | z
   ·exact q1 z
   ·exact q2 z
  ·rcases Uv _ _ _ e with ⟨_,z⟩ | z
   ·exact λq=>absurd (ao eo) (by rw[← q];exact iU.mpr (cJ z))
   ·exact q4 x c (hcl _ _ z)
  ·exact q5 p (by
    have:=hp;rwa[aW]at this)
 have fin:∀(s5:Shared) (σ5:Sg) (H5:Hp),L2.Inv XD [] σ5 H5 s5->F D H5->compPost _ X.A _ use Q _ _ _ s5:=λs5 σ5 H5 I5 q5=>by
  subst hXD;have J5:=I3.call' I5.os I5.base I5.hok I5.bare λb hb=>by
   obtain⟨q0,q1,q2,q3,q4,q5⟩:=f3 b hb;exact⟨q3,q1,q4,q5⟩
  refine hQ _ _ H5 s5 J5 q5 I5.free I3.sz (d7 I3.lt) (λx c e z=> ?_) (λp hp z=> ?_) (let ⟨m,hm,_⟩:=I5.loc;⟨m,hm⟩)
  ·obtain⟨v',o,eo,_⟩:=I3.cell x c e;exact absurd (ao eo) (by rw[z];exact aX _)
  ·exact absurd (ao (I3.pin p hp).1) (by rw[z];exact aX _)
 have hxe:XD.xe=λ_ _=>False:=by rw[← hXD];rfl
 have loop:=WH (iter:=iter) (scope:=scope) (pos:=pos) (λ_ _ z=>by rw[hxe]at z;exact z.elim) (by rw[← hXD];exact hc) TC (hXD ▸ hg cl _ _ _ _ _) (hXD ▸ ht cl _ _ _ _ _) (hXD ▸ he cl _ _ _ _ _) W turn fin w0 IC t4 fC
 subst hXD;exact codeAny_compStart_list loop (TJ.self _ _ _ _ _ t4 loop)
end
section
variable {X:Cx}{Y:Fx}{tg iter elt:Expr}{ifs:List Expr}{scope:Scope}{pos pos' :Pos}{N' :List Str}{k:Nat}{js:List Nat}{fi:En->R (List T)}{tG:TG}{g:T->En->R En}{ft:En->R Bool}{fe:En->R T}
theorem yB {B1 H1:Hp}{σ:Sg}{ρ:En}{J:It}{ts:List T}{r:R (List T)}{D:Addr}{E0:XK}(hG:GOk tG g)(hN:GNo g)(I:SI Y B1 ρ σ H1)(rI' :rI B1 H1 J ts)(hl:ts.length<=bnd)(ev:zP g ft fe ts (wy k js ρ)=r)(hD:H1 D=none){F:Hp->Prop}
  (hF:CEnd r (λvs=>∀H' xs B',zr H1 H' ->H' D=some (.lst xs)->zF B' xs vs->zr B' (zO B1 H1 H')->B' D=none->zr B1 B' ->F H') λc=>∀d H',zr H1 H' ->zr B1 H' ->E0 (Y.cl c) d H'):
  ∃W,(∃m,W 0 m [] (WI k js σ) (upd H1 D (.lst [])))/\yq J D tG (λσ H Q=>∃Y' ρ',Y'.cl=Y.cl/\zr Y.H0 Y'.H0/\tS Y' rE ft ρ' σ H Q) (λσ H Q=>∃Y' ρ',Y'.cl=Y.cl/\zr Y.H0 Y'.H0/\tS Y' rC fe ρ' σ H Q) (λ_ H' =>F H') W:=by
 refine⟨λi m ys σ' H' =>m=ts.length - i/\i<=ts.length/\ys.length<=i/\H' D=some (.lst ys)/\∃ρ' B' us,SI ⟨B1,H1,E0,Y.cl,[]⟩ B' ρ' σ' H' /\Xn ρ' /\zr B1 B' /\B' D=none/\zF B' ys us/\((zP g ft fe (ts.drop i) ρ').bind λws=> .ok (us++ws))=r,
  ⟨ts.length,by simp,aQ _,aQ _,zA,_,B1,[],I.block (H3:=H1) k js _ hD _,Ug k js ρ,zr.refl _,I.sB.free hD,.nil,by rw[dg,ev];cases r <;> rfl⟩, ?_⟩
 rintro i m ys σ' H' ⟨rfl,hi,hyl,hDl,ρ',B',us,I',no',s1',bD,r',ew⟩
 refine⟨hDl, ?_⟩;obtain⟨hgo,hyld,hstop⟩:=rI' B' H' s1' I'.sB;have tD:∀H2,zr H' H2->zO B' H' H2 D=none:=λH2 s=>by rw[Z7 hDl];exact bD
 by_cases hlt:i < ts.length
 ·refine .inr ⟨hgo i hlt,λx H2 y=> ?_⟩;obtain⟨s2,r2⟩:=hyld i _ x H2 (ae hlt) y;rw[cQ hlt]at ew;unfold zP at ew;have I2:=I'.grow s2;refine hG _ _ ρ' σ' H2 x _ _ I2 r2 ?_;cases eg:g _ ρ' with
  | bad=>rw[eg]at ew;subst ew;exact hF
  | ex c=>exact(hN.2 _ _ _ eg).elim
  | ok ρ1=>
   rw[eg]at ew;have no1:=hN.1 _ _ _ no' eg;intro σ1 J1;refine⟨⟨B1,H1,E0,Y.cl,[]⟩,ρ1,rfl,I.sH,_,J1, ?_⟩;have ew1:((ft ρ1).bind (λk=>if k=true then (fe ρ1).bind λv=>(zP g ft fe _ ρ1).bind λvs=> .ok _ else zP g ft fe _ ρ1)).bind (λws=> .ok _)=r:=ew
   cases ef:ft ρ1 with
   | bad=>rw[ef]at ew1;subst ew1;exact hF
   | ex c=>
    rw[ef]at ew1;subst ew1;exact λd H' a b=>hF d H' a ((s1'.trans (zO.ge I'.sB s2)).trans b)
   | ok kk=>
    rw[ef]at ew1;intro b H3 s3 eb;have eb' :=eb;subst eb';have ew2:=ew1;have J2:=J1.grow s3;have hD3:=s3 _ _ (s2 _ _ hDl);have bD3:zO (zO B' H' H2) H2 H3 D=none:=by rw[Z7 (s2 _ _ hDl)];exact tD H2 s2
    have sB3:=(zO.ge I'.sB s2).trans (zO.ge I2.sB s3);cases b with
    | false=>exact⟨ts.length - (i+1),by omega,rfl,hlt,by omega,hD3,ρ1,_,us,J2,no1,s1'.trans sB3,bD3,r'.mono sB3,ew2⟩
    | true=>
     refine⟨⟨B1,H1,E0,Y.cl,[]⟩,ρ1,rfl,I.sH,_,J2, ?_⟩;have ew3:=ew2;cases ee:fe ρ1 with
     | bad=>rw[ee]at ew3;subst ew3;exact hF
     | ex c=>
      rw[ee]at ew3;subst ew3;exact λd H' a b=>hF d H' a ((s1'.trans sB3).trans b)
     | ok v=>
      rw[ee]at ew3;have ew4:=ew3;have ew5:(zP g ft fe (ts.drop (i+1)) ρ1).bind (λws=> .ok ((us++[v])++ws))=r:=by
       rw[← ew4];cases zP g ft fe _ ρ1 with
       | ok ws=>show R.ok _=R.ok _;rw[ba];rfl
       | _=>rfl
      intro w H4 s4 rw4;have hD4:=s4 _ _ hD3;have J3:=J2.grow s4;have bD4:zO (zO (zO B' H' H2) H2 H3) H3 H4 D=none:=by rw[Z7 hD3];exact bD3
      have sB4:=sB3.trans (zO.ge J2.sB s4);refine⟨hD4,aL (be hyl hlt) (Zp hl),ts.length - (i+1),by omega,rfl,hlt,by rw[az,aK];omega,zA,ρ1,_,us++[v], ?_,no1,s1'.trans sB4,bD4,(r'.mono sB4).append (.cons rw4 .nil),ew5⟩
      exact J3.acc bD4 hD (λj ts' e=>((no1 j _ e).1 ts' rfl).elim) (λj x e=>(no1 j x e).2) _
 ·have e:i=ts.length:=by omega
  subst e;refine .inl ⟨hstop _ (aj _), ?_⟩;rw[eT]at ew;have ew' :R.ok _=r:=ew;rw[aW]at ew';subst ew';refine hF H' ys B' I'.sH hDl r' (λb o h=> ?_) bD s1';cases q:H1 b with
  | none=>rw[Z6 q];exact I'.sB b o h
  | some u=>
   rw[Z7 q];have z:B' b=B1 b:=I'.old b u q;rw[← z];exact h
structure uL (X:Cx) (Y:Fx) (tg iter elt:Expr) (ifs:List Expr) (scope:Scope) (N' :List Str) (k:Nat) (js:List Nat) (fi:En->R (List T)) (tG:TG) (g:T->En->R En) (ft:En->R Bool) (fe:En->R T):Prop where
 sc:CSd X scope
 cp:gz X scope N' k js
 cm:X.calm=true
 it:Wm X Y tg iter fi
 gt:qz X scope N' λXC=>PG XC tg tG
 gk:GOk tG g
 gn:GNo g
 tt:∀Y',Y'.cl=Y.cl->zr Y.H0 Y'.H0->qz X scope N' λXC=>Jm XC Y' ifs ft
 el:∀Y',Y'.cl=Y.cl->zr Y.H0 Y'.H0->qz X scope N' λXC=>Snd XC Y' elt fe
 hs:∀x,foldedSetIterable iter X.env x=pure x
theorem XZ (C:uL X Y tg iter elt ifs scope N' k js fi tG g ft fe):Snd X Y (.ListComp elt [⟨tg,iter,ifs,0⟩] scope pos) (zU fi g ft fe k js):= .mk λρ=>by
 intro pins s σ H Q I ⟨B,J,q⟩;refine qA (F:=λD H' =>Q (.ref D) H') (te:=λσ H Q=>∃Y' ρ',Y'.cl=Y.cl/\zr _ _/\tS Y' rC fe ρ' σ H Q) (tt:=λσ H Q=>∃Y' ρ',Y'.cl=Y.cl/\zr _ _/\tS Y' rE ft ρ' σ H Q) C.sc C.cp C.cm (C.it ρ) C.gt
  (λcl Cx' s3 H3 fp pins pins' s σ H Q I ⟨Y',ρ',ey,eS,q⟩=>C.tt Y' ey eS cl Cx' s3 H3 fp _ ρ' _ s σ H Q I q) (λcl Cx' s3 H3 fp pins pins' s σ H Q I ⟨Y',ρ',ey,eS,q⟩=>C.el Y' ey eS cl Cx' s3 H3 fp _ ρ' _ s σ H Q I q) I ?_ ?_ C.hs
 ·refine step J q λts it' H1 _ s1 r1 J1 q1=> ?_;intro D hD;unfold zC at q1;split at q1
  ·rename_i hl;cases ev:zP g ft fe ts _ with
   | bad=>rw[ev]at q1;exact q1.elim
   | ex c=>rw[ev]at q1;exact q1.elim
   | ok vs=>
    rw[ev]at q1;refine yB (E0:=λ_ _ _=>False) C.gk C.gn J1 r1 hl ev hD λH' xs B' s' e' r' l' b' sb' => ?_;refine(show Po Y rC _ H1 _ Q from q1) _ H' s' ?_;exact .lst (by rw[Z6 hD];exact e') (r'.mono l')
  ·exact q1.elim
 ·intro D Cc H' s' I' q' hC h0 hL hcell hpin hns;obtain⟨m,hm⟩:=hns;refine⟨m,hm,λh' hsb=>⟨.ref D,H', ?_,rfl,q'⟩⟩;exact I'.turned (λb o hb e=>hsb.extBut b o hb e) hC (aS hL).symm (.inr h0) hcell hpin
end
noncomputable def z0L (scope sc0:Scope):Bool:=(scope.kind == .function) && scope.names.all (λx=>scope.names.lookup x.1 == some x.2) &&
 scope.names.all (λx=>x.2 != .free || sc0.names.lookup x.1 == some .cell || sc0.names.lookup x.1 == some .free)
theorem Gj (sc0:Scope)(h0:X.env.scope=sc0)(h:z0L scope sc0=true):CSd X scope:=by
 unfold z0L at h;simp only[ag,aR]at h;obtain⟨⟨h1,h3⟩,h4⟩:=h;refine⟨eq_of_beq h1,λx hx=>eq_of_beq (h3 x hx),λx hx hf=> ?_⟩;have:=h4 x hx;rw[hf]at this;show X.env.scope.names.lookup x.1=_\/X.env.scope.names.lookup x.1=_;rw[h0];simpa using this
theorem k0 {js:List Nat}{g:T->En->R En}(N' :List Str)(N:List Str)(sc0:Scope)(hN:X.N=N)(h0:X.env.scope=sc0)
  (h:(z0L scope sc0 && kW N N' scope sc0 k js)=true) (cm:X.calm=true) (it:Wm X Y tg iter fi) (gt:qz X scope N' λXC=>PG XC tg tG) (gk:GOk tG g) (gn:GNo g) (tt:∀Y',Y'.cl=Y.cl->zr Y.H0 Y'.H0->qz X scope N' λXC=>Jm XC Y' ifs ft)
  (el:∀Y',Y'.cl=Y.cl->zr Y.H0 Y'.H0->qz X scope N' λXC=>Snd XC Y' elt fe) (hs:∀x,foldedSetIterable iter X.env x=pure x:=by intro _;rfl):uL X Y tg iter elt ifs scope N' k js fi tG g ft fe:=by
 rw[ag]at h;exact⟨Gj sc0 h0 h.1,YL N sc0 hN h0 h.2,cm,it,gt,gk,gn,tt,el,hs⟩
def FsIn (B H0 H:Hp)(O:Addr->Option Nat)(us:List (Str×V))(fs:List (Str×Fd)):Prop:=(us.length=fs.length/\InC us)/\∀(m:Nat) (f:Str) (d:Fd),fs[m]? =some (f,d)->∃v,us[m]? =some (f,v)/\
 match d with
 | .tv t=>Rep B v t
 | .tl ts=>∃l xs,v= .ref l/\B l=none/\H0 l=none/\H l=some (.lst xs)/\zF B xs ts/\O l=some (m+1)
def k3 (cl:Nat->Value)(k:Nat)(B H0 H:Hp)(x:Addr)(fs:List (Str×Fd)):Prop:=∃C dx us O,cl k= .ref C/\H x=some (.ins C dx us)/\B x=none/\H0 x=none/\O x=some 0/\FsIn B H0 H O us fs
theorem SI.obAt {Y:Fx}{B:Hp}{ρ:En}{σ:Sg}{H:Hp}(I:SI Y B ρ σ H){j k:Nat}{x:Addr}{fs:List (Str×Fd)}{os:List Ob}(hx:Y.as=[x])(h:ρ[j]? =some (.st ((k,fs) :: os))):k3 Y.cl k B Y.H0 H x fs:=by
 obtain⟨as,O,s⟩:=I.st;obtain⟨a,C,dx,vs,e1,e2,e3,e4,e5,e6,e7,e8⟩:=s.st j _ h 0 k fs rfl;have ha:a=x:=by
  obtain⟨t,et⟩:=s.pre;rw[hx]at et;rw[← et]at e1;exact(aB e1).symm
 subst ha;refine⟨C,dx,vs,λb=>(O b).bind λp=>if p.1=0 then some p.2 else none,e2,e3,e4,e5,by dsimp only;rw[e6];rfl,e7,λm f d z=> ?_⟩
 obtain⟨v,z1,z2⟩:=e8 m f d z;refine⟨v,z1, ?_⟩;cases d with
 | tv t=>exact z2
 | tl ts=>
  obtain⟨l,xs,p1,p2,p3,p4,p5,_,p7⟩:=z2;exact⟨l,xs,p1,p2,p3,p4,p5,by dsimp only;rw[p7];rfl⟩
def enM (k j:Nat)(fs:List (Str×Fd))(ts:List T):En:= .ob k 0 :: (ts.map Sl.vl++(ah (j - 1 - ts.length) .un++[.st [(k,fs)]]))
theorem ZK (h:(enM k j fs ts)[i]? =some s):(i=0/\s= .ob k 0)\/(∃i' t,i=i' +1/\ts[i']? =some t/\s= .vl t)\/s= .un\/(s= .st [(k,fs)]/\i=1+ts.length+(j - 1 - ts.length)):=by
 unfold enM at h;cases i with
 | zero=>exact .inl ⟨rfl,(aB h).symm⟩
 | succ i=>
  rw[ck]at h
  by_cases hi:i < ts.length
  ·rw[ax (by simpa using hi),ar,ae hi]at h
   exact .inr (.inl ⟨i,_,rfl,ae hi,(aB h).symm⟩)
  ·rw[av (by simpa using hi)]at h
   by_cases h2:i - (ts.map Sl.vl).length < j - 1 - ts.length
   ·rw[ax (by simpa using h2),aO,if_pos h2]at h
    exact .inr (.inr (.inl (aB h).symm))
   ·rw[av (by simpa using h2)]at h
    generalize hq:i - (ts.map _).length - (ah _ _).length=q at h;cases q with
    | zero=>
     refine .inr (.inr (.inr ⟨(aB h).symm, ?_⟩));rw[ac,aP]at hq;rw[ac]at h2;omega
    | succ q=>cases h
theorem zF.at {B:Hp}:∀{vs:List V} {ts:List T},zF B vs ts->∀{i:Nat} {t:T},ts[i]? =some t->∃v,vs[i]? =some v/\Rep B v t
 | _,_,.nil,i,t,h=>by simp at h
 | _,_, @zF.cons _ v _ _ _ r rr,0,t,h=>by cases h;exact⟨v,rfl,r⟩
 | _,_,.cons r rr,i+1,t,h=>zF.at rr h
theorem SI.startM {cl:Nat->Value}{k j:Nat}{B H0 H:Hp}{x:Addr}{fs:List (Str×Fd)}{E:XK}{vs:List V}{ts:List T}{N:List Str}(hN:N.length=j+1)(hj:ts.length+1<=j)(sB:zr B H0)(sH:zr H0 H)(ob:k3 cl k B H0 H x fs)(r:zF B vs ts):
  SI ⟨B,H0,E,cl,[x]⟩ B (enM k j fs ts) (L2.start N (.ref x :: vs)) H where
 s0:=sB
 sH:=sH
 sB:=sB.trans sH
 old:=λ_ _ _=>rfl
 len:=by
  unfold enM L2.start;have:=r.length;simp only[am,az,ac,aP,bh];omega
 vl:=λi t h=>by
  rcases ZK h with ⟨_,e⟩ | ⟨i',t',e1,e2,e3⟩ | e | ⟨e,_⟩
  ·cases e
  ·cases e3;subst e1;obtain⟨v,ev,rv⟩:=r.at e2;refine⟨v, ?_,rv⟩;unfold L2.start;have hi:i' < vs.length:=(ai.mp ev).1;rw[ax (by simpa using hi),aF,ck,ar,ev];rfl
  ·cases e
  ·cases e
 ow:=λi t h=>by
  rcases ZK h with ⟨_,e⟩ | ⟨i',t',e1,e2,e3⟩ | e | ⟨e,_⟩
  ·cases e
  ·cases e3
  ·cases e
  ·cases e
 xc:=λi t h=>by
  rcases ZK h with ⟨_,e⟩ | ⟨i',t',e1,e2,e3⟩ | e | ⟨e,_⟩
  ·cases e
  ·cases e3
  ·cases e
  ·cases e
 st:=by
  obtain⟨C,dx,us,O,c1,c2,c3,c4,c5,c6,c7⟩:=ob;refine⟨[x],λb=>(O b).map λm=>(0,m),cg _,λi os h=> ?_,λi i' os os' h h' => ?_,λi k' n h=> ?_,λi k' fs0 h=> ?_,λi os h n k' fs' e=> ?_⟩
  ·rcases ZK h with ⟨_,e⟩ | ⟨_,_,_,_,e⟩ | e | ⟨e,_⟩ <;> cases e
   rfl
  ·rcases ZK h with ⟨_,e⟩ | ⟨_,_,_,_,e⟩ | e | ⟨_,e⟩
   ·cases e
   ·cases e
   ·cases e
   ·rcases ZK h' with ⟨_,e'⟩ | ⟨_,_,_,_,e'⟩ | e' | ⟨_,e'⟩
    ·cases e'
    ·cases e'
    ·cases e'
    ·rw[e,e']
  ·rcases ZK h with ⟨e0,e⟩ | ⟨i',t',e1,e2,e3⟩ | e | ⟨e,_⟩
   ·cases e;subst e0;exact⟨x,C,dx,us,rfl,rfl,c1,c2,c3,c4,c6.2⟩
   ·cases e3
   ·cases e
   ·cases e
  ·rcases ZK h with ⟨e0,e⟩ | ⟨i',t',e1,e2,e3⟩ | e | ⟨e,_⟩
   ·cases e
   ·cases e3
   ·cases e
   ·cases e
  ·rcases ZK h with ⟨e0,e'⟩ | ⟨i',t',e1,e2,e3⟩ | e' | ⟨e',_⟩
   ·cases e'
   ·cases e3
   ·cases e'
   ·cases e';cases n with
    | succ n=>cases e
    | zero=>
     cases e;refine⟨x,C,dx,us,rfl,c1,c2,c3,c4,by rw[c5];rfl,c6,λm f d z=> ?_⟩
     obtain⟨v,z1,z2⟩:=c7 m f d z;refine⟨v,z1, ?_⟩;cases d with
     | tv t=>exact z2
     | tl us' =>
      obtain⟨l,xs,p1,p2,p3,p4,p5,p6⟩:=z2;refine⟨l,xs,p1,p2,p3,p4,p5,λj' us2 hj' => ?_,by show iV _ (O l)=_;rw[p6];rfl⟩
      rcases ZK hj' with ⟨_,e⟩ | ⟨_,_,_,_,e⟩ | e | ⟨e,_⟩ <;> cases e
def PoO (cl:Nat->Value)(k:Nat)(B H0:Hp)(x:Addr)(r:R (T×List (Str×Fd)))(Q:VK)(E:XK):Prop:=match r with
 | .ok (t,fs')=>∀v H' B',zr H0 H' ->zr B B' ->zr B' H' ->(∀b o,H0 b=some o->B' b=B b)->k3 cl k B' H0 H' x fs' ->Rep B' v t->Q v H'
 | .ex c=>∀d H',zr H0 H' ->zr B H' ->E (cl c) d H'
 | .bad=>False
def spM (cl:Nat->Value)(k n:Nat)(g:List (Str×Fd)->List T->R (T×List (Str×Fd))):Sp:=λvs H Q E=>∃(x:Addr) (vs' :List V) (ts:List T) (B H0:Hp) (fs:List (Str×Fd)),vs= .ref x :: vs' /\ts.length=n/\zr B H0/\zr H0 H/\k3 cl k B H0 H x fs/\zF B vs' ts/\PoO cl k B H0 x (g fs ts) Q E
def PoR (Y:Fx)(B:Hp)(r:R (T×En))(D:va):Prop:=match r with
 | .ok (t,ρ')=>(∀v σ' H' B',zr B B' ->SI Y B' ρ' σ' H' ->Rep B' v t->D.rt v H')/\(t= .non->∀σ' H' B',zr B B' ->SI Y B' ρ' σ' H' ->D.nx σ' H')
 | .ex c=>XP Y B c
 | .bad=>False
theorem XP.up (s:zr B B')(h:XP Y B c):XP Y B' c:=λd H' a b=>h d H' a (s.trans b)
theorem PoR.up {r:R (T×En)}{D:va}(s:zr B B')(h:PoR Y B r D):PoR Y B' r D:=by
 unfold PoR at h ⊢;split
 ·exact⟨λv σ' H' B2 a=>h.1 v σ' H' B2 (s.trans a),λe σ' H' B2 a=>h.2 e σ' H' B2 (s.trans a)⟩
 ·exact XP.up s h
 ·exact h
structure xh (X:Cx) (Y:Fx) (body:List Stmt) (f:En->R (T×En)):Prop where
 mk ::
 go:∀ρ,PSs X body λD σ H=>∃B,SI Y B ρ σ H/\PoR Y B (f ρ) D
def PoM (Y:Fx)(B:Hp)(r:R (T×En))(σ:Sg)(Q:VK):Prop:=match r with
 | .ok (t,ρ')=>∀v H' B',zr B B' ->SI Y B' ρ' σ H' ->Rep B' v t->Q v H'
 | .ex c=>XP Y B c
 | .bad=>False
structure wD (X:Cx) (Y:Fx) (e:Expr) (f:En->R (T×En)):Prop where
 mk ::
 go:∀ρ,PE X e λσ H Q=>∃B,SI Y B ρ σ H/\PoM Y B (f ρ) σ Q
section
variable {X:Cx}{Y:Fx}{e:Expr}{st:Stmt}{rest:List Stmt}{pos:Pos}
def qB (f:En->R T):En->R (T×En):=λρ=>(f ρ).bind λt=> .ok (t,ρ)
theorem Gk (h:Snd X Y e f):wD X Y e (qB f):= .mk λρ=>PE.imp (h ρ) λσ H Q ⟨B,I,q⟩=>⟨B,I,by
 unfold qB at q;revert q;cases f ρ with
 | ok t=>exact λq v H' s r=>q v H' _ (zO.ge I.sB s) (I.grow s) r
 | ex c=>exact λq=>q
 | bad=>exact λq=>q⟩
theorem z2v (h:wD X Y e f):xh X Y [.Return (some e) pos] f:= .mk λρ=>PSs.imp (ux (Wo (h.go ρ))) λD σ H ⟨B,I,q⟩=>⟨B,I,by
 unfold PoR at q;unfold PoM;split at q
 ·exact λv H' B' a b c=>q.1 v σ H' B' a b c
 ·exact q
 ·exact q⟩
def z2w:En->R (T×En):=λρ=> .ok (.non,ρ)
theorem z2x:xh X Y [] z2w:= .mk λρ=>PSs.imp yX λD σ H ⟨B,I,q⟩=>q.2 rfl σ H B (zr.refl _) I
def jA (f:En->RS)(g:En->R (T×En)):En->R (T×En):=λρ=>match f ρ with
 | .nx ρ' =>g ρ'
 | .ex c=> .ex c
 | _=> .bad
theorem Gm {f:En->RS}{g:En->R (T×En)}(h1:jV X Y st f)(h2:xh X Y rest g):xh X Y (st :: rest) (jA f g):= .mk λρ=>by
 refine PSs.imp (wN (u:=λD σ H=>∃ρ' B,SI Y B ρ' σ H/\PoR Y B (g ρ') D) (h1 ρ) ?_) ?_
 ·intro pins s σ H D I ⟨ρ',q⟩;exact h2.go ρ' _ s σ H D I q
 ·intro D σ H ⟨B,I,q⟩;refine⟨B,I, ?_⟩;unfold jA at q;revert q;cases f ρ with
  | nx ρ' =>exact λq σ' H' B' s I' =>⟨ρ',B',I',q.up s⟩
  | ex c=>exact λq=>q
  | rt t=>exact λq=>q.elim
  | rf t=>exact λq=>q.elim
  | bk ρ=>exact λq=>q.elim
  | ct ρ=>exact λq=>q.elim
  | bad=>exact λq=>q.elim
end
def uM (k j:Nat)(r:R (T×En)):R (T×List (Str×Fd)):=r.bind λp=>match p.2[j]? with
 | some (.st ((k',fs) :: _))=>if k' =k then .ok (p.1,fs) else .bad
 | _=> .bad
section
variable {P:Program}{w:World}{K:aa}{mg:Str->Option Value}{base:Heap}
theorem xi {cl:Nat->Value}{x qual:Str}{st:Stmt}{f:Addr}{fd:FuncData}{N ps:List Str}{k n j kr:Nat}{fb:En->R (T×En)}(F:Fun K x qual st f fd)(S:ZY N ps (zu st))(hn:ps.length=n+1)(hN:N.length=j+1)(hj:n+1<=j)
  (hb:∀(cdv:Value) (A:Around) (outer:List Env) (s:Shared) (H:Hp) (E:XK) (Y:Fx),Y.cl=cl->Y.E=E->ZP kr (A.deeper (envOfC qual (zu st) s.heap.objs.size f cdv))->
   xh (Wv (CX1 P w) P w K mg base N qual (zu st) f cdv A outer s H E) Y (zS st) fb):jq P w K mg base (CX1 P w) (kr+1) f fd ps (spM cl k n λfs ts=>uM k j (fb (enM k j fs ts))):=by
 refine Fun.okX F S (λvs H Q E z=> ?_) λcdv A outer s H vs Q E hr z=> ?_
 ·obtain⟨x,vs',ts,B,H0,fs,e,hl,_,_,_,r,_⟩:=z;rw[e,am,r.length,hl,hn]
 obtain⟨x,vs',ts,B,H0,fs,e,hl,sB,sH,ob,r,q⟩:=z;subst e;refine⟨_,(hb cdv A _ s H E _ rfl rfl hr).go _,B,SI.startM hN (by omega) sB sH ob r, ?_⟩
 have q:PoO cl k B H0 x (uM k j _) Q E:=q;revert q;cases fb _ with
 | bad=>exact λq=>q
 | ex c=>exact λq=>q
 | ok p=>
  obtain⟨t,ρ'⟩:=p;show PoO cl k B H0 x (match ρ'[j]? with | some (.st ((k',fs) :: _))=>(if k' =k then R.ok _ else R.bad) | _=>R.bad) Q E->_
  split
  ·rename_i k' fs' os ej;split
   ·rename_i hk;subst hk;intro q;have key:∀v σ' H' B',zr B B' ->SI ⟨B,H0,E,cl,[x]⟩ B' ρ' σ' H' ->Rep B' v t->Q v H' :=λv σ' H' B' s1 I' rv=>q v H' B' I'.sH s1 I'.sB (λb o h=>I'.old b o h) (I'.obAt rfl ej) rv;exact⟨key,λet σ' H' B' s1 I' =>key _ σ' H' B' s1 I' (by rw[et];exact .non)⟩
   ·exact λq=>q.elim
  ·exact λq=>q.elim
end
def obD (k i j:Nat)(ρ:En):Option (Nat×List (Str×Fd)×List Ob):=match ρ[i]?,ρ[j]? with
 | some (.ob k' n),some (.st os)=>match os[n]? with
  | some (k2,fs)=>if k' =k/\k2=k then some (n,fs,os) else none
  | none=>none
 | _,_=>none
theorem wE {k i j:Nat}{ρ:En}{n:Nat}{fs:List (Str×Fd)}{os:List Ob}(h:obD k i j ρ=some (n,fs,os)):ρ[i]? =some (.ob k n)/\ρ[j]? =some (.st os)/\os[n]? =some (k,fs):=by
 unfold obD at h;split at h
 ·rename_i k' n' os' e1 e2;split at h
  ·rename_i k2 fs' e3;split at h
   ·rename_i hk;obtain⟨rfl,rfl⟩:=hk;cases h;exact⟨e1,e2,e3⟩
   ·cases h
  ·cases h
 ·cases h
theorem W5 {f:Str}{d:Fd}:∀{fs:List (Str×Fd)} {vs:List (Str×V)},(∀(m:Nat) (g:Str) (e:Fd),fs[m]? =some (g,e)->∃v,vs[m]? =some (g,v))->fs.lookup f=some d->∃(m:Nat) (v:V),fs[m]? =some (f,d)/\vs[m]? =some (f,v)/\vs.lookup f=some v
 | [],_,_,h=>by simp at h
 | (g,e) :: fs,vs,al,h=>by
  obtain⟨v,hv⟩:=al 0 g e rfl;cases vs with
  | nil=>cases hv
  | cons w vs=>
   cases hv;rw[aw]at h
   by_cases hx:f=g
   ·subst hx;rw[beq_self_eq_true]at h;cases h;exact⟨0,v,rfl,rfl,by rw[aw,beq_self_eq_true]⟩
   ·rw[beq_eq_false_iff_ne.mpr hx]at h;obtain⟨m,v',a,b,c⟩:=W5 (λm=>al (m+1)) h;exact⟨m+1,v',a,b,by rw[aw,beq_eq_false_iff_ne.mpr hx];exact c⟩
theorem qC {f:Str}:∀{fs:List (Str×Fd)} {vs:List (Str×V)},vs.length=fs.length->(∀(m:Nat) (g:Str) (e:Fd),fs[m]? =some (g,e)->∃v,vs[m]? =some (g,v))->fs.lookup f=none->vs.lookup f=none
 | [],vs,l,_,h=>by
  cases vs with
  | nil=>rfl
  | cons _ _=>cases l
 | (g,e) :: fs,vs,l,al,h=>by
  obtain⟨v,hv⟩:=al 0 g e rfl;cases vs with
  | nil=>cases hv
  | cons w vs=>
   cases hv;rw[aw]at h ⊢
   by_cases hx:f=g
   ·subst hx;rw[beq_self_eq_true]at h;cases h
   ·rw[beq_eq_false_iff_ne.mpr hx]at h ⊢;exact qC (by simpa using l) (λm=>al (m+1)) h
section
theorem SI.look (I:SI Y B ρ σ H){k i j n:Nat}{fs:List (Str×Fd)}{os:List Ob}{f:Str}{d:Fd}(h:obD k i j ρ=some (n,fs,os))(hl:fs.lookup f=some d):∃a C dx vs v,∃m:Nat,∃as O,StI Y B ρ σ H as O/\σ[i]? =some (some (V.ref a))/\Y.cl k= .ref C/\H a=some (.ins C dx vs)/\vs.lookup f=some v/\fs[m]? =some (f,d)/\vs[m]? =some (f,v)/\FdR Y B ρ σ H (λl=>O l=some (n,m+1)) v d:=by
 obtain⟨h1,h2,h3⟩:=wE h;obtain⟨as,O,s⟩:=I.st;obtain⟨a,C,dx,vs,e1,e2,e3,e4,e5,e6,e7,e8⟩:=s.st j os h2 n k fs h3;obtain⟨a',C',dx',vs',g1,g2,_⟩:=s.ob i k n h1;rw[e1]at g1;cases g1;obtain⟨m,v,z1,z2,z3⟩:=W5 (λm g e he=>let ⟨v,z,_⟩:=e8 m g e he;⟨v,z⟩) hl;obtain⟨v',y1,y2⟩:=e8 m f d z1;rw[z2]at y1;cases y1;exact⟨a,C,dx,vs,v,m,as,O,s,g2,e2,e3,z3,z1,z2,y2⟩
theorem SI.chgF (I:SI Y B ρ σ H){k i j n m:Nat}{fs:List (Str×Fd)}{os:List Ob}{f:Str}{ts us:List T}{ys:List V}{a C dx l:Addr}{vs:List (Str×V)}(h:obD k i j ρ=some (n,fs,os))(hm:fs[m]? =some (f,.tl ts))(ha:σ[i]? =some (some (V.ref a)))(hH:H a=some (.ins C dx vs))(hl:vs[m]? =some (f,.ref l))(r:zF B ys us):
  SI Y B (ρ.set j (.st (os.set n (k,fs.set m (f,.tl us))))) σ (upd H l (.lst ys)):=by
 obtain⟨h1,h2,h3⟩:=wE h;obtain⟨as,O,s⟩:=I.st;obtain⟨a1,C1,dx1,vs1,e1,e2,e3,e4,e5,e6,e7,e8⟩:=s.st j os h2 n k fs h3;obtain⟨a',C',dx',vs',g1,g2,_⟩:=s.ob i k n h1;rw[e1]at g1;cases g1;rw[ha]at g2;cases g2;rw[hH]at e3;cases e3;obtain⟨v,z1,z2⟩:=e8 m f _ hm;rw[hl]at z1;cases z1;obtain⟨l',xs,p1,b0,h0,hh,p5,ok,ol⟩:=z2;cases p1;have nb:∀b o,B b=some o->b ≠ l:=λb o h z=>by subst z;rw[b0]at h;cases h
 have n0:∀b o,Y.H0 b=some o->b ≠ l:=λb o h z=>by subst z;rw[h0]at h;cases h
 have own:∀(j' :Nat) (ws:List T),(ρ.set j (.st (os.set n (k,fs.set m (f,.tl us)))))[j']? =some (Sl.ow ws)->ρ[j']? =some _:=λj' ws hw=>by
  rcases zq hw with ⟨_,z⟩ | ⟨_,z⟩
  ·cases z
  ·exact z
 have ok' :∀b,uA ρ σ b->uA _ σ b:=λb hb j' ws hw=>hb j' ws (own j' ws hw);refine⟨I.s0,λb o h=>by rw[zv (n0 b o h)];exact I.sH b o h,λb o h=>by rw[zv (nb b o h)];exact I.sB b o h,I.old,by rw[aE];exact I.len,λj' u h=> ?_,λj' ws h=> ?_,λj' c h=> ?_,as,O,s.pre,λi' os' h=> ?_,λi1 i2 os1 os2 q1 q2=> ?_,λi' k' n' h=> ?_,λi' k' fs0 h=> ?_,λi' os' h n' k' fs' e=> ?_⟩
 ·rcases zq h with ⟨_,z⟩ | ⟨_,z⟩
  ·cases z
  ·exact I.vl j' u z
 ·have z:=own j' ws h;obtain⟨b,xs',y1,y2,y3,y4,y5,y6⟩:=I.ow j' ws z;have hne:b ≠ l:=λw=>by subst w;exact ok j' ws z y1
  exact⟨b,xs',y1,y2,y3,by rw[zv hne];exact y4,y5,λj2 vs2 hj hw=>y6 j2 vs2 hj (own j2 vs2 hw)⟩
 ·rcases zq h with ⟨_,z⟩ | ⟨_,z⟩
  ·cases z
  ·exact I.xc j' c z
 ·rcases zq h with ⟨_,z⟩ | ⟨_,z⟩
  ·cases z;rw[aE];exact s.len j os h2
  ·exact s.len _ _ z
 ·have one:∀i1 os1,(ρ.set j (.st (os.set n (k,fs.set m (f,.tl us)))))[i1]? =some _->i1=j:=λi1 os1 q1=>by
   rcases zq q1 with ⟨e,_⟩ | ⟨_,z⟩
   ·exact e
   ·exact s.one i1 j os1 os z h2
  rw[one i1 os1 q1,one i2 os2 q2]
 ·rcases zq h with ⟨_,z⟩ | ⟨_,z⟩
  ·cases z
  ·obtain⟨b,C2,dx2,vs2,y1,y2,y3,y4,y5,y6⟩:=s.ob i' k' n' z;have hne:b ≠ l:=λw=>by subst w;rw[hh]at y4;cases y4
   exact⟨b,C2,dx2,vs2,y1,y2,y3,by rw[zv hne];exact y4,y5,y6⟩
 ·rcases zq h with ⟨_,z⟩ | ⟨_,z⟩
  ·cases z
  ·exact s.oc i' k' _ z
 ·rcases zq h with ⟨rfl,z⟩ | ⟨hne,z⟩
  ·cases z;rcases zq e with ⟨rfl,z⟩ | ⟨hn,z⟩
   ·cases z;have hne:a ≠ l:=λw=>by subst w;rw[hh]at hH;cases hH
    refine⟨a,C,dx,vs,e1,e2,by rw[zv hne];exact hH,e4,e5,e6,⟨by rw[aE];exact e7.1,e7.2⟩,λm' f' d' z=> ?_⟩
    rcases zq z with ⟨rfl,z'⟩ | ⟨hm',z'⟩
    ·cases z';exact⟨.ref l,hl,l,ys,rfl,b0,h0,zA,r,ok' l ok,ol⟩
    ·obtain⟨v',y1,y2⟩:=e8 m' f' d' z';refine⟨v',y1, ?_⟩;cases d' with
     | tv t=>exact y2
     | tl ws=>
      obtain⟨l2,xs2,w1,w2,w3,w4,w5,w6,w7⟩:=y2;have hne:l2 ≠ l:=λw=>by
       subst w;rw[ol]at w7;injection w7 with w7;injection w7 with _ w7;exact hm' (by omega)
      exact⟨l2,xs2,w1,w2,w3,by rw[zv hne];exact w4,w5,ok' l2 w6,w7⟩
   ·obtain⟨b,C2,dx2,vs2,y1,y2,y3,y4,y5,y6,y7,y8⟩:=s.st i' os h2 n' k' fs' z;have hne:b ≠ l:=λw=>by subst w;rw[hh]at y3;cases y3
    refine⟨b,C2,dx2,vs2,y1,y2,by rw[zv hne];exact y3,y4,y5,y6,y7,λm' f' d' z=> ?_⟩
    obtain⟨v',x1,x2⟩:=y8 m' f' d' z;refine⟨v',x1, ?_⟩;cases d' with
    | tv t=>exact x2
    | tl ws=>
     obtain⟨l2,xs2,w1,w2,w3,w4,w5,w6,w7⟩:=x2;have hne:l2 ≠ l:=λw=>by
      subst w;rw[ol]at w7;injection w7 with w7;injection w7 with w7 _;exact hn w7.symm
     exact⟨l2,xs2,w1,w2,w3,by rw[zv hne];exact w4,w5,ok' l2 w6,w7⟩
  ·exact absurd (s.one i' j os' os z h2) hne
end
noncomputable def Uw (f:Str)(d:Fd):List (Str×Fd)->List (Str×Fd)
 | []=>[(f,d)]
 | (g,x) :: r=>if g=f then (g,d) :: r else (g,x) :: Uw f d r
noncomputable def vg (f:Str):List (Str×Fd)->Nat
 | []=>0
 | (g,_) :: r=>if g=f then 0 else vg f r+1
theorem Ux {f:Str}{d:Fd}{v:V}:∀{fs:List (Str×Fd)} {vs:List (Str×V)},vs.length=fs.length->(∀(m:Nat) (g:Str) (e:Fd),fs[m]? =some (g,e)->∃v,vs[m]? =some (g,v))->(L2.putF f v vs).length=(Uw f d fs).length
 | [],vs,l,_=>by
  cases vs with
  | nil=>rfl
  | cons _ _=>cases l
 | (g,e) :: fs,vs,l,al=>by
  obtain⟨w,hw⟩:=al 0 g e rfl;cases vs with
  | nil=>cases hw
  | cons w vs=>
   cases hw;unfold L2.putF Uw;split
   ·simpa using l
   ·rw[am,am,Ux (by simpa using l) (λm=>al (m+1))]
theorem Uy {f:Str}{d:Fd}{v:V}:∀{fs:List (Str×Fd)} {vs:List (Str×V)},vs.length=fs.length->(∀(m:Nat) (g:Str) (e:Fd),fs[m]? =some (g,e)->∃v,vs[m]? =some (g,v))->∀{m:Nat} {g:Str} {e:Fd},(Uw f d fs)[m]? =some (g,e)->
  (m=vg f fs/\g=f/\e=d/\(L2.putF f v vs)[m]? =some (f,v))\/(m ≠ vg f fs/\fs[m]? =some (g,e)/\∀v',vs[m]? =some (g,v')->(L2.putF f v vs)[m]? =some (g,v'))
 | [],vs,l,_,m,g,e,h=>by
  cases vs with
  | cons _ _=>cases l
  | nil=>
   cases m with
   | zero=>cases h;exact .inl ⟨rfl,rfl,rfl,rfl⟩
   | succ m=>cases h
 | (g0,e0) :: fs,vs,l,al,m,g,e,h=>by
  obtain⟨w,hw⟩:=al 0 g0 e0 rfl;cases vs with
  | nil=>cases hw
  | cons w vs=>
   cases hw;unfold Uw at h;unfold vg L2.putF
   by_cases hg:g0=f
   ·rw[if_pos hg]at h ⊢;rw[if_pos hg];cases m with
    | zero=>cases h;exact .inl ⟨rfl,hg,rfl,by rw[hg];rfl⟩
    | succ m=>exact .inr ⟨iC _,h,λv' hv=>hv⟩
   ·rw[if_neg hg]at h ⊢;rw[if_neg hg];cases m with
    | zero=>cases h;exact .inr ⟨(iC _).symm,rfl,λv' hv=>hv⟩
    | succ m=>
     rcases Uy (by simpa using l) (λm=>al (m+1)) h with ⟨a,b,c,d⟩ | ⟨a,b,c⟩
     ·exact .inl ⟨by rw[a],b,c,d⟩
     ·exact .inr ⟨λz=>a (Nat.succ.inj z),b,c⟩
theorem qD (hf:f∈xX)(h:InC vs):InC (L2.putF f v vs):=λg hg=>by
 rw[L2.lookup_putF,if_neg λz=>hg (by rw[z];exact hf)];exact h g hg
section
def FdN (B H H1:Hp)(v:V):Fd->Prop
 | .tv t=>H1=H/\Rep B v t
 | .tl ts=>∃p xs,v= .ref p/\H p=none/\H1=upd H p (.lst xs)/\zF B xs ts
theorem SI.putF (I:SI Y B ρ σ H){k i j n:Nat}{fs:List (Str×Fd)}{os:List Ob}{f:Str}{d:Fd}{v:V}{a C dx:Addr}{vs:List (Str×V)}{H1:Hp}(hf:f∈xX)(h:obD k i j ρ=some (n,fs,os))(ha:σ[i]? =some (some (V.ref a)))(hH:H a=some (.ins C dx vs))(hd:FdN B H H1 v d):
  SI Y B (ρ.set j (.st (os.set n (k,Uw f d fs)))) σ (upd H1 a (.ins C dx (L2.putF f v vs))):=by
 obtain⟨h1,h2,h3⟩:=wE h;obtain⟨as,O,s⟩:=I.st;obtain⟨a1,C1,dx1,vs1,e1,e2,e3,e4,e5,e6,e7,e8⟩:=s.st j os h2 n k fs h3;obtain⟨a',C',dx',vs',g1,g2,_⟩:=s.ob i k n h1;rw[e1]at g1;cases g1;rw[ha]at g2;cases g2;rw[hH]at e3;cases e3;have al:∀(m:Nat) (g:Str) (e:Fd),fs[m]? =some _->∃v,vs[m]? =some _:=λm g e he=>let ⟨v,z,_⟩:=e8 m g e he;⟨v,z⟩;have sH1:zr H H1:=by
  cases d with
  | tv t=>rw[hd.1];exact zr.refl _
  | tl ts=>obtain⟨p,xs,_,hp,e,_⟩:=hd;rw[e];exact zr.new hp _
 have keep:∀b o,H b=some o->b ≠ a->(upd H1 a (.ins C dx (L2.putF f v vs))) b=some o:=λb o hb hne=>by rw[zv hne];exact sH1 b o hb
 have nb:∀b o,B b=some o->b ≠ a:=λb o h z=>by subst z;rw[e4]at h;cases h
 have n0:∀b o,Y.H0 b=some o->b ≠ a:=λb o h z=>by subst z;rw[e5]at h;cases h
 have own:∀(j' :Nat) (ws:List T),(ρ.set j (.st (os.set n (k,Uw f d fs))))[j']? =some (Sl.ow ws)->ρ[j']? =some _:=λj' ws hw=>by
  rcases zq hw with ⟨_,z⟩ | ⟨_,z⟩
  ·cases z
  ·exact z
 have ok' :∀b,uA ρ σ b->uA _ σ b:=λb hb j' ws hw=>hb j' ws (own j' ws hw);have lst_ne:∀{b:Addr} {xs:List V},H b=some (.lst xs)->b ≠ a:=λhb z=>by subst z;rw[hH]at hb;cases hb
 obtain⟨O',hO1,hO2⟩:∃O' :Addr->Option _,(∀b o,H b=some o->O' b=O b)/\∀b,v= .ref b->H b=none->O' b=some _:=by
  classical
  refine⟨λb=>if v= .ref b/\H b=none then some (n,vg f fs+1) else O b, ?_, ?_⟩
  ·intro b o hb;exact if_neg λz=>by rw[hb]at z;cases z.2
  ·intro b z1 z2;exact if_pos ⟨z1,z2⟩
 refine⟨I.s0,λb o h=>keep b o (I.sH b o h) (n0 b o h),λb o h=>keep b o (I.sB b o h) (nb b o h),I.old,by rw[aE];exact I.len,λj' u h=> ?_,λj' ws h=> ?_,λj' c h=> ?_,as,O',s.pre,λi' os' h=> ?_,λi1 i2 os1 os2 q1 q2=> ?_,λi' k' n' h=> ?_,λi' k' fs0 h=> ?_,λi' os' h n' k' fs' e=> ?_⟩
 ·rcases zq h with ⟨_,z⟩ | ⟨_,z⟩
  ·cases z
  ·exact I.vl j' u z
 ·have z:=own j' ws h;obtain⟨b,xs',y1,y2,y3,y4,y5,y6⟩:=I.ow j' ws z;exact⟨b,xs',y1,y2,y3,keep b _ y4 (lst_ne y4),y5,λj2 vs2 hj hw=>y6 j2 vs2 hj (own j2 vs2 hw)⟩
 ·rcases zq h with ⟨_,z⟩ | ⟨_,z⟩
  ·cases z
  ·exact I.xc j' c z
 ·rcases zq h with ⟨_,z⟩ | ⟨_,z⟩
  ·cases z;rw[aE];exact s.len j os h2
  ·exact s.len _ _ z
 ·have one:∀i1 os1,(ρ.set j (.st (os.set n (k,Uw f d fs))))[i1]? =some _->i1=j:=λi1 os1 q1=>by
   rcases zq q1 with ⟨e,_⟩ | ⟨_,z⟩
   ·exact e
   ·exact s.one i1 j os1 os z h2
  rw[one i1 os1 q1,one i2 os2 q2]
 ·rcases zq h with ⟨_,z⟩ | ⟨_,z⟩
  ·cases z
  ·obtain⟨b,C2,dx2,vs2,y1,y2,y3,y4,y5,y6⟩:=s.ob i' k' n' z
   by_cases hb:b=a
   ·subst hb;rw[hH]at y4;cases y4;exact⟨b,C,dx,_,y1,y2,y3,zA,y5,y6.1,qD hf y6.2⟩
   ·exact⟨b,C2,dx2,vs2,y1,y2,y3,keep b _ y4 hb,y5,y6⟩
 ·rcases zq h with ⟨_,z⟩ | ⟨_,z⟩
  ·cases z
  ·exact s.oc i' k' _ z
 ·rcases zq h with ⟨rfl,z⟩ | ⟨hne,z⟩
  ·cases z;have old:∀{n' m' :Nat} {v' :V} {d' :Fd},FdR Y B ρ σ H (λl=>O l=some (n',m' +1)) v' d' ->FdR Y B _ σ _ (λl=>O' l=some _) v' d' :=λ{n' m' v' d'} y2=>by
    cases d' with
    | tv t=>exact y2
    | tl ws=>
     obtain⟨l2,xs2,w1,w2,w3,w4,w5,w6,w7⟩:=y2;exact⟨l2,xs2,w1,w2,w3,keep l2 _ w4 (lst_ne w4),w5,ok' l2 w6,by show O' l2=_;rw[hO1 l2 _ w4];exact w7⟩
   rcases zq e with ⟨rfl,z⟩ | ⟨hn,z⟩
   ·cases z;refine⟨a,C,dx,_,e1,e2,zA,e4,e5,by rw[hO1 a _ hH];exact e6,⟨Ux e7.1 al,qD hf e7.2⟩,λm' f' d' z=> ?_⟩
    rcases Uy e7.1 al z with ⟨q1,q2,q3,q4⟩ | ⟨q1,q2,q3⟩
    ·subst q2 q3;refine⟨v,q4, ?_⟩;cases d' with
     | tv t=>exact hd.2
     | tl ts=>
      obtain⟨p,xs,w1,w2,w3,w4⟩:=hd;have hpa:p ≠ a:=λz=>by rw[z,hH]at w2;cases w2
      refine⟨p,xs,w1,I.sB.free w2,I.sH.free w2,by rw[zv hpa,w3];exact zA,w4,λj' ws hw=> ?_,by show O' p=_;rw[hO2 p w1 w2,q1]⟩
      obtain⟨b,xs',y1,y2,y3,y4,_⟩:=I.ow j' ws (own j' ws hw);rw[y1];intro z;injection z with z;injection z with z;injection z with z;rw[z,w2]at y4;cases y4
    ·obtain⟨v',y1,y2⟩:=e8 m' f' d' q2;exact⟨v',q3 v' y1,old y2⟩
   ·obtain⟨b,C2,dx2,vs2,y1,y2,y3,y4,y5,y6,y7,y8⟩:=s.st i' os h2 n' k' fs' z;have hne:b ≠ a:=λw=>by
     subst w;rw[e6]at y6;injection y6 with y6;injection y6 with y6 _;exact hn y6.symm
    refine⟨b,C2,dx2,vs2,y1,y2,keep b _ y3 hne,y4,y5,by rw[hO1 b _ y3];exact y6,y7,λm' f' d' z=> ?_⟩
    obtain⟨v',x1,x2⟩:=y8 m' f' d' z;exact⟨v',x1,old x2⟩
  ·exact absurd (s.one i' j os' os z h2) hne
end
theorem Uz {f:Str}{d:Fd}:∀{fs:List (Str×Fd)},fs.lookup f=some d->fs[vg f fs]? =some (f,d)/\∀d',Uw f d' fs=fs.set (vg f fs) (f,d')
 | [],h=>by simp at h
 | (g,e) :: fs,h=>by
  rw[aw]at h;unfold vg Uw
  by_cases hx:g=f
  ·subst hx;rw[beq_self_eq_true]at h;cases h;rw[if_pos rfl];exact⟨rfl,λd' =>by rw[if_pos rfl];rfl⟩
  ·rw[beq_eq_false_iff_ne.mpr (aS hx)]at h;obtain⟨a,b⟩:=Uz h;rw[if_neg hx];exact⟨a,λd' =>by rw[if_neg hx,b];rfl⟩
theorem xj {f:Str}{v:V}:∀{fs:List (Str×Fd)} {vs:List (Str×V)},(∀(m:Nat) (g:Str) (e:Fd),fs[m]? =some (g,e)->∃v,vs[m]? =some (g,v))->(∃d,fs.lookup f=some d)->vs.lookup f=some v->vs[vg f fs]? =some (f,v)
 | [],_,_,h,_=>by simp at h
 | (g,e) :: fs,vs,al,h,hv=>by
  obtain⟨w,hw⟩:=al 0 g e rfl;cases vs with
  | nil=>cases hw
  | cons w vs=>
   cases hw;rw[aw]at hv;obtain⟨d,h⟩:=h;rw[aw]at h;unfold vg
   by_cases hx:g=f
   ·subst hx;rw[beq_self_eq_true]at hv;cases hv;rw[if_pos rfl];rfl
   ·rw[beq_eq_false_iff_ne.mpr (aS hx)]at hv h;rw[if_neg hx];exact xj (λm=>al (m+1)) ⟨d,h⟩ hv
section
theorem SI.obA (I:SI Y B ρ σ H){k i j n:Nat}{fs:List (Str×Fd)}{os:List Ob}(h:obD k i j ρ=some (n,fs,os)):∃a C dx vs,σ[i]? =some (some (V.ref a))/\Y.cl k= .ref C/\H a=some (.ins C dx vs)/\vs.length=fs.length/\∀(m:Nat) (g:Str) (e:Fd),fs[m]? =some (g,e)->∃v,vs[m]? =some (g,v):=by
 obtain⟨h1,h2,h3⟩:=wE h;obtain⟨as,O,s⟩:=I.st;obtain⟨a,C,dx,vs,e1,e2,e3,e4,e5,e6,e7,e8⟩:=s.st j os h2 n k fs h3;obtain⟨a',C',dx',vs',g1,g2,_⟩:=s.ob i k n h1;rw[e1]at g1;cases g1;exact⟨a,C,dx,vs,g2,e2,e3,e7.1,λm g e he=>let ⟨v,z,_⟩:=e8 m g e he;⟨v,z⟩⟩
def stF (k i j:Nat)(f:Str)(fa:En->R T):En->RS:=λρ=>(fa ρ).s λt=>match obD k i j ρ with
 | some (n,fs,os)=>if fs.length < 1000 then .nx (ρ.set j (.st (os.set n (k,Uw f (.tv t) fs)))) else .bad
 | none=> .bad
theorem z2y {k i j:Nat}{x f:Str}{px:Pos}{C:Addr}(hv:PE X (.Name x px) (wg i))(hc:Y.cl k= .ref C)(c:L2.Cls X.K C)(n:L2.NoAttr X.K C f)(ha:Snd X Y a fa)(hs:swapsWith a (some (.Attribute (.Name x px) f p')) pos.line X.env=pure false:=by rfl)(hf:f∈xX:=by decide):jV X Y (.Assign [.Attribute (.Name x px) f p'] a pos) (stF k i j f fa):= .mk λρ=>
 PS.imp (VM hv (ha ρ) hs) λD σ H ⟨B,I,q⟩=>jy I q λt v H1 _ s1 r1 I1 q1=>by
  split at q1
  ·rename_i n' fs os e;split at q1
   ·rename_i hl;obtain⟨a,C',dx,vs,e1,e2,e3,e4,e5⟩:=I1.obA e;rw[hc]at e2;cases e2;exact⟨.ref a,e1,a,C,dx,vs,rfl,e3,c,n,by rw[e4];exact hl,q1 _ _ _ (zr.refl _) (I1.putF hf e e1 e3 ⟨rfl,r1⟩)⟩
   ·exact q1.elim
  ·exact q1.elim
def Vg (k i j:Nat)(f:Str)(ga:En->R (List T)):En->RS:=λρ=>(ga ρ).s λts=>match obD k i j ρ with
 | some (n,fs,os)=>if fs.length < 1000/\ts.length<=bnd then .nx (ρ.set j (.st (os.set n (k,Uw f (.tl ts) fs)))) else .bad
 | none=> .bad
theorem Gn {k i j:Nat}{x f:Str}{px:Pos}{C:Addr}{es:List Expr}{ga:En->R (List T)}(hv:PE X (.Name x px) (wg i))(hc:Y.cl k= .ref C)(c:L2.Cls X.K C)(n:L2.NoAttr X.K C f)(ha:uq X Y es ga)(hs:swapsWith (.List es p) (some (.Attribute (.Name x px) f p')) pos.line X.env=pure false:=by rfl)(hf:f∈xX:=by decide):jV X Y (.Assign [.Attribute (.Name x px) f p'] (.List es p) pos) (Vg k i j f ga):= .mk λρ=>
 PS.imp (VM hv (Wq (ha ρ)) hs) λD σ H ⟨B,I,q⟩=>jy I q λts vs H1 _ s1 r1 I1 q1=>by
  split at q1
  ·rename_i n' fs os e;split at q1
   ·rename_i hl;obtain⟨a,C',dx,vs',e1,e2,e3,e4,e5⟩:=I1.obA e;rw[hc]at e2;cases e2;refine⟨by rw[r1.length];exact Zp hl.2,λq hq=> ?_⟩
    have hne:a ≠ q:=λz=>by rw[z,hq]at e3;cases e3
    exact⟨.ref a,e1,a,C,dx,vs',rfl,by rw[zv hne];exact e3,c,n,by rw[e4];exact hl.1,q1 _ _ _ (zr.refl _) (I1.putF hf e e1 e3 ⟨q,vs,rfl,hq,rfl,r1⟩)⟩
   ·exact q1.elim
  ·exact q1.elim
def kZ (k i j:Nat)(f:Str)(fa:En->R T):En->RS:=λρ=>match obD k i j ρ with
 | some (n,fs,os)=>match fs.lookup f with
  | some (.tl ts)=>(fa ρ).s λt=>if ts.length < bnd then .nx (ρ.set j (.st (os.set n (k,Uw f (.tl (ts++[t])) fs)))) else .bad
  | _=> .bad
 | none=> .bad
theorem Go {k i j:Nat}{x f:Str}{px pf pa:Pos}{C:Addr}(hv:PE X (.Name x px) (wg i))(hc:Y.cl k= .ref C)(c:L2.Cls X.K C)(n:L2.NoAttr X.K C f)(ha:Snd X Y a fa)(hbf:attributeBase (.Name x px) f X.env (eval (.Name x px) X.env)=eval (.Name x px) X.env:=by rfl)
  (hb:attributeBase (.Attribute (.Name x px) f pf) "append" X.env (eval (.Attribute (.Name x px) f pf) X.env)=eval (.Attribute (.Name x px) f pf) X.env:=by rfl) (hs:St1 X a:=by exact st1 rfl)
  (hz:(pa.endLine == p.line)=true:=by rfl) (hw:swapsWith (.Call (.Attribute (.Attribute (.Name x px) f pf) "append" pa) [a] [] p) none pos.line X.env=pure false:=by rfl):jV X Y (.Expr (.Call (.Attribute (.Attribute (.Name x px) f pf) "append" pa) [a] [] p) pos) (kZ k i j f fa):= .mk λρ=>by
 have e1:(((((backTo p (starEach [a] X.env)).all λx=> !x.fst) && (backToKw p (keywordEach [] X.env)).all λx=>x.fst.isSome) && decide (([a].length+([]:List Keyword).length+if ([]:List Keyword).isEmpty=true then 0 else 1) < 30))=true):=by rw[hs];rfl
 refine PS.imp (JB (Yi ci eF eG JF (U7 hv hbf) (zz (ha ρ) zQ hs) hb e1 hz hs rfl) hw) λD σ H ⟨B,I,q⟩=> ?_;unfold kZ at q;split at q
 ·rename_i n' fs os e;split at q
  ·rename_i ts el;obtain⟨a',C',dx,vs,v,m,as,O,s,g1,g2,g3,g4,g5,g6,l,xs,p1,b0,h0,hh,rr,_⟩:=I.look e el;rw[hc]at g2;cases g2;subst p1;obtain⟨_,_,_,vs2,y1,_,y3,_,al⟩:=I.obA e;rw[g1]at y1;cases y1;rw[g3]at y3;cases y3;have hi:=xj al ⟨_,el⟩ g4;obtain⟨j1,j2⟩:=Uz el;refine⟨.ref a',g1,a',C,dx,vs,_,rfl,g3,c,n,g4,.inl ⟨rfl,_,SqL.of hh⟩, ?_⟩;refine jy I q λt w H1 _ s1 r1 I1 q1=> ?_;split at q1
   ·rename_i hb;refine⟨l,xs,w,rfl,rfl,s1 _ _ hh,by rw[rr.length];exact VR hb, ?_⟩
    have:=I1.chgF e j1 g1 (s1 _ _ g3) hi ((rr.mono (zO.ge I.sB s1)).append (.cons r1 .nil));rw[← j2]at this;exact q1 _ _ _ (zr.refl _) this
   ·exact q1.elim
  ·exact q.elim
 ·exact q.elim
end
theorem PoM.up {r:R (T×En)}(s:zr B B')(h:PoM Y B r σ Q):PoM Y B' r σ Q:=by
 unfold PoM at h ⊢;split
 ·exact λv H' B2 a=>h v H' B2 (s.trans a)
 ·exact XP.up s h
 ·exact h
theorem z2z {α β:Type}{rel:Hp->Hp->β->α->Prop}{f:En->R α}{k:α->R (T×En)}{K:β->Hp->Prop}(I:SI Y B ρ σ H)(h:PoM Y B ((f ρ).bind k) σ Q)
  (n:∀a b H1,f ρ= .ok a->zr H H1->rel (zO B H H1) H1 b a->SI Y (zO B H H1) ρ σ H1->PoM Y (zO B H H1) (k a) σ Q->K b H1):tS Y rel f ρ σ H K:=by
 refine⟨B,I, ?_⟩;cases e:f ρ with
 | bad=>rw[e]at h;exact h
 | ex c=>rw[e]at h;exact h
 | ok a=>
  rw[e]at h;exact λb H1 s r=>n a b H1 e s r (I.grow s) (PoM.up (zO.ge I.sB s) h)
section
theorem SI.back (I:SI Y B ρ σ H){k i j n:Nat}{fs:List (Str×Fd)}{os:List Ob}(h:obD k i j ρ=some (n,fs,os)){a:Addr}(ha:σ[i]? =some (some (V.ref a))):
  ∃H0,zr B H0/\zr H0 H/\k3 Y.cl k B H0 H a fs/\zr Y.H0 H0/\∀(H' B' :Hp) (fs' :List (Str×Fd)),zr H0 H' ->zr B B' ->zr B' H' ->(∀b o,H0 b=some o->B' b=B b)->k3 Y.cl k B' H0 H' a fs' ->SI Y B' (ρ.set j (.st (os.set n (k,fs')))) σ H' :=by
 classical
 obtain⟨h1,h2,h3⟩:=wE h;obtain⟨as,O,s⟩:=I.st;obtain⟨a1,C,dx,vs,e1,e2,e3,e4,e5,e6,e7,e8⟩:=s.st j os h2 n k fs h3;obtain⟨a',C',dx',vs',g1,g2,_⟩:=s.ob i k n h1;rw[e1]at g1;cases g1;rw[ha]at g2;cases g2
 let P:Addr->Prop:=λb=>b=a\/∃(m:Nat) (f:Str) (ts:List T),fs[m]? =some (f,.tl ts)/\vs[m]? =some (f,V.ref b)
 have lP:∀b,P b->b ≠ a->∃m xs,H b=some (.lst xs)/\B b=none/\Y.H0 b=none/\uA ρ σ b/\O b=some (n,m+1):=λb hb hne=>by
  rcases hb with z | ⟨m,f,ts,z1,z2⟩
  ·exact absurd z hne
  ·obtain⟨v,y1,l,xs,p1,p2,p3,p4,p5,p6,p7⟩:=e8 m f _ z1;rw[z2]at y1;cases y1;cases p1;exact⟨m,xs,p4,p2,p3,p6,p7⟩
 have nB:∀b o,B b=some o->¬ P b:=λb o hb hp=>by
  by_cases z:b=a
  ·rw[z,e4]at hb;cases hb
  ·obtain⟨_,_,_,q,_⟩:=lP b hp z;rw[q]at hb;cases hb
 have n0:∀b o,Y.H0 b=some o->¬ P b:=λb o hb hp=>by
  by_cases z:b=a
  ·rw[z,e5]at hb;cases hb
  ·obtain⟨_,_,_,_,q,_⟩:=lP b hp z;rw[q]at hb;cases hb
 let H0:Hp:=λb=>if P b then none else H b
 have H0n:∀{b o},H b=some o->¬ P b->H0 b=some o:=λ{b o} hb hp=>by show (if P b then none else H b)=_;rw[if_neg hp];exact hb
 have H0p:∀{b},P b->H0 b=none:=λ{b} hp=>if_pos hp;refine⟨H0,λb o hb=>H0n (I.sB b o hb) (nB b o hb),λb o hb=> ?_,⟨C,dx,vs,λb=>(O b).map Prod.snd,e2,e3,e4,H0p (.inl rfl),by show iV _ (O a)=_;rw[e6];rfl,e7,λm f d z=> ?_⟩,λb o hb=>H0n (I.sH b o hb) (n0 b o hb),λH' B' fs' s1 s2 s3 old ob' => ?_⟩
 ·have hb:(if P b then none else H b)=some o:=hb
  split at hb
  ·cases hb
  ·exact hb
 ·obtain⟨v,y1,y2⟩:=e8 m f d z;refine⟨v,y1, ?_⟩;cases d with
  | tv t=>exact y2
  | tl ts=>
   obtain⟨l,xs,p1,p2,p3,p4,p5,p6,p7⟩:=y2;subst p1;exact⟨l,xs,rfl,p2,H0p (.inr ⟨m,f,ts,z,y1⟩),p4,p5,by show iV _ (O l)=_;rw[p7];rfl⟩
 ·obtain⟨C',dx',us,O',c1,c2,c3,c4,c5,c6,c7⟩:=ob';rw[e2]at c1;cases c1;have keep:∀{b o},H b=some o->¬ P b->H' b=some o/\B' b=B b/\H0 b ≠ none:=λ{b o} hb hp=>⟨s1 _ _ (H0n hb hp),old b o (H0n hb hp),by rw[H0n hb hp];exact fV _⟩
  have own:∀(j' :Nat) (ws:List T),(ρ.set j (.st (os.set n (k,fs'))))[j']? =some (Sl.ow ws)->ρ[j']? =some (Sl.ow ws):=λj' ws hw=>by
   rcases zq hw with ⟨_,z⟩ | ⟨_,z⟩
   ·cases z
   ·exact z
  have ok' :∀b,uA ρ σ b->uA (ρ.set j _) σ b:=λb hb j' ws hw=>hb j' ws (own j' ws hw);have owP:∀{j' ws b xs},ρ[j']? =some (Sl.ow ws)->σ[j']? =some (some (V.ref b))->H b=some (.lst xs)->¬ P b:=λ{j' ws b xs} w1 w2 w3 hp=>by
   by_cases z:b=a
   ·rw[z,e3]at w3;cases w3
   ·obtain⟨_,_,_,_,_,q,_⟩:=lP b hp z;exact q j' ws w1 w2
  obtain⟨O2,hO1,hO2⟩:∃O2:Addr->Option (Nat×Nat),(∀b,H0 b ≠ none->O2 b=O b)/\∀b m,H0 b=none->O' b=some m->O2 b=some (n,m):=by
   refine⟨λb=>if H0 b=none then (O' b).map λm=>(n,m) else O b, ?_, ?_⟩
   ·intro b hb;exact if_neg hb
   ·intro b m z1 z2;show (if H0 b=none then (O' b).map λm=>(n,m) else O b)=_
    rw[if_pos z1,z2];rfl
  refine⟨I.s0,λb o hb=>(keep (I.sH b o hb) (n0 b o hb)).1,s3,λb o hb=> ?_,by rw[aE];exact I.len,λj' u h=> ?_,λj' ws h=> ?_,λj' c h=> ?_,as,O2,s.pre,λi' os' h=> ?_,λi1 i2 os1 os2 q1 q2=> ?_,λi' k' n' h=> ?_,λi' k' fs0 h=> ?_,λi' os' h n' k' fs2 e=> ?_⟩
  ·rw[(keep (I.sH b o hb) (n0 b o hb)).2.1];exact I.old b o hb
  ·rcases zq h with ⟨_,z⟩ | ⟨_,z⟩
   ·cases z
   ·obtain⟨v,y1,y2⟩:=I.vl j' u z;exact⟨v,y1,y2.mono s2⟩
  ·have z:=own j' ws h;obtain⟨b,xs',y1,y2,y3,y4,y5,y6⟩:=I.ow j' ws z;obtain⟨w1,w2,_⟩:=keep y4 (owP z y1 y4);exact⟨b,xs',y1,by rw[w2];exact y2,y3,w1,y5.mono s2,λj2 vs2 hj hw=>y6 j2 vs2 hj (own j2 vs2 hw)⟩
  ·rcases zq h with ⟨_,z⟩ | ⟨_,z⟩
   ·cases z
   ·obtain⟨b,y1,y2⟩:=I.xc j' c z;exact⟨b,y1,s2 _ _ y2⟩
  ·rcases zq h with ⟨_,z⟩ | ⟨_,z⟩
   ·cases z;rw[aE];exact s.len j os h2
   ·exact s.len _ _ z
  ·have one:∀i1 os1,(ρ.set j (.st (os.set n (k,fs'))))[i1]? =some _->i1=j:=λi1 os1 q1=>by
    rcases zq q1 with ⟨e,_⟩ | ⟨_,z⟩
    ·exact e
    ·exact s.one i1 j os1 os z h2
   rw[one i1 os1 q1,one i2 os2 q2]
  ·rcases zq h with ⟨_,z⟩ | ⟨_,z⟩
   ·cases z
   ·obtain⟨b,C2,dx2,vs2,y1,y2,y3,y4,y5,y6⟩:=s.ob i' k' n' z
    by_cases hb:b=a
    ·subst hb;rw[e3]at y4;cases y4;exact⟨b,_,dx',us,y1,y2,y3,c2,c3,y6.1,c6.2⟩
    ·have hp:¬ P b:=λhp=>by obtain⟨_,_,q,_⟩:=lP b hp hb;rw[q]at y4;cases y4
     obtain⟨w1,w2,_⟩:=keep y4 hp;exact⟨b,C2,dx2,vs2,y1,y2,y3,w1,by rw[w2];exact y5,y6⟩
  ·rcases zq h with ⟨_,z⟩ | ⟨_,z⟩
   ·cases z
   ·obtain⟨b,C2,dx2,vs2,y1,y2,y3,y4,y5⟩:=s.oc i' k' _ z;exact⟨b,C2,dx2,vs2,y1,y2,y3,y4,y5.mono s2 (zr.refl _)⟩
  ·rcases zq h with ⟨rfl,z⟩ | ⟨hne,z⟩
   ·cases z;rcases zq e with ⟨rfl,z⟩ | ⟨hn,z⟩
    ·cases z;refine⟨a,_,dx',us,e1,e2,c2,c3,e5,hO2 a 0 c4 c5,c6,λm f d z=> ?_⟩;obtain⟨v,y1,y2⟩:=c7 m f d z;refine⟨v,y1, ?_⟩;cases d with
     | tv t=>exact y2
     | tl ts=>
      obtain⟨l,xs,p1,p2,p3,p4,p5,p6⟩:=y2;refine⟨l,xs,p1,p2, ?_,p4,p5,λj' ws hw=> ?_,hO2 l _ p3 p6⟩
      ·cases q:Y.H0 l with
       | none=>rfl
       | some o=>rw[H0n (I.sH l o q) (n0 l o q)]at p3;cases p3
      ·have w:=own j' ws hw;obtain⟨b,xs',q1,q2,q3,q4,_⟩:=I.ow j' ws w;rw[q1];intro z;injection z with z;injection z with z;injection z with z;exact(keep q4 (owP w q1 q4)).2.2 (by rw[z];exact p3)
    ·obtain⟨b,C2,dx2,vs2,y1,y2,y3,y4,y5,y6,y7,y8⟩:=s.st i' os h2 n' k' fs2 z;have hb:b ≠ a:=λw=>by
      rw[w,e6]at y6;injection y6 with y6;injection y6 with y6 _;exact hn y6.symm
     have hp:¬ P b:=λhp=>by obtain⟨_,_,q,_⟩:=lP b hp hb;rw[q]at y3;cases y3
     obtain⟨w1,w2,w3⟩:=keep y3 hp;refine⟨b,C2,dx2,vs2,y1,y2,w1,by rw[w2];exact y4,y5,by rw[hO1 b w3];exact y6,y7,λm' f' d' z=> ?_⟩
     obtain⟨v',x1,x2⟩:=y8 m' f' d' z;refine⟨v',x1, ?_⟩;cases d' with
     | tv t=>exact Rep.mono s2 x2
     | tl ws=>
      obtain⟨l2,xs2,q1,q2,q3,q4,q5,q6,q7⟩:=x2;have hp:¬ P l2:=λhp=>by
       by_cases z:l2=a
       ·rw[z,e3]at q4;cases q4
       ·obtain⟨m2,_,_,_,_,_,q⟩:=lP l2 hp z;rw[q]at q7;injection q7 with q7;injection q7 with q7 _;exact hn q7.symm
      obtain⟨w1,w2,w3⟩:=keep q4 hp;exact⟨l2,xs2,q1,by rw[w2];exact q2,q3,w1,q5.mono s2,ok' l2 q6,by show O2 l2=_;rw[hO1 l2 w3];exact q7⟩
   ·exact absurd (s.one i' j os' os z h2) hne
end
def wp (k i j:Nat)(m:Str)(nn:Nat)(g:List (Str×Fd)->List T->R (T×List (Str×Fd)))(ga:En->R (List T)):En->R (T×En):=λρ=>match obD k i j ρ with
 | some (n,fs,os)=>if (fs.lookup m).isNone=true then (ga ρ).bind λts=>if ts.length=nn then (g fs ts).bind λp=> .ok (p.1,ρ.set j (.st (os.set n (k,p.2)))) else .bad else .bad
 | none=> .bad
section
theorem Gp {g:List (Str×Fd)->List T->R (T×List (Str×Fd))}(hv:PE X (.Name x px) (wg i))(hy:Y.cl=cl)(hc:cl k= .ref C)(c:L2.Cls X.K C)(hm:L2.Meth X.K C m f)(F:jq X.prog X.w X.K X.mg X.base (CX1 X.prog X.w) kj f fd ps (spM cl k nn g))(hr:ZP kk X.A)(hj:kj<=kk)(bd:L2.Binds X.K fd ps [])(hp:Zo (CX1 X.prog X.w) X Y.E)(ha:uq X Y (a :: es) ga)
  (hst:starEach (a :: es) X.env=(false,eval a X.env) :: starEach es X.env:=by exact zR rfl) (hpl:((backTo pos (starEach es X.env)).any λx=>x.fst)=false:=by exact Zm rfl)
  (ht:eval (.Call (.Attribute (.Name x px) m ap) (a :: es) [] pos) X.env=(do
   let ov ← eval (.Name x px) X.env
   standAt ap.atName
   let (f,first) ← holding [ov] (getMethod ov m pl)
   callWith pos f first (backTo pos (starEach (a :: es) X.env)) (backToKw pos (keywordEach [] X.env))):=by rfl):
  wD X Y (.Call (.Attribute (.Name x px) m ap) (a :: es) [] pos) (wp k i j m nn g ga):= .mk λρ=>PE.imp (Yf hv c hm F (hr.mono hj) bd .nil hp (ha ρ) hst hpl ht) λσ H Q ⟨B,I,q⟩=>by
 unfold wp at q;split at q
 ·rename_i n fs os e;split at q
  ·rename_i hl;obtain⟨a',C',dx,vs,e1,e2,e3,e4,al⟩:=I.obA e;subst hy;rw[hc]at e2;cases e2;have hno:=qC e4 al (by simpa using hl)
   refine⟨.ref a',e1,a',dx,vs,rfl,e3,hno, ?_⟩;refine z2z I q λts us H1 _ s1 r1 I1 q1=> ?_;split at q1
   ·rename_i hn;rw[aW];obtain⟨H0,b1,b2,b3,b4,b5⟩:=I1.back e e1;refine⟨a',us,ts,_,H0,fs,rfl,hn,b1,b2,b3,r1, ?_⟩;revert q1;cases g fs ts with
    | bad=>exact λq1=>q1
    | ex c2=>exact λq1 d H' z1 z2=>q1 d H' (b4.trans z1) z2
    | ok p=>
     obtain⟨t,fs2⟩:=p;exact λq1 v H' B' z1 z2 z3 z4 z5 z6=>q1 v H' B' z2 (b5 H' B' fs2 z1 z2 z3 z4 z5) z6
   ·exact q1.elim
  ·exact q.elim
 ·exact q.elim
def drM (f:En->R (T×En)):En->RS:=λρ=>(f ρ).s λp=> .nx p.2
theorem z2A (h:wD X Y e f)(hs:swapsWith e none pos.line X.env=pure false:=by rfl):jV X Y (.Expr e pos) (drM f):= .mk λρ=>PS.imp (JB (h.go ρ) hs) λD σ H ⟨B,I,q⟩=>⟨B,I,by
 unfold drM at q;revert q;cases f ρ with
 | bad=>exact λq=>q
 | ex c=>exact λq=>q
 | ok p=>exact λq v H' B' s I' _=>q σ H' B' s I'⟩
end
section
def ixF (k i j:Nat)(f:Str)(fb:En->R T):En->R T:=λρ=>match obD k i j ρ with
 | some (_,fs,_)=>match fs.lookup f with
  | some (.tl ts)=>(fb ρ).bind λt=>match t with
   | .int q=>atT ts q
   | _=> .bad
  | _=> .bad
 | none=> .bad
theorem z2B (hv:PE X (.Name x px) (wg i))(hc:Y.cl k= .ref C)(c:L2.Cls X.K C)(n:L2.NoAttr X.K C f)(hb:Snd X Y b fb)(hbf:attributeBase (.Name x px) f X.env (eval (.Name x px) X.env)=eval (.Name x px) X.env:=by rfl)(hs:jR b:=by exact λ_ _=>rfl):Snd X Y (.Subscript (.Attribute (.Name x px) f p) b pos) (ixF k i j f fb):= .mk λρ=>
 PE.imp (ym Ww (U7 hv hbf) (hb ρ) hs) λσ H Q ⟨B,I,q⟩=>by
  unfold ixF at q;split at q
  ·rename_i n' fs os e;split at q
   ·rename_i ts el;obtain⟨a,C',dx,vs,v,m,as,O,s,e1,e2,e3,e4,e5,e6,l,xs,p1,p2,p3,hh,rr,_⟩:=I.look e el;rw[hc]at e2;cases e2;subst p1;refine⟨.ref a,e1,a,C,dx,vs,_,rfl,e3,c,n,e4,step I q λt' v' H2 _ s2 r2 I2 q2=> ?_⟩;cases r2 with
    | int j=>
     have q2:Po Y rC _ H2 (atT ts j) Q:=q2;unfold atT at q2;split at q2
     ·rename_i t e8;obtain⟨w,e9,e10⟩:=JJ (rr.mono (zO.ge I.sB s2)) e8;exact .inl ⟨_,xs,j,w,rfl,rfl,SqL.of (s2 _ _ hh),e9,po0 I2.sB q2 rfl e10⟩
     ·exact q2.elim
    | _=>exact q2.elim
   ·exact q.elim
  ·exact q.elim
end
section
theorem SI.made (I:SI Y B ρ σ H){i j k:Nat}{x:Addr}{os:List Ob}{fs:List (Str×Fd)}{B' H' H0:Hp}(h2:ρ[j]? =some (.st os))(hij:i ≠ j)(hi:i < ρ.length)(sH:zr H H0)(s1:zr H0 H')(s2:zr B B')(s3:zr B' H')(old:∀b o,H0 b=some o->B' b=B b)(ob:k3 Y.cl k B' H0 H' x fs):
  SI Y B' ((ρ.set j (.st (os++[(k,fs)]))).set i (.ob k os.length)) (σ.set i (some (V.ref x))) H' :=by
 classical
 obtain⟨as,O,s⟩:=I.st;obtain⟨C,dx,us,O',c1,c2,c3,c4,c5,c6,c7⟩:=ob;have hlen:=s.len j os h2;have keep:∀{b o},H b=some o->H' b=some o/\B' b=B b/\H0 b ≠ none:=λ{b o} hb=>⟨s1 _ _ (sH _ _ hb),old b o (sH _ _ hb),by rw[sH _ _ hb];exact fV _⟩
 have get:∀{i' :Nat} {y:Sl},((ρ.set j _).set i (.ob k os.length))[i']? =some y->(i' =i/\y= .ob k os.length)\/(i' ≠ i/\i' =j/\y= .st (os++[(k,fs)]))\/(i' ≠ i/\i' ≠ j/\ρ[i']? =some y):=λ{i' y} h=>by
  rcases zq h with ⟨a,b⟩ | ⟨a,b⟩
  ·exact .inl ⟨a,b⟩
  ·rcases zq b with ⟨c,d⟩ | ⟨c,d⟩
   ·exact .inr (.inl ⟨a,c,d⟩)
   ·exact .inr (.inr ⟨a,c,d⟩)
 have sg:∀{i' :Nat},i' ≠ i->(σ.set i (some (V.ref x)))[i']? =σ[i']? :=λ{i'} h=>ay (aS h);have own:∀{j' :Nat} {ws:List T},((ρ.set j _).set i (.ob k os.length))[j']? =some (Sl.ow ws)->j' ≠ i/\ρ[j']? =some (Sl.ow ws):=λ{j' ws} hw=>by
  rcases get hw with ⟨_,z⟩ | ⟨_,_,z⟩ | ⟨a,_,z⟩
  ·cases z
  ·cases z
  ·exact⟨a,z⟩
 have ok' :∀b,uA ρ σ b->uA _ _ b:=λb hb j' ws hw=>by
  obtain⟨h1,h2⟩:=own hw;rw[sg h1];exact hb j' ws h2
 obtain⟨O2,hO1,hO2⟩:∃O2:Addr->Option (Nat×Nat),(∀b,H0 b ≠ none->O2 b=O b)/\∀b m,H0 b=none->O' b=some m->O2 b=some (os.length,m):=by
  refine⟨λb=>if H0 b=none then (O' b).map λm=>(os.length,m) else O b, ?_, ?_⟩
  ·intro b hb;exact if_neg hb
  ·intro b m z1 z2;show (if H0 b=none then (O' b).map λm=>(os.length,m) else O b)=_
   rw[if_pos z1,z2];rfl
 have H0n:zr Y.H0 H0:=I.sH.trans sH;have asn:(as++[x])[os.length]? =some x:=by rw[av (by omega),hlen,cN];rfl
 have aso:∀{n' :Nat} {b:Addr},as[n']? =some b->(as++[x])[n']? =some b:=λ{n' b} h=>by
  rw[ax (ai.mp h).1];exact h
 refine⟨I.s0,λb o hb=>(keep (I.sH b o hb)).1,s3,λb o hb=> ?_,by rw[aE,aE,aE];exact I.len,λj' u h=> ?_,λj' ws h=> ?_,λj' c h=> ?_,as++[x],O2,s.pre.trans (List.prefix_append _ _),λi' os' h=> ?_,λi1 i2 os1 os2 q1 q2=> ?_,λi' k' n' h=> ?_,λi' k' fs0 h=> ?_,λi' os' h n' k' fs2 e=> ?_⟩
 ·rw[(keep (I.sH b o hb)).2.1];exact I.old b o hb
 ·rcases get h with ⟨_,z⟩ | ⟨_,_,z⟩ | ⟨a,_,z⟩
  ·cases z
  ·cases z
  ·obtain⟨v,y1,y2⟩:=I.vl j' u z;exact⟨v,by rw[sg a];exact y1,y2.mono s2⟩
 ·obtain⟨a,z⟩:=own h;obtain⟨b,xs',y1,y2,y3,y4,y5,y6⟩:=I.ow j' ws z;obtain⟨w1,w2,_⟩:=keep y4;refine⟨b,xs',by rw[sg a];exact y1,by rw[w2];exact y2,y3,w1,y5.mono s2,λj2 vs2 hj hw=> ?_⟩
  obtain⟨q1,q2⟩:=own hw;rw[sg q1];exact y6 j2 vs2 hj q2
 ·rcases get h with ⟨_,z⟩ | ⟨_,_,z⟩ | ⟨a,_,z⟩
  ·cases z
  ·cases z
  ·obtain⟨b,y1,y2⟩:=I.xc j' c z;exact⟨b,by rw[sg a];exact y1,s2 _ _ y2⟩
 ·rcases get h with ⟨_,z⟩ | ⟨_,_,z⟩ | ⟨_,nj,z⟩
  ·cases z
  ·cases z;rw[az,az,hlen];rfl
  ·exact absurd (s.one i' j os' os z h2) nj
 ·have one:∀i1 os1,((ρ.set j _).set i _)[i1]? =some (Sl.st os1)->i1=j:=λi1 os1 q1=>by
   rcases get q1 with ⟨_,z⟩ | ⟨_,e,_⟩ | ⟨_,nj,z⟩
   ·cases z
   ·exact e
   ·exact s.one i1 j os1 os z h2
  rw[one i1 os1 q1,one i2 os2 q2]
 ·rcases get h with ⟨e,z⟩ | ⟨_,_,z⟩ | ⟨a,_,z⟩
  ·cases z;subst e;refine⟨x,C,dx,us,asn,aT (by rw[← I.len];exact hi),c1,c2,c3, ?_,c6.2⟩
   cases q:Y.H0 x with
   | none=>rfl
   | some o=>rw[H0n _ _ q]at c4;cases c4
  ·cases z
  ·obtain⟨b,C2,dx2,vs2,y1,y2,y3,y4,y5,y6⟩:=s.ob i' k' n' z;obtain⟨w1,w2,_⟩:=keep y4;exact⟨b,C2,dx2,vs2,aso y1,by rw[sg a];exact y2,y3,w1,by rw[w2];exact y5,y6⟩
 ·rcases get h with ⟨_,z⟩ | ⟨_,_,z⟩ | ⟨a,_,z⟩
  ·cases z
  ·cases z
  ·obtain⟨b,C2,dx2,vs2,y1,y2,y3,y4,y5⟩:=s.oc i' k' _ z;exact⟨b,C2,dx2,vs2,by rw[sg a];exact y1,y2,y3,y4,y5.mono s2 (zr.refl _)⟩
 ·rcases get h with ⟨_,z⟩ | ⟨_,ej,z⟩ | ⟨_,nj,z⟩
  ·cases z
  ·cases z
   by_cases hn:n' < os.length
   ·rw[ax hn]at e;obtain⟨b,C2,dx2,vs2,y1,y2,y3,y4,y5,y6,y7,y8⟩:=s.st j os h2 n' k' fs2 e;obtain⟨w1,w2,w3⟩:=keep y3;refine⟨b,C2,dx2,vs2,aso y1,y2,w1,by rw[w2];exact y4,y5,by rw[hO1 b w3];exact y6,y7,λm' f' d' z=> ?_⟩
    obtain⟨v',x1,x2⟩:=y8 m' f' d' z;refine⟨v',x1, ?_⟩;cases d' with
    | tv t=>exact Rep.mono s2 x2
    | tl ws=>
     obtain⟨l2,xs2,q1,q2,q3,q4,q5,q6,q7⟩:=x2;obtain⟨w1,w2,w3⟩:=keep q4;exact⟨l2,xs2,q1,by rw[w2];exact q2,q3,w1,q5.mono s2,ok' l2 q6,by show O2 l2=_;rw[hO1 l2 w3];exact q7⟩
   ·rw[av (iU.mp hn)]at e;have hn' :n' =os.length:=by
     cases q:n' - os.length with
     | zero=>omega
     | succ r=>rw[q]at e;cases e
    subst hn';rw[cN]at e;cases e;have h0x:Y.H0 x=none:=by
     cases q:Y.H0 x with
     | none=>rfl
     | some o=>rw[H0n _ _ q]at c4;cases c4
    refine⟨x,C,dx,us,asn,c1,c2,c3,h0x,hO2 x 0 c4 c5,c6,λm f d z=> ?_⟩;obtain⟨v,y1,y2⟩:=c7 m f d z;refine⟨v,y1, ?_⟩;cases d with
    | tv t=>exact y2
    | tl ts=>
     obtain⟨l,xs,p1,p2,p3,p4,p5,p6⟩:=y2;refine⟨l,xs,p1,p2, ?_,p4,p5,λj' ws hw=> ?_,hO2 l _ p3 p6⟩
     ·cases q:Y.H0 l with
      | none=>rfl
      | some o=>rw[H0n _ _ q]at p3;cases p3
     ·obtain⟨hj',w⟩:=own hw;obtain⟨b,xs',q1,q2,q3,q4,_⟩:=I.ow j' ws w;rw[sg hj',q1];intro z;injection z with z;injection z with z;injection z with z;exact(keep q4).2.2 (by rw[z];exact p3)
  ·exact absurd (s.one i' j os' os z h2) nj
end
section
end
section
end
def spO (cl:Nat->Value)(k p n:Nat)(g:List (Str×Fd)->List T->R T):Sp:=λvs H Q E=>∃(x C dx:Addr) (us:List (Str×V)) (vs1 vs2:List V) (ts1 ts2:List T) (B:Hp) (fs:List (Str×Fd)),vs=vs1++ .ref x :: vs2/\ts1.length=p/\(ts1++ts2).length=n/\cl k= .ref C/\H x=some (.ins C dx us)/\InC us/\FsO B H us fs/\zr B H/\zF B vs1 ts1/\zF B vs2 ts2/\Po ⟨B,H,E,cl,[]⟩ rC B H (g fs (ts1++ts2)) Q
def enO (k m:Nat)(fs:List (Str×Fd))(ts1 ts2:List T):En:=ts1.map Sl.vl++(.oc k fs :: (ts2.map Sl.vl++ah m .un))
theorem qE (h:(enO k m fs ts1 ts2)[i]? =some s):(i=ts1.length/\s= .oc k fs)\/(∃t,ts1[i]? =some t/\s= .vl t)\/(∃i' t,i=ts1.length+1+i' /\ts2[i']? =some t/\s= .vl t)\/s= .un:=by
 unfold enO at h
 by_cases h1:i < ts1.length
 ·rw[ax (by simpa using h1),ar,ae h1]at h
  exact .inr (.inl ⟨_,ae h1,(aB h).symm⟩)
 ·obtain⟨q,hq⟩:∃q,i=ts1.length+q:=⟨i - ts1.length,by omega⟩
  rw[av (by simpa using h1),ac,hq,eZ]at h
  cases q with
  | zero=>exact .inl ⟨hq,(aB h).symm⟩
  | succ q=>
   rw[ck]at h
   by_cases h2:q < ts2.length
   ·rw[ax (by simpa using h2),ar,ae h2]at h
    exact .inr (.inr (.inl ⟨q,_,by omega,ae h2,(aB h).symm⟩))
   ·rw[av (by simpa using h2),aO]at h
    split at h
    ·exact .inr (.inr (.inr (aB h).symm))
    ·cases h
theorem SI.startO (hN:N.length=(ts1++ts2).length+1+m)(sB:zr B H)(hc:cl k= .ref C)(hx:H x=some (.ins C dx us))(hi:InC us)(hf:FsO B H us fs)(r1:zF B vs1 ts1)(r2:zF B vs2 ts2):
  SI ⟨B,H,E,cl,[]⟩ B (enO k m fs ts1 ts2) (L2.start N (vs1++ .ref x :: vs2)) H:=by
 have l1:=r1.length;have l2:=r2.length;have at0:(L2.start N (vs1++ .ref x :: vs2))[ts1.length]? =some (some (V.ref x)):=by
  unfold L2.start;rw[bj,ba,av (by simp[l1]),ac,l1,cN];rfl
 refine⟨sB,zr.refl _,sB,λ_ _ _=>rfl, ?_,λi t h=> ?_,λi t h=> ?_,λi t h=> ?_,[],λ_=>none,cg _,λi os h=> ?_,λi _ os _ h=> ?_,λi k' n h=> ?_,λi k' fs0 h=> ?_,λi os h=> ?_⟩
 ·unfold enO L2.start;simp only[az,am,ac,aP]at hN ⊢;omega
 ·rcases qE h with ⟨_,e⟩ | ⟨t',e2,e3⟩ | ⟨i',t',e1,e2,e3⟩ | e
  ·cases e
  ·cases e3;obtain⟨v,ev,rv⟩:=r1.at e2;refine⟨v, ?_,rv⟩;have hi:=(ai.mp ev).1;unfold L2.start;rw[bj,ba,ax (by simpa using hi),ar,ev];rfl
  ·cases e3;obtain⟨v,ev,rv⟩:=r2.at e2;refine⟨v, ?_,rv⟩;have hi:=(ai.mp ev).1;unfold L2.start;rw[e1,bj,ba,av (by simp[l1];omega),ac,l1,show ts1.length+1+i' - ts1.length=i' +1 by omega,aF,dv,ck,ax (by simpa using hi),ar,ev];rfl
  ·cases e
 all_goals (rcases qE h with ⟨e0,e⟩ | ⟨_,_,e⟩ | ⟨_,_,_,_,e⟩ | e <;> try (cases e;done))
 cases e;subst e0;exact⟨x,C,dx,us,at0,hc,hx,hi,hf⟩
def yT (Y:Fx)(B:Hp)(r:R (Bool×En))(σ:Sg)(Q:Bool->Hp->Prop):Prop:=match r with
 | .ok (b,ρ')=>∀H' B',zr B B' ->SI Y B' ρ' σ H' ->Q b H'
 | .ex c=>XP Y B c
 | .bad=>False
theorem yT.up {r:R (Bool×En)}{Q:Bool->Hp->Prop}(s:zr B B')(h:yT Y B r σ Q):yT Y B' r σ Q:=by
 unfold yT at h ⊢;split
 ·exact λH' B2 a=>h H' B2 (s.trans a)
 ·exact XP.up s h
 ·exact h
structure uN (X:Cx) (Y:Fx) (e:Expr) (f:En->R (Bool×En)):Prop where
 mk ::
 go:∀ρ,PT X e λσ H Q=>∃B,SI Y B ρ σ H/\yT Y B (f ρ) σ Q
theorem xk {α β:Type}{rel:Hp->Hp->β->α->Prop}{f:En->R α}{k:α->R (Bool×En)}{Q:Bool->Hp->Prop}{K:β->Hp->Prop}(I:SI Y B ρ σ H)(h:yT Y B ((f ρ).bind k) σ Q)
  (n:∀a b H1,f ρ= .ok a->zr H H1->rel (zO B H H1) H1 b a->SI Y (zO B H H1) ρ σ H1->yT Y (zO B H H1) (k a) σ Q->K b H1):tS Y rel f ρ σ H K:=by
 refine⟨B,I, ?_⟩;cases e:f ρ with
 | bad=>rw[e]at h;exact h
 | ex c=>rw[e]at h;exact h
 | ok a=>
  rw[e]at h;exact λb H1 s r=>n a b H1 e s r (I.grow s) (yT.up (zO.ge I.sB s) h)
section
def K0 (g:T->T->R Bool)(fm:En->R (T×En))(fb:En->R T):En->R (Bool×En):=λρ=>(fm ρ).bind λp=>(fb p.2).bind λt' =>(g p.1 t').bind λb=> .ok (b,p.2)
theorem Gq (nx:Nx g)(ho:OpR X (compareOp op) (wj g))(ha:wD X Y a fm)(hb:j9 X Y b fb)(hm:behindInMarks op b=false):uN X Y (.Compare a [op] [b] pos) (K0 g fm fb):= .mk λρ=>
 PT.imp (Y6 (tb:=λσ H Q=>∃ρ',tS Y rB fb ρ' σ H Q) ho (ha.go ρ) (λpins s σ H Q I ⟨ρ',q⟩=>hb ρ' _ s σ H Q I q) hm) λσ H Q ⟨B,I,q⟩=>by
  refine⟨B,I, ?_⟩;unfold K0 at q;revert q;cases fm ρ with
  | bad=>exact λq=>q
  | ex c=>exact λq=>q
  | ok p=>
   obtain⟨t,ρ'⟩:=p;intro q v H1 B1 s1 I1 r1;have q:=yT.up s1 q;refine⟨ρ',xk I1 q λt' v' H2 _ s2 r2 I2 q2=> ?_⟩;cases e:g t t' with
   | bad=>rw[e]at q2;exact q2.elim
   | ex c=>exact absurd e (nx _ _ _)
   | ok b=>
    rw[e]at q2;exact⟨t,t',b,(r1.mono I1.sB).mono s2,r2,e,b,rfl,q2 H2 _ (zr.refl _) I2⟩
def tmP (f:En->R Bool):En->R (Bool×En):=λρ=>(f ρ).bind λb=> .ok (b,ρ)
theorem k6 (h:Wj X Y c f):uN X Y c (tmP f):= .mk λρ=>PT.imp (h ρ) λσ H Q ⟨B,I,q⟩=>xk I q λt v H1 _ s1 r1 I1 q1=>by
 have r1' :=r1;subst r1';exact q1 H1 _ (zr.refl _) I1
def ifM (ga:En->R (Bool×En))(f g:En->RS):En->RS:=λρ=>(ga ρ).s λp=>if p.1=true then f p.2 else g p.2
theorem z2C {ga:En->R (Bool×En)}(hc:uN X Y c ga)(h1:wx X Y sts f)(h2:wx X Y sts' g):jV X Y (.If c sts sts' pos) (ifM ga f g):= .mk λρ=>
 PS.imp (Kk (t:=λD σ H=>∃ρ',tSS Y f ρ' D σ H) (u:=λD σ H=>∃ρ',tSS Y g ρ' D σ H) (hc.go ρ) (λpins s σ H D I ⟨ρ',q⟩=>h1 ρ' _ s σ H D I q) (λpins s σ H D I ⟨ρ',q⟩=>h2 ρ' _ s σ H D I q)) λD σ H ⟨B,I,q⟩=>by
  refine⟨B,I, ?_⟩;unfold ifM at q;revert q;cases ga ρ with
  | bad=>exact λq=>q
  | ex c=>exact λq=>q
  | ok p=>
   obtain⟨b,ρ'⟩:=p;intro q H' B' s I';cases b with
   | true=>exact⟨ρ',B',I',PoS.up s q⟩
   | false=>exact⟨ρ',B',I',PoS.up s q⟩
structure uO (X:Cx) (Y:Fx) (e:Expr) (f:En->R (Bool×En)):Prop where
 mk ::
 go:∀ρ,PW X e λσ H Q=>∃B,SI Y B ρ σ H/\yT Y B (f ρ) σ Q
theorem uO.t {f:En->R (Bool×En)}(h:uO X Y e f):uN X Y e f:= .mk λρ=>(h.go ρ).pt
theorem Gr {f:En->R (Bool×En)}(h:uN X Y a f):uO X Y (.BoolOp .Or [a] pos) f:= .mk λρ=>VH (h.go ρ)
def orM (fa fb:En->R (Bool×En)):En->R (Bool×En):=λρ=>(fa ρ).bind λp=>if p.1=true then .ok (true,p.2) else fb p.2
theorem z2D {rest:List Expr}{fa fb:En->R (Bool×En)}(ha:uN X Y a fa)(hb:uO X Y (.BoolOp .Or (b :: rest) pos) fb):uO X Y (.BoolOp .Or (a :: b :: rest) pos) (orM fa fb):= .mk λρ=>
 PW.imp (Kg (ha.go ρ) (λwh pins s σ H Q I (h:∃ρ' B,SI Y B ρ' σ H/\yT Y B _ σ Q)=>let ⟨ρ',q⟩:=h;hb.go ρ' wh _ s σ H Q I q)) λσ H Q ⟨B,I,q⟩=>by
  refine⟨B,I, ?_⟩;unfold orM at q;revert q;cases fa ρ with
  | bad=>exact λq=>q
  | ex c=>exact λq=>q
  | ok p=>
   obtain⟨x,ρ'⟩:=p;intro q H' B' s I';cases x with
   | true=>exact q H' B' s I'
   | false=>exact⟨ρ',B',I',yT.up s q⟩
end
section
noncomputable def lcpT:T->R T
 | .lst xs=> .ok (.lst xs)
 | .tup xs=> .ok (.lst xs)
 | _=> .bad
theorem z2E (gl:Gl X "list")(mg:X.mg "list"=none)(ha:Snd X Y a fa)(hs:St1 X a:=by exact st1 rfl):Snd X Y (.Call (.Name "list" p) [a] [] pos) (ap1 lcpT fa):=
 Yy Jc (λv t B H Q r sB q=>by
  cases r with
  | @lst l xs ts h r=>exact⟨l,xs,rfl,.inl (SqL.of (sB _ _ h)),λl' hl' =>KK sB q rfl r hl'⟩
  | @tup l xs ts h r=>exact⟨l,xs,rfl,.inr (SqT.of (sB _ _ h)),λl' hl' =>KK sB q rfl r hl'⟩
  | _=>exact q.elim) gl mg (PyProof.Rows.Boot.«list») ha hs
end
theorem SI.st0 (I:SI Y B ρ σ H)(hY:Y.as=[])(hno:∀(i:Nat) (s:Sl),s.isO=true->ρ[i]? ≠ some s)(j:Nat):SI Y B (ρ.set j (.st [])) σ H where
 s0:=I.s0
 sH:=I.sH
 sB:=I.sB
 old:=I.old
 len:=by rw[aE];exact I.len
 vl:=λi t h=>by
  rcases zq h with ⟨_,z⟩ | ⟨_,z⟩
  ·cases z
  ·exact I.vl i t z
 ow:=λi ts h=>by
  rcases zq h with ⟨_,z⟩ | ⟨_,z⟩
  ·cases z
  ·obtain⟨a,xs,e1,e2,e3,e4,e5,e6⟩:=I.ow i ts z;refine⟨a,xs,e1,e2,e3,e4,e5,λj' us hj hw=> ?_⟩;rcases zq hw with ⟨_,z⟩ | ⟨_,z⟩
   ·cases z
   ·exact e6 j' us hj z
 xc:=λi t h=>by
  rcases zq h with ⟨_,z⟩ | ⟨_,z⟩
  ·cases z
  ·exact I.xc i t z
 st:=by
  have one:∀i os,(ρ.set j (.st []))[i]? =some (Sl.st os)->i=j/\os=[]:=λi os h=>by
   rcases zq h with ⟨e,z⟩ | ⟨_,z⟩
   ·cases z;exact⟨e,rfl⟩
   ·exact(hno i _ rfl z).elim
  refine⟨[],λ_=>none,by rw[hY];exact cg _,λi os h=>by rw[(one i os h).2];rfl,λi i' os os' h h' =>by rw[(one i os h).1,(one i' os' h').1],λi k n h=> ?_,λi k fs0 h=> ?_,λi os h n k fs e=> ?_⟩
  ·rcases zq h with ⟨_,z⟩ | ⟨_,z⟩
   ·cases z
   ·exact(hno i _ rfl z).elim
  ·rcases zq h with ⟨_,z⟩ | ⟨_,z⟩
   ·cases z
   ·exact(hno i _ rfl z).elim
  ·rw[(one i os h).2]at e;simp at e
def enS (n:Nat)(ts:List T):En:=(en0 n ts).set (n - 1) (.st [])
theorem SI.startS (s:zr Y.B0 Y.H0)(r:zF Y.B0 vs ts)(hY:Y.as=[]):SI Y Y.B0 (enS N.length ts) (L2.start N vs) Y.H0:=
 (SI.start s r).st0 hY (λi s hs h=>uE (λt z=>by rw[z]at hs;cases hs) (λz=>by rw[z]at hs;cases hs) h) _
section
variable {P:Program}{w:World}{K:aa}{mg:Str->Option Value}{base:Heap}
theorem k7 {cl:Nat->Value}{x qual:Str}{st:Stmt}{f:Addr}{fd:FuncData}{N ps:List Str}{k n:Nat}{fb:En->RS}{g:List T->R T}(F:Fun K x qual st f fd)(S:ZY N ps (zu st))(hn:n=ps.length)
  (hb:∀(cdv:Value) (A:Around) (outer:List Env) (s:Shared) (H:Hp) (E:XK) (Y:Fx),Y.cl=cl->Y.E=E->ZP k (A.deeper (envOfC qual (zu st) s.heap.objs.size f cdv))->
   wx (Wv (CX1 P w) P w K mg base N qual (zu st) f cdv A outer s H E) Y (zS st) fb)
  (hg:∀ts,ts.length=n->g ts=zy (fb (enS N.length ts))):jq P w K mg base (CX1 P w) (k+1) f fd ps (spP cl n g):=by
 subst hn;refine Fun.okX F S spP.len λcdv A outer s H vs Q E hr ⟨B,ts,hl,sB,r,q⟩=> ?_;refine⟨_,hb cdv A _ s H E ⟨B,H,E,cl,[]⟩ rfl rfl hr _,B,SI.startS sB r rfl, ?_⟩;rw[hg ts hl]at q;revert q;cases fb _ with
 | rt t=>exact λq v H' s r=>q v H' s r
 | rf t=>exact λq a xs H' B' s0 n e r _ l=>q _ H' s0 (.lst (by rw[Z6 n];exact e) (r.mono l))
 | nx ρ=>exact λq σ' H' B' s' I' =>q _ H' I'.sH .non
 | bk ρ=>exact λq=>q.elim
 | ct ρ=>exact λq=>q.elim
 | ex c=>exact λq=>q
 | bad=>exact λq=>q
theorem Gs {cl:Nat->Value}{x qual:Str}{st:Stmt}{f:Addr}{fd:FuncData}{N ps:List Str}{k p n m kr:Nat}{fb:En->RS}(F:Fun K x qual st f fd)(S:ZY N ps (zu st))(hn:ps.length=n+1)(hN:N.length=n+1+m)
  (hb:∀(cdv:Value) (A:Around) (outer:List Env) (s:Shared) (H:Hp) (E:XK) (Y:Fx),Y.cl=cl->Y.E=E->ZP kr (A.deeper (envOfC qual (zu st) s.heap.objs.size f cdv))->
   wx (Wv (CX1 P w) P w K mg base N qual (zu st) f cdv A outer s H E) Y (zS st) fb):jq P w K mg base (CX1 P w) (kr+1) f fd ps (spO cl k p n λfs ts=>zy (fb (enO k m fs (ts.take p) (ts.drop p)))):=by
 refine Fun.okX F S (λvs H Q E z=> ?_) λcdv A outer s H vs Q E hr z=> ?_
 ·obtain⟨x,C,dx,us,vs1,vs2,ts1,ts2,B,fs,e,hl,hl2,_,_,_,_,_,r1,r2,_⟩:=z;rw[e,az,am,r1.length,r2.length,hn,← hl2,az];rfl
 obtain⟨x,C,dx,us,vs1,vs2,ts1,ts2,B,fs,e,hl,hl2,hc,hx,hi,hf,sB,r1,r2,q⟩:=z;subst e;have e1:(ts1++ts2).take p=ts1:=by rw[← hl];simp
 have e2:(ts1++ts2).drop p=ts2:=by rw[← hl];simp
 refine⟨_,hb cdv A _ s H E _ rfl rfl hr _,B,SI.startO (by rw[hN,hl2]) sB hc hx hi hf r1 r2, ?_⟩
 have q:Po _ rC B H (zy _) Q:=q;rw[e1,e2]at q;revert q;cases fb _ with
 | rt t=>exact λq v H' s r=>q v H' s r
 | rf t=>exact λq a xs H' B' s0 n e r _ l=>q _ H' s0 (.lst (by rw[Z6 n];exact e) (r.mono l))
 | nx ρ=>exact λq σ' H' B' s' I' =>q _ H' I'.sH .non
 | bk ρ=>exact λq=>q.elim
 | ct ρ=>exact λq=>q.elim
 | ex c=>exact λq=>q
 | bad=>exact λq=>q
end
section
variable {X:Cx}{Y:Fx}{a b:Expr}{cl:Nat->Value}{k i j kk kj nn:Nat}{x m:Str}{px ap p pos p' :Pos}{C f:Addr}{fd:FuncData}{ps:List Str}{es:List Expr}{ga:En->R (List T)}{pl:Sem Bool}
def obL (k i j:Nat)(ρ:En):Option (List (Str×Fd)):=match ρ[i]? with
 | some (.oc k' fs)=>if k' =k then some fs else none
 | _=>(obD k i j ρ).map λx=>x.2.1
theorem SI.obL (I:SI Y B ρ σ H)(h:obL k i j ρ=some fs):∃a C dx vs,σ[i]? =some (some (V.ref a))/\Y.cl k= .ref C/\H a=some (.ins C dx vs)/\InC vs/\FsO B H vs fs:=by
 unfold PV.obL at h;obtain⟨as,O,s⟩:=I.st;split at h
 ·rename_i k' fs' e;split at h
  ·rename_i hk;subst hk;cases h;obtain⟨a,C,dx,vs,e1,e2,e3,e4,e5⟩:=s.oc i _ _ e;exact⟨a,C,dx,vs,e1,e2,I.sH _ _ e3,e4,e5.mono (zr.refl _) I.sH⟩
  ·cases h
 ·cases e:obD k i j ρ with
  | none=>rw[e]at h;cases h
  | some x=>
   obtain⟨n,fs',os⟩:=x;rw[e]at h;cases h;obtain⟨h1,h2,h3⟩:=wE e;obtain⟨a,C,dx,vs,e1,e2,e3,e4,e5,e6,e7,e8⟩:=s.st j os h2 n k _ h3;obtain⟨a',C',dx',vs',g1,g2,_⟩:=s.ob i k n h1;rw[e1]at g1;cases g1;refine⟨a,C,dx,vs,g2,e2,e3,e7.2,λm f d z=> ?_⟩;obtain⟨v,z1,z2⟩:=e8 m f d z;refine⟨v,z1, ?_⟩;cases d with
   | tv t=>exact z2
   | tl ts=>obtain⟨l,xs,p1,_,_,p4,p5,_⟩:=z2;exact⟨l,xs,p1,p4,p5⟩
def z0M (k i j:Nat)(f:Str):En->R T:=λρ=>match obL k i j ρ with
 | some fs=>(match fs.lookup f with
  | some (.tv t)=> .ok t
  | _=> .bad)
 | none=> .bad
theorem Gu (hv:PE X (.Name x px) (wg i))(hc:Y.cl k= .ref C)(c:L2.Cls X.K C)(n:L2.NoAttr X.K C m)(hb:attributeBase (.Name x px) m X.env (eval (.Name x px) X.env)=eval (.Name x px) X.env:=by rfl):Snd X Y (.Attribute (.Name x px) m pos) (z0M k i j m):= .mk λρ=>PE.imp (U7 hv hb) λσ H Q ⟨B,I,q⟩=>by
 unfold z0M at q;split at q
 ·rename_i fs e;split at q
  ·rename_i t el;obtain⟨a,C',dx,vs,e1,e2,e3,e4,e5⟩:=I.obL e;rw[hc]at e2;cases e2;obtain⟨m',v,z1,z2,z3⟩:=W5 (λm g e he=>let ⟨v,z,_⟩:=e5 m g e he;⟨v,z⟩) el;obtain⟨v',y1,y2⟩:=e5 m' _ _ z1;rw[z2]at y1;cases y1;exact⟨.ref a,e1,a,C,dx,vs,v,rfl,e3,c,n,z3,po0 I.sB q rfl y2⟩
  ·exact q.elim
 ·exact q.elim
theorem poO {B H:Hp}{I0:Hp}{r:R T}{Q:VK}(s:zr Y.H0 H)(q:Po Y rC B H r Q):Po ⟨B,H,Y.E,Y.cl,[]⟩ rC B H r Q:=by
 cases r with
 | bad=>exact q
 | ex c=>exact λd H' z1 z2=>q d H' (s.trans z1) z2
 | ok t=>exact q
def jr (k i j nn:Nat)(g:List (Str×Fd)->List T->R T)(ga:En->R (List T)):En->R T:=λρ=>match obL k i j ρ with
 | some fs=>(ga ρ).bind λts=>if ts.length=nn then g fs ts else .bad
 | none=> .bad
theorem z2F {g:List (Str×Fd)->List T->R T}(hv:PE X (.Name x px) (wg i))(hy:Y.cl=cl)(hc:cl k= .ref C)(c:L2.Cls X.K C)(hm:L2.Meth X.K C m f)(F:jq X.prog X.w X.K X.mg X.base (CX1 X.prog X.w) kj f fd ps (spO cl k 0 nn g))(hr:ZP kk X.A)(hj:kj<=kk)(bd:L2.Binds X.K fd ps [])(hp:Zo (CX1 X.prog X.w) X Y.E)(ha:uq X Y (a :: es) ga)(hna:m ∉ xX:=by decide)
  (hst:starEach (a :: es) X.env=(false,eval a X.env) :: starEach es X.env:=by exact zR rfl) (hpl:((backTo pos (starEach es X.env)).any λx=>x.fst)=false:=by exact Zm rfl)
  (ht:eval (.Call (.Attribute (.Name x px) m ap) (a :: es) [] pos) X.env=(do
   let ov ← eval (.Name x px) X.env
   standAt ap.atName
   let (f,first) ← holding [ov] (getMethod ov m pl)
   callWith pos f first (backTo pos (starEach (a :: es) X.env)) (backToKw pos (keywordEach [] X.env))):=by rfl):
  Snd X Y (.Call (.Attribute (.Name x px) m ap) (a :: es) [] pos) (jr k i j nn g ga):= .mk λρ=>PE.imp (Yf hv c hm F (hr.mono hj) bd .nil hp (ha ρ) hst hpl ht) λσ H Q ⟨B,I,q⟩=>by
 unfold jr at q;split at q
 ·rename_i fs e;obtain⟨a',C',dx,vs,e1,e2,e3,e4,e5⟩:=I.obL e;subst hy;rw[hc]at e2;cases e2;refine⟨.ref a',e1,a',dx,vs,rfl,e3,e4 m hna, ?_⟩;refine step I q λts us H1 _ s1 r1 I1 q1=> ?_;split at q1
  ·rename_i hn;rw[aW];exact⟨a',C,dx,vs,[],us,[],ts,_,fs,rfl,rfl,hn,hc,s1 _ _ e3,e4,e5.mono (zO.ge I.sB s1) s1,I1.sB,.nil,r1,poO (I0:=H) I1.sH q1⟩
  ·exact q1.elim
 ·exact q.elim
theorem Vh {g:List (Str×Fd)->List T->R T}(hv:PE X (.Name x px) (wg i))(hy:Y.cl=cl)(hc:cl k= .ref C)(c:L2.Cls X.K C)(hm:L2.Meth X.K C m f)(F:jq X.prog X.w X.K X.mg X.base (CX1 X.prog X.w) kj f fd ps (spO cl k 0 0 g))(hr:ZP kk X.A)(hj:kj<=kk)(bd:L2.Binds X.K fd ps [])(hp:Zo (CX1 X.prog X.w) X Y.E)(hna:m ∉ xX:=by decide)
  (ht:eval (.Call (.Attribute (.Name x px) m ap) [] [] pos) X.env=(do
   let ov ← eval (.Name x px) X.env
   standAt ap.atName
   let (f,first) ← holding [ov] (getMethod ov m pl)
   callWith pos f first (backTo pos (starEach [] X.env)) (backToKw pos (keywordEach [] X.env))):=by rfl):
  Snd X Y (.Call (.Attribute (.Name x px) m ap) [] [] pos) (jr k i j 0 g zj):= .mk λρ=>PE.imp (vz hv c hm F (hr.mono hj) bd .nil hp ht) λσ H Q ⟨B,I,q⟩=>by
 unfold jr at q;split at q
 ·rename_i fs e;obtain⟨a',C',dx,vs,e1,e2,e3,e4,e5⟩:=I.obL e;subst hy;rw[hc]at e2;cases e2;exact⟨.ref a',e1,a',dx,vs,rfl,e3,e4 m hna,a',C,dx,vs,[],[],[],[],_,fs,rfl,rfl,rfl,hc,e3,e4,e5,I.sB,.nil,.nil,poO (I0:=H) I.sH q⟩
 ·exact q.elim
theorem WP {f:En->R (T×En)}{k:T×En->R (T×En)}{ρ:En}{B:Hp}{σ:Sg}{H:Hp}{Q:VK}{K:V->Hp->Prop}(I:SI Y B ρ σ H)(h:PoM Y B ((f ρ).bind k) σ Q)
  (n:∀t ρ' v H1 B1,f ρ= .ok (t,ρ')->zr B B1->Rep B1 v t->SI Y B1 ρ' σ H1->PoM Y B1 (k (t,ρ')) σ Q->K v H1):∃B,SI Y B ρ σ H/\PoM Y B (f ρ) σ K:=by
 refine⟨B,I, ?_⟩;cases e:f ρ with
 | bad=>rw[e]at h;exact h
 | ex c=>rw[e]at h;exact h
 | ok p=>
  obtain⟨t,ρ'⟩:=p;rw[e]at h;exact λv H1 B1 s I1 r=>n t ρ' v H1 B1 e s r I1 (PoM.up s h)
theorem finM (I:SI Y B ρ σ H)(q:PoM Y B (g.bind λt=> .ok (t,ρ)) σ Q):Po Y rC B H g Q:=by
 cases g with
 | bad=>exact q
 | ex c=>exact q
 | ok t=>exact λv H' s r=>q v H' _ (zO.ge I.sB s) (I.grow s) r
def k8 (g:T->T->R T)(fa fb:En->R (T×En)):En->R (T×En):=λρ=>(fa ρ).bind λx=>(fb x.2).bind λy=>(g x.1 y.1).bind λt=> .ok (t,y.2)
theorem z2G {op:Operator}{g:T->T->R T}{fa fb:En->R (T×En)}(ho:OpR X (binaryOp op) (rG Y g))(ha:wD X Y a fa)(hb:wD X Y b fb):wD X Y (.BinOp a op b pos) (k8 g fa fb):= .mk λρ=>
 PE.imp (Ko (tb:=λσ H Q=>∃ρ' B,SI Y B ρ' σ H/\PoM Y B _ σ Q) ho (ha.go ρ) (λpins s σ H Q I ⟨ρ',q⟩=>hb.go ρ' _ s σ H Q I q)) λσ H Q ⟨B,I,q⟩=>WP I q λt ρ1 v H1 B1 _ s1 r1 I1 q1=>⟨ρ1,WP I1 q1 λt' ρ2 v' H2 B2 _ s2 r2 I2 q2=>
  ⟨_,t,t',I2.sB,r1.mono s2,r2,finM I2 q2⟩⟩
def cmM (g:T->T->R Bool)(fa fb:En->R (T×En)):En->R (T×En):=λρ=>(fa ρ).bind λx=>(fb x.2).bind λy=>(g x.1 y.1).bind λb=> .ok (.bl b,y.2)
theorem z2H {op:CmpOp}{g:T->T->R Bool}{fa fb:En->R (T×En)}(nx:Nx g)(ho:OpR X (compareOp op) (wj g))(ha:wD X Y a fa)(hb:wD X Y b fb)(hm:behindInMarks op b=false):wD X Y (.Compare a [op] [b] pos) (cmM g fa fb):= .mk λρ=>
 PE.imp (Y5 (tb:=λσ H Q=>∃ρ' B,SI Y B ρ' σ H/\PoM Y B _ σ Q) ho (ha.go ρ) (λpins s σ H Q I ⟨ρ',q⟩=>hb.go ρ' _ s σ H Q I q) hm) λσ H Q ⟨B,I,q⟩=>WP I q λt ρ1 v H1 B1 _ s1 r1 I1 q1=>⟨ρ1,WP I1 q1 λt' ρ2 v' H2 B2 _ s2 r2 I2 q2=>by
  cases e:g t t' with
  | bad=>rw[e]at q2;exact q2.elim
  | ex c=>exact absurd e (nx _ _ _)
  | ok b=>
   rw[e]at q2;exact⟨t,t',b,(r1.mono s2).mono I2.sB,r2.mono I2.sB,e,q2 _ H2 B2 (zr.refl _) I2 (.bl b)⟩⟩
def K1 (f:En->R (T×En)):En->RS:=λρ=>(f ρ).s λp=> .rt p.1
theorem Gv {f:En->R (T×En)}(h:wD X Y a f):jV X Y (.Return (some a) pos) (K1 f):= .mk λρ=>PS.imp (Wo (h.go ρ)) λD σ H ⟨B,I,q⟩=>⟨B,I,by
 unfold K1 at q;revert q;cases f ρ with
 | bad=>exact λq=>q
 | ex c=>exact λq=>q
 | ok p=>
  intro q v H' B' s I' r;exact q v H' I'.sH (r.mono (by have:=Ub I'.sH I'.old (zr.refl H') I'.sB;rw[zO.self _ _ I'.sB]at this;exact this))⟩
end
section
end
end PV
namespace PV
open PySem PySem.Spec PyProof.Rows L2
structure Fn (K:aa) (mg:Str->Option Value) (x:Str) (st:Stmt) (ps:List Str) (f:Addr) (fd:FuncData):Prop where
 F:Fun K x x st f fd
 b:L2.Binds K fd ps []
 m:mg x=some (.ref f)
structure FnO (K:aa) (x qual:Str) (st:Stmt) (ps:List Str) (f:Addr) (fd:FuncData) (C:Addr):Prop where
 F:Fun K x qual st f fd
 b:L2.Binds K fd ps []
 m:L2.Meth K C x f
noncomputable abbrev FE (K:aa)(mg:Str->Option Value)(x:Str)(st:Stmt)(ps:List Str):Prop:=∃f fd,Fn K mg x st ps f fd
noncomputable abbrev FM (K:aa)(cl:Nat->Value)(c:Nat)(x:Str)(st:Stmt)(ps:List Str):Prop:=∃C qual f fd,cl c= .ref C/\FnO K x qual st ps f fd C
noncomputable abbrev FI (K:aa)(mg:Str->Option Value)(cl:Nat->Value)(c:Nat)(y:Str)(st:Stmt)(ps:List Str):Prop:=∃C qual f fd,cl c= .ref C/\mg y=some (.ref C)/\L2.Mk K C f/\FnO K "__init__" qual st ps f fd C
structure Zz where
 P:Program
 w:World
 K:aa
 mg:Str->Option Value
 base:Heap
 cl:Nat->Value
structure QQ (x:Str) (CX:CXT) (k:Nat) (sp:Sp) (Z:Zz):Prop where
 ex:∃st ps f fd,Fn Z.K Z.mg x st ps f fd/\jq Z.P Z.w Z.K Z.mg Z.base CX k f fd ps sp
structure CA (c:Nat) (as:List Str) (K:aa) (cl:Nat->Value):Prop where
 ex:∃C,cl c= .ref C/\L2.Cls K C/\∀f,as.contains f=true->L2.NoAttr K C f
structure QM (x:Str) (c k:Nat) (sp:Sp) (Z:Zz):Prop where
 ex:∃C qual st ps f fd,Z.cl c= .ref C/\L2.Cls Z.K C/\FnO Z.K x qual st ps f fd C/\jq Z.P Z.w Z.K Z.mg Z.base (CX1 Z.P Z.w) k f fd ps sp
structure QI (y:Str) (c k:Nat) (sp:Sp) (Z:Zz):Prop where
 ex:∃C qual st ps f fd,Z.cl c= .ref C/\Z.mg y=some (.ref C)/\L2.Mk Z.K C f/\FnO Z.K "__init__" qual st ps f fd C/\jq Z.P Z.w Z.K Z.mg Z.base (CX1 Z.P Z.w) k f fd ps sp
abbrev qP (Z:Zz)(x:Str)(n k:Nat)(c:List T->R T):Prop:=QQ x CX0 k (spP Z.cl n c) Z
abbrev qM (Z:Zz)(c:Nat)(x:Str)(n k:Nat)(g:List (Str×Fd)->List T->R (T×List (Str×Fd))):Prop:=QM x c k (spM Z.cl c n g) Z
abbrev qO (Z:Zz)(c:Nat)(x:Str)(n k:Nat)(g:List (Str×Fd)->List T->R T):Prop:=QM x c k (spO Z.cl c 0 n g) Z
abbrev qI (Z:Zz)(c:Nat)(x:Str)(n k:Nat)(g:List (Str×Fd)->List T->R (T×List (Str×Fd))):Prop:=QI x c k (spM Z.cl c n g) Z
def oP (m:Nat)(b:En->RS):List T->R T:=λts=>zy (b (en0 m ts))
def oS (m:Nat)(b:En->RS):List T->R T:=λts=>zy (b (enS m ts))
def oM (k j:Nat)(b:En->R (T×En)):List (Str×Fd)->List T->R (T×List (Str×Fd)):=λfs ts=>uM k j (b (enM k j fs ts))
def oO (k m p:Nat)(b:En->RS):List (Str×Fd)->List T->R T:=λfs ts=>zy (b (enO k m fs (ts.take p) (ts.drop p)))
section
variable {P:Program}{w:World}{K:aa}{mg:Str->Option Value}{base:Heap}{cl:Nat->Value}{x:Str}{CX:CXT}{k c:Nat}{sp:Sp}{G:Prop}{as:List Str}
theorem QQ.go (O:QQ x CX k sp ⟨P,w,K,mg,base,cl⟩)(h:∀st ps f fd,Fn K mg x st ps f fd->jq P w K mg base CX k f fd ps sp->G):G:=by
 obtain⟨⟨st,ps,f,fd,C,F⟩⟩:=O;exact h st ps f fd C F
theorem QM.go (O:QM x c k sp ⟨P,w,K,mg,base,cl⟩)(h:∀C q st ps f fd,cl c= .ref C->L2.Cls K C->FnO K x q st ps f fd C->jq P w K mg base (CX1 P w) k f fd ps sp->G):G:=by
 obtain⟨⟨C,q,st,ps,f,fd,e,c,M,F⟩⟩:=O;exact h C q st ps f fd e c M F
theorem QI.go (O:QI x c k sp ⟨P,w,K,mg,base,cl⟩)(h:∀C q st ps f fd,cl c= .ref C->mg x=some (.ref C)->L2.Mk K C f->FnO K "__init__" q st ps f fd C->jq P w K mg base (CX1 P w) k f fd ps sp->G):G:=by
 obtain⟨⟨C,q,st,ps,f,fd,e,g,M,O,F⟩⟩:=O;exact h C q st ps f fd e g M O F
theorem CA.go (A:CA c as K cl)(h:∀C,cl c= .ref C->L2.Cls K C->(∀f,as.contains f=true->L2.NoAttr K C f)->G):G:=by
 obtain⟨⟨C,e,c,n⟩⟩:=A;exact h C e c n
end
section
variable {Z:Zz}{x y:Str}{st:Stmt}{ps:List Str}{c k n m j:Nat}{fb:En->RS}{fm:En->R (T×En)}
abbrev Sc (N ps:List Str)(st:Stmt):Prop:=ZY N ps (zu st)
theorem okP (C:FE Z.K Z.mg x st ps)(N:List Str) (hb:∀(f:Addr) (cdv:Value) (A:Around) (outer:List Env) (s:Shared) (H:Hp) (E:XK) (Y:Fx),Y.cl=Z.cl->True->ZP k (A.deeper (envOfC x (zu st) s.heap.objs.size f cdv))->N.Nodup->True->
   wx (Wv CX0 Z.P Z.w Z.K Z.mg Z.base N x (zu st) f cdv A outer s H E).nox Y (zS st) fb)
  (S:Sc N ps st:=by refine⟨rfl,rfl,rfl, ?_,rfl, ?_, ?_⟩ <;> decide+kernel) (hn:n=ps.length:=by rfl) (hm:m=N.length:=by rfl):qP Z x n (k+1) (oP m fb):=by
 obtain⟨f,fd,C⟩:=C;subst hm;exact⟨_,_,f,fd,C,z2a C.F S hn (λcdv A outer s H E Y hy hr=>hb f cdv A outer s H E Y hy trivial hr S.nd trivial) λ_ _=>rfl⟩
abbrev BM (Z:Zz)(k:Nat)(qual:Str)(st:Stmt)(N:List Str)(G:Cx->Fx->Prop):Prop:=∀(f:Addr) (cdv:Value) (A:Around) (outer:List Env) (s:Shared) (H:Hp) (E:XK) (Y:Fx),Y.cl=Z.cl->Y.E=E->ZP k (A.deeper (envOfC qual (zu st) s.heap.objs.size f cdv))->N.Nodup->Zo (CX1 Z.P Z.w) (Wv (CX1 Z.P Z.w) Z.P Z.w Z.K Z.mg Z.base N qual (zu st) f cdv A outer s H E) Y.E->
   G (Wv (CX1 Z.P Z.w) Z.P Z.w Z.K Z.mg Z.base N qual (zu st) f cdv A outer s H E) Y
theorem okM (ca:CA c as Z.K Z.cl)(C:FM Z.K Z.cl c x st ps)(N:List Str)(hb:∀q,BM Z k q st N λX Y=>xh X Y (zS st) fm)
  (S:Sc N ps st:=by refine⟨rfl,rfl,rfl, ?_,rfl, ?_, ?_⟩ <;> decide+kernel) (hn:ps.length=n+1:=by rfl) (hm:N.length=j+1:=by rfl) (hj:n+1<=j:=by decide):qM Z c x n (k+1) (oM c j fm):=by
 obtain⟨C,q,f,fd,e,M⟩:=C;obtain⟨C',e',cl,_⟩:=ca;rw[e]at e';cases e';exact⟨C,q,_,_,f,fd,e,cl,M,xi M.F S hn hm hj λcdv A outer s H E Y hy hE hr=>hb q f cdv A outer s H E Y hy hE hr S.nd (hE ▸ vI)⟩
theorem okO (ca:CA c as Z.K Z.cl)(C:FM Z.K Z.cl c x st ps)(N:List Str)(hb:∀q,BM Z k q st N λX Y=>wx X Y (zS st) fb)
  (S:Sc N ps st:=by refine⟨rfl,rfl,rfl, ?_,rfl, ?_, ?_⟩ <;> decide+kernel) (hn:ps.length=n+1:=by rfl) (hm:N.length=n+1+m:=by rfl):qO Z c x n (k+1) (oO c m 0 fb):=by
 obtain⟨C,q,f,fd,e,M⟩:=C;obtain⟨C',e',cl,_⟩:=ca;rw[e]at e';cases e';exact⟨C,q,_,_,f,fd,e,cl,M,Gs M.F S hn hm λcdv A outer s H E Y hy hE hr=>hb q f cdv A outer s H E Y hy hE hr S.nd (hE ▸ vI)⟩
theorem okI (C:FI Z.K Z.mg Z.cl c y st ps)(N:List Str)(hb:∀q,BM Z k q st N λX Y=>xh X Y (zS st) fm)
  (S:Sc N ps st:=by refine⟨rfl,rfl,rfl, ?_,rfl, ?_, ?_⟩ <;> decide+kernel) (hn:ps.length=n+1:=by rfl) (hm:N.length=j+1:=by rfl) (hj:n+1<=j:=by decide):qI Z c y n (k+1) (oM c j fm):=by
 obtain⟨C,q,f,fd,e,g,M,O⟩:=C;exact⟨C,q,_,_,f,fd,e,g,M,O,xi O.F S hn hm hj λcdv A outer s H E Y hy hE hr=>hb q f cdv A outer s H E Y hy hE hr S.nd (hE ▸ vI)⟩
theorem okB (C:FE Z.K Z.mg x st ps)(hn:n=ps.length:=by rfl):qP Z x n k (λ_=> .bad):=by
 obtain⟨f,fd,C⟩:=C;exact⟨_,_,f,fd,C,λvs H Q E h=>by rw[← hn];exact spP.len vs H Q E h,λA outer s H args us vs Q E _ _ _ _ ⟨B,ts,_,_,_,q⟩=>q.elim⟩
end
section
variable {Z:Zz}{x:Str}{st:Stmt}{ps:List Str}{k n m:Nat}{fb:En->RS}{f:Addr}{fd:FuncData}
theorem okLS (C:Fn Z.K Z.mg x st ps f fd)(N:List Str) (hb:∀(cdv:Value) (A:Around) (outer:List Env) (s:Shared) (H:Hp) (E:XK) (Y:Fx),Y.cl=Z.cl->Y.E=E->ZP k (A.deeper (envOfC x (zu st) s.heap.objs.size f cdv))->N.Nodup->Zo (CX1 Z.P Z.w) (Wv (CX1 Z.P Z.w) Z.P Z.w Z.K Z.mg Z.base N x (zu st) f cdv A outer s H E) Y.E->
   wx (Wv (CX1 Z.P Z.w) Z.P Z.w Z.K Z.mg Z.base N x (zu st) f cdv A outer s H E) Y (zS st) fb)
  (S:Sc N ps st:=by refine⟨rfl,rfl,rfl, ?_,rfl, ?_, ?_⟩ <;> decide+kernel) (hn:n=ps.length:=by rfl) (hm:m=N.length:=by rfl):jq Z.P Z.w Z.K Z.mg Z.base (CX1 Z.P Z.w) (k+1) f fd ps (spP Z.cl n (oS m fb)):=by
 subst hm;exact k7 C.F S hn (λcdv A outer s H E Y hy hE hr=>hb cdv A outer s H E Y hy hE hr S.nd (hE ▸ vI)) λ_ _=>rfl
end
section
theorem cZ (hy:Y.cl=cl)(O:QQ x CX0 j (spP cl n g) ⟨X.prog,X.w,X.K,X.mg,X.base,cl⟩)(hr:ZP k X.A)(ha:uq X Y (a :: es) ga)(hj:j<=k:=by omega)(gl:Gl X x:=by rfl)(hd:(x == ("__debug__":Str))=false:=by decide)
  (hs:starEach (a :: es) X.env=(false,eval a X.env) :: starEach es X.env:=by exact zR rfl) (hz:((backTo pos (starEach es X.env)).any λx=>x.fst)=false:=by exact Zm rfl):Snd X Y (.Call (.Name x p) (a :: es) [] pos) (za n g ga):=
 O.go λ_ _ _ _ C F=>Xs hy F hr hj gl C.m C.F.kp C.b ha hd hs hz
end
noncomputable def nms (N:List Str)(js:List Nat):List Str:=js.map λj=>N.getD j ""
noncomputable def ndB:List Str->Bool
 | []=>true
 | x :: r=> !(r.contains x) && ndB r
theorem WQ:∀{l:List Str},ndB l=true->l.Nodup
 | [],_=> .nil
 | x :: r,h=>by
  rw[ndB,ag]at h;exact cX.mpr ⟨by simpa using h.1,WQ h.2⟩
def z0N (N N' :List Str)(sc0 scope:Scope)(k:Nat)(js:List Nat):Bool:=(z0H scope sc0 && kW N N' scope sc0 k js) && ndB N'
section
variable {cl:Nat->Value}{X:Cx}{Y:Fx}{x y:Str}{p p' p2:Pos}{kk:Nat}{iter elt:Expr}{ifs:List Expr}{scope:Scope}{js:List Nat}{fi:En->R (List T)}{ft:En->R Bool}{fe:En->R T}
theorem cr1 (hy:Y.cl=cl)(h:z0N X.N (x :: nms X.N js) X.env.scope scope 1 js=true)(hx:((relabel scope X.env).names.lookup x == some .local)=true)(cm:X.calm=true)(it:Wm X Y (.Name x p) iter fi)(tt:∀Y',Y'.cl=cl->VW X scope (x :: nms X.N js) λXC=>Jm XC Y' ifs ft)
  (el:∀Y',Y'.cl=cl->gy X scope (x :: nms X.N js) Y'.E λXC=>Snd XC Y' elt fe) (hs:∀x,foldedSetIterable iter X.env x=pure x:=by intro _;rfl):wz X Y (.Name x p) iter elt ifs scope (x :: nms X.N js) 1 js fi (wk 0) (zI 0) ft fe:=by
 subst hy;rw[z0N,ag]at h;have hx:(relabel scope X.env).names.lookup x=some .local:=eq_of_beq hx;exact VY _ _ _ rfl rfl h.1 cm it (λ_ _ _ _ _ _=>ju (WQ h.2) rfl (.inl hx) (.inr hx)) (Uf 0) (Uh 0) tt el hs
theorem cr2 (hy:Y.cl=cl)(h:z0N X.N (x :: y :: nms X.N js) X.env.scope scope 2 js=true)(hx:((relabel scope X.env).names.lookup x == some .local && (relabel scope X.env).names.lookup y == some .local)=true)(cm:X.calm=true)(it:Wm X Y (.Tuple [.Name x p,.Name y p'] kk p2) iter fi)(tt:∀Y',Y'.cl=cl->VW X scope (x :: y :: nms X.N js) λXC=>Jm XC Y' ifs ft)
  (el:∀Y',Y'.cl=cl->gy X scope (x :: y :: nms X.N js) Y'.E λXC=>Snd XC Y' elt fe) (hs:∀x,foldedSetIterable iter X.env x=pure x:=by intro _;rfl):wz X Y (.Tuple [.Name x p,.Name y p'] kk p2) iter elt ifs scope (x :: y :: nms X.N js) 2 js fi (z0B X.K 2 (yY (wk 0) (yY (wk 1) z1p))) (Zq 0 1) ft fe:=by
 subst hy;rw[z0N,ag]at h;rw[ag]at hx;have h1:(relabel scope X.env).names.lookup x=some .local:=eq_of_beq hx.1;have h2:(relabel scope X.env).names.lookup y=some .local:=eq_of_beq hx.2;exact VY _ _ _ rfl rfl h.1 cm it (λ_ _ _ _ _ _=>VJ cm (Jo (ju (WQ h.2) rfl (.inl h1) (.inr h1)) (Jo (ju (WQ h.2) rfl (.inl h2) (.inr h2)) yZ))) (vT _ 0 1) (vU 0 1) tt el hs
end
end PV
namespace L2
open PySem PySem.Spec PyProof.Rows
section
theorem Inv.virt (I:Inv X pins σ H s)(hq:X.N[q]? =some x)(hv:X.env.scope.names.lookup x=none)(v:Option V):Inv X pins (σ.set q v) H s:=
 { I with
  loc:=let ⟨m,hn,hl⟩:=I.loc;⟨m,hn,λi y u e1 e2 e3=>by
   by_cases h:i=q
   ·subst h;rw[hq]at e1;cases e1;unfold Vis at e3;rw[hv]at e3;rcases e3 with z | z | z <;> cases z
   ·rw[ay (aS h)]at e2;exact hl i y u e1 e2 e3⟩
  len:=by rw[aE];exact I.len }
theorem Vi {α:Type}{l:List α}{x a:α}(h:l[q]? =some a):(l.set q x).set q a=l:=by
 rw[List.set_set];obtain⟨hq,rfl⟩:=ai.mp h;exact List.set_getElem_self hq
theorem qF (ha:PE X e te)(hr:PA X es t)(hq:X.N[q]? =some x)(hv:X.env.scope.names.lookup x=none)(hs:starEach (e :: es) X.env=(false,eval e X.env) :: starEach es X.env):
  PA X (e :: es) (λσ H Q=>te σ H λv H1=>t (σ.set q (some v)) H1 λvs H2=>Q (v :: vs) H2):=by
 intro pos pins s σ H Q I h;rw[hs];show wpAny _ _ (spliced ((false,eval e X.env) :: backTo pos (starEach es X.env))) _ _ s;refine dQ (thn (ha pins s σ H _ I h) λu s1 ⟨x,H1,I1,r1,q1⟩=> ?_);refine thn (hr pos pins s1 _ H1 _ (I1.virt hq hv (some x)) q1) λus s2 ⟨xs,H2,I2,r2,q2⟩=>⟨x :: xs,H2, ?_,.cons r1 r2,q2⟩;have hl:q < σ.length:=by rw[I.len];exact(ai.mp hq).1
 have:=I2.virt hq hv σ[q];rw[Vi (ae hl)]at this;exact this
end
end L2
namespace PV
open PySem PySem.Spec PyProof.Rows L2 PySem.W
section
theorem SI.cpO (I:SI Y B ρ σ H){q k n:Nat}{a:Addr}(h:ρ[q]? =some (.ob k n))(ha:σ[q]? =some (some (V.ref a)))(i:Nat):SI Y B (ρ.set i (.ob k n)) (σ.set i (some (V.ref a))) H:=by
 have get:∀{j:Nat} {y:Sl},(ρ.set i (.ob k n))[j]? =some y->(∀a b,y ≠ .ob a b)->ρ[j]? =some y/\(σ.set i (some (V.ref a)))[j]? =σ[j]? :=λ{j y} h hy=>by
  rcases zq h with ⟨_,z⟩ | ⟨e,z⟩
  ·exact absurd z (hy _ _)
  ·exact⟨z,ay (aS e)⟩
 have no:∀b,uA ρ σ b->uA (ρ.set i (.ob k n)) (σ.set i (some (V.ref a))) b:=λb hb j us hw=>by
  obtain⟨e1,e2⟩:=get hw (λ_ _=>Sl.noConfusion);rw[e2];exact hb j us e1
 obtain⟨as,O,x⟩:=I.st;refine⟨I.s0,I.sH,I.sB,I.old,by rw[aE,aE];exact I.len,λj t e=> ?_,λj ts e=> ?_,λj c e=> ?_,as,O,x.pre,λj os e=>x.len j os (get e (λ_ _=>Sl.noConfusion)).1,λj j' os os' e e' =>x.one j j' os os' (get e (λ_ _=>Sl.noConfusion)).1 (get e' (λ_ _=>Sl.noConfusion)).1,λj k' n' e=> ?_,λj k' fs e=> ?_,λj os e m k' fs e' => ?_⟩
 ·obtain⟨e1,e2⟩:=get e (λ_ _=>Sl.noConfusion);rw[e2];exact I.vl j t e1
 ·obtain⟨e1,e2⟩:=get e (λ_ _=>Sl.noConfusion);obtain⟨b,xs,y1,y2,y3,y4,y5,y6⟩:=I.ow j ts e1;refine⟨b,xs,by rw[e2];exact y1,y2,y3,y4,y5,λj' us hj hw=> ?_⟩
  obtain⟨e3,e4⟩:=get hw (λ_ _=>Sl.noConfusion);rw[e4];exact y6 j' us hj e3
 ·obtain⟨e1,e2⟩:=get e (λ_ _=>Sl.noConfusion);rw[e2];exact I.xc j c e1
 ·rcases zq e with ⟨rfl,z⟩ | ⟨hj,z⟩
  ·cases z;obtain⟨a',C,dx,vs,y1,y2,y3⟩:=x.ob q k n h;rw[ha]at y2;cases y2;exact⟨a,C,dx,vs,y1,aT (by rw[← I.len];exact WG e),y3⟩
  ·rw[ay (aS hj)];exact x.ob j k' n' z
 ·obtain⟨e1,e2⟩:=get e (λ_ _=>Sl.noConfusion);rw[e2];exact x.oc j k' fs e1
 ·obtain⟨b,C,dx,vs,y1,y2,y3,y4,y5,y6,y7,y8⟩:=x.st j os (get e (λ_ _=>Sl.noConfusion)).1 m k' fs e';refine⟨b,C,dx,vs,y1,y2,y3,y4,y5,y6,y7,λm' f d z=> ?_⟩;obtain⟨v,x1,x2⟩:=y8 m' f d z;refine⟨v,x1, ?_⟩;cases d with
  | tv t=>exact x2
  | tl ts=>
   obtain⟨l,xs,p1,p2,p3,p4,p5,p6,p7⟩:=x2;exact⟨l,xs,p1,p2,p3,p4,p5,no l p6,p7⟩
end
def mkA (q j k nn:Nat)(g:List (Str×Fd)->List T->R (T×List (Str×Fd)))(ga:En->R (List T)):En->R En:=λρ=>(ga ρ).bind λts=>if ts.length=nn/\q ≠ j/\q < ρ.length then (match ρ[j]? with
 | some (.st os)=>(match g [] ts with
  | .ok (.non,fs)=> .ok ((ρ.set j (.st (os++[(k,fs)]))).set q (.ob k os.length))
  | .ex c=> .ex c
  | _=> .bad)
 | _=> .bad) else .bad
end PV
namespace PV
open PySem PySem.Spec PyProof.Rows L2
end PV
namespace PV
open PySem PySem.Spec PyProof.Rows L2 PySem.W
section
variable {X:Cx}{pins:List (Addr×Obj)}{σ:L2.St}{H0:Hp}{l q I D:Addr}{xs:List V}{R:Result->Shared->Prop}
theorem qG {xs:List V}{us:List Value}{i:Nat}{u:Value}(r:zX xs us)(e:us[i]? =some u):∃x,xs[i]? =some x/\Z4 x u:=by
 have hi:=(ai.mp e).1;rw[← r.length]at hi;obtain⟨u',e',r'⟩:=r.get (ae hi);rw[e]at e';cases e';exact⟨_,ae hi,r'⟩
end
section
end
section
variable {js:List Nat}
theorem cd1 (hc:scope.names.lookup x=some .cell)(hy:Y.cl=cl)(h:((z0L scope X.env.scope && kW X.N (x :: nms X.N js) scope X.env.scope 1 js) && ndB (x :: nms X.N js))=true)(hx:((relabel scope X.env).names.lookup x == some .cell)=true)(cm:X.calm=true)(it:Wm X Y (.Name x p) iter fi)(tt:∀Y',Y'.cl=cl->zr Y.H0 Y'.H0->qz X scope (x :: nms X.N js) λXC=>Jm XC Y' ifs ft)
  (el:∀Y',Y'.cl=cl->zr Y.H0 Y'.H0->qz X scope (x :: nms X.N js) λXC=>Snd XC Y' elt fe) (hs:∀x,foldedSetIterable iter X.env x=pure x:=by intro _;rfl):uL X Y (.Name x p) iter elt ifs scope (x :: nms X.N js) 1 js fi (wk 0) (zI 0) ft fe:=by
 subst hy;rw[ag]at h;have h1:(relabel scope X.env).names.lookup x=some .cell:=eq_of_beq hx;exact k0 _ _ _ rfl rfl h.1 cm it (λ_ _ _ _ _ _=>ju (WQ h.2) rfl (.inr h1) (.inl (by show (scope.names.lookup x == some .cell)=true;rw[hc];rfl))) (Uf 0) (Uh 0) tt el hs
end
def PoW (Y:Fx)(B:Hp)(q:Nat)(r:R En)(σ:Sg)(Q:VK):Prop:=match r with
 | .ok ρ' =>∀a H' B' k n,zr B B' ->SI Y B' ρ' (σ.set q (some (V.ref a))) H' ->ρ'[q]? =some (.ob k n)->Q (.ref a) H'
 | .ex c=>XP Y B c
 | .bad=>False
theorem PoW.up {r:R En}(s:zr B B')(h:PoW Y B q r σ Q):PoW Y B' q r σ Q:=by
 cases r with
 | ok ρ=>exact λa H' B2 k n s2=>h a H' B2 k n (s.trans s2)
 | ex c=>exact λd H' z1 z2=>h d H' z1 (s.trans z2)
 | bad=>exact h
def tW (Y:Fx)(q:Nat)(m:En->R En)(ρ:En):TE:=λσ H Q=>∃B,SI Y B ρ σ H/\PoW Y B q (m ρ) σ Q
structure Vj (X:Cx) (Y:Fx) (e:Expr) (q:Nat) (m:En->R En):Prop where
 go:∀ρ,PE X e (tW Y q m ρ)
section
theorem q_mk {g:List (Str×Fd)->List T->R (T×List (Str×Fd))}(hy:Y.cl=cl)(hc:cl k= .ref C)(M:L2.Mk X.K C f)(F:jq X.prog X.w X.K X.mg X.base (CX1 X.prog X.w) kj f fd ps (spM cl k nn g))(hr:ZP kk X.A)(hj:kj+1<=kk)(gl:Gl X c)(mg:X.mg c=some (.ref C))(bd:L2.Binds X.K fd ps [])(hp:Zo (CX1 X.prog X.w) X Y.E)(ha:uq X Y (a :: es) ga)
  (hd:(c == ("__debug__":Str))=false:=by decide) (hst:starEach (a :: es) X.env=(false,eval a X.env) :: starEach es X.env:=by exact zR rfl) (hpl:((backTo pos' (starEach es X.env)).any λx=>x.fst)=false:=by exact Zm rfl):
  Vj X Y (.Call (.Name c pc) (a :: es) [] pos') q (mkA q j k nn g ga):= .mk λρ=>by
 refine PE.imp (xN M F (hr.mono hj) gl mg bd .nil hp (ha ρ) hd hst hpl) λσ H Q ⟨B,I,po⟩=> ?_;generalize em:mkA q j k nn g ga ρ=mr at po;have em' :=em;unfold mkA at em';refine⟨B,I, ?_⟩;cases eg:ga ρ with
 | bad=>rw[eg]at em';subst em';exact po
 | ex c=>rw[eg]at em';subst em';exact po
 | ok ts=>
  rw[eg]at em';intro vs H1 s1 r1;have I1:=I.grow s1;have po1:=po.up (zO.ge I.sB s1);have em' :(if ts.length=nn/\q ≠ j/\q < ρ.length then (match ρ[j]? with
   | some (.st os)=>(match g [] ts with
    | .ok (.non,fs)=> .ok ((ρ.set j (.st (os++[(k,fs)]))).set q (.ob k os.length))
    | .ex c=> .ex c
    | _=> .bad)
   | _=> .bad) else .bad:R En)=mr:=em'
  subst hy;split at em'
  ·rename_i hn;intro y0 dx h1 h2 h3;rw[aW];split at em'
   ·rename_i os ej;have sd:zr H1 (upd H1 dx (.own y0)):=zr.new h2 _;have hy0:upd H1 dx (.own y0) y0=none:=by rw[zv (aS h3)];exact h1
    refine⟨y0,vs,ts,_,upd H1 dx (.own y0),[],rfl,hn.1,I1.sB.trans sd,zr.new hy0 _,⟨C,dx,[],λ_=>some 0,hc,zA,I1.sB.free h1,hy0,rfl,⟨rfl,λ_ _=>rfl⟩,λm f d z=>by cases z⟩,r1, ?_⟩
    revert em';cases g [] ts with
    | bad=>exact λe=>by subst e;exact po1
    | ex c2=>exact λe=>by subst e;exact λd H' z1 z2=>po1 d H' ((I1.sH.trans sd).trans z1) z2
    | ok p=>
     obtain⟨t,fs2⟩:=p;cases t with
     | non=>
      intro e v H' B' z1 z2 z3 z4 z5 z6;cases z6;refine⟨rfl, ?_⟩;have em2:mr= .ok ((ρ.set j (.st (os++[(k,fs2)]))).set q (.ob k os.length)):=e.symm;subst em2;have S1:=I1.made (i:=q) ej hn.2.1 hn.2.2 sd z1 z2 z3 z4 z5;exact(po1.up z2) y0 H' B' k os.length (zr.refl _) S1 (aT (by rw[aE];exact hn.2.2))
     | _=>exact λe=>by subst e;exact po1.elim
   ·subst em';exact po1.elim
  ·subst em';exact po1.elim
def WR (i i2 q q2:Nat)(m m2:En->R En):En->RS:=λρ=>(m ρ).s λρ1=>(m2 ρ1).s λρ2=>match ρ2[q]?,ρ2[q2]? with
 | some (.ob k n),some (.ob k' n')=> .nx ((((ρ2.set i (.ob k n)).set i2 (.ob k' n')).set q .un).set q2 .un)
 | _,_=> .bad
theorem set6 {α:Type}(l:List α)(a b:α)(h1:q ≠ i)(h2:q ≠ i2)(h3:q2 ≠ i)(h4:q2 ≠ i2)(h5:q ≠ q2){u v:α}(hq:l[q]? =some u)(hq2:l[q2]? =some v):(((((l.set q a).set q2 b).set i a).set i2 b).set q u).set q2 v=(l.set i a).set i2 b:=by
 apply cI
 intro n;simp only[List.getElem?_set]
 by_cases n1:q2=n
 ·subst n1;simp only[aE,if_pos rfl,if_neg (aS h4),if_neg (aS h3)];rw[hq2,if_pos (ai.mp hq2).1];exact if_pos trivial
 ·by_cases n2:q=n
  ·subst n2;simp only[aE,if_pos rfl,if_neg n1,if_neg (aS h1),if_neg (aS h2)];rw[hq,if_pos (ai.mp hq).1];exact if_pos trivial
  ·simp only[aE,if_neg n1,if_neg n2]
theorem Vk {m m2:En->R En}(hc' :X.calm=true)(hN:X.N.Nodup)(hi:X.N[i]? =some x)(hi2:X.N[i2]? =some y)(hij:i ≠ i2)(hx:X.env.scope.names.lookup x=some .local)(hy' :X.env.scope.names.lookup y=some .local)(hq:X.N[q]? =some w)(hw' :X.env.scope.names.lookup w=none)(hq2:X.N[q2]? =some w2)(hw2:X.env.scope.names.lookup w2=none)(hqq:q ≠ q2)
  (ha:Vj X Y a q m) (hb:Vj X Y b q2 m2) (hs:swappedStores [.Tuple [.Name x px,.Name y py] kt pt] (.Tuple [a,b] k2 pt2) X.env=pure (some [x,y])) (hs3:starEach [a,b] X.env=(false,eval a X.env) :: starEach [b] X.env:=by exact zR rfl) (hs4:starEach [b] X.env=(false,eval b X.env) :: starEach [] X.env:=by exact zR rfl)
  (hw:swapsWithSole [.Tuple [.Name x px,.Name y py] kt pt] (.Tuple [a,b] k2 pt2) pos.line X.env=pure false:=by rfl):
  jV X Y (.Assign [.Tuple [.Name x px,.Name y py] kt pt] (.Tuple [a,b] k2 pt2) pos) (WR i i2 q q2 m m2):= .mk λρ=>by
 have hrest:PA X [b] (match m ρ with | .ok ρ1=>(λσ H Q=>tW Y q2 m2 ρ1 σ H λv H1=>Q [v] H1) | _=>λ_ _ _=>False):=by
  cases m ρ with
  | ok ρ1=>exact qF (hb.go ρ1) zQ hq2 hw2 hs4
  | ex c=>exact λ_ _ _ _ _ _ _ h=>h.elim
  | bad=>exact λ_ _ _ _ _ _ _ h=>h.elim
 refine PS.imp (Kl hc' hN hi hi2 hij hx hy' (qF (ha.go ρ) hrest hq hw' hs3) hs hw) λD σ H ⟨B,I,po⟩=>⟨B,I, ?_⟩;have nq:∀{i' q' :Nat} {x' w' :Str},X.N[q']? =some w' ->X.env.scope.names.lookup w' =none->X.N[i']? =some x' ->X.env.scope.names.lookup x' =some .local->q' ≠ i' :=λh0 h0' h1 h2 e=>by
  subst e;rw[h0]at h1;cases h1;rw[h0']at h2;cases h2
 unfold WR at po;revert po;cases e1:m ρ with
 | bad=>exact λpo=>po
 | ex c=>exact λpo=>po
 | ok ρ1=>
  intro po a1 H1 B1 k1 n1 sB1 I1 g1;refine⟨B1,I1, ?_⟩;have po:=PoS.up sB1 po;revert po;show PoS Y B1 ((m2 ρ1).s _) D->_;cases e2:m2 ρ1 with
  | bad=>exact λpo=>po
  | ex c=>exact λpo=>po
  | ok ρ2=>
   intro po a2 H2 B2 k2 n2 sB2 I2 g2;have po:=PoS.up sB2 po;revert po;show PoS Y B2 (match ρ2[q]?,ρ2[q2]? with | some (.ob k n),some (.ob k' n')=> .nx ((((ρ2.set i (.ob k n)).set i2 (.ob k' n')).set q .un).set q2 .un) | _,_=> .bad) D->_
   rw[g2];split
   ·rename_i k n k' n' g1' g2';cases g2';intro po;refine⟨_,_,rfl, ?_⟩;have hl2:q2 < σ.length:=by
     have:=I2.len;rw[aE,aE]at this;have:=(ai.mp g2).1;omega
    have hl1:q < σ.length:=by
     have:=I2.len;rw[aE,aE]at this;have:=(ai.mp g1').1;omega
    have v1:((σ.set q (some (V.ref a1))).set q2 (some (V.ref a2)))[q]? =some (some (V.ref a1)):=by rw[ay (aS hqq),aT hl1]
    have v2:(((σ.set q (some (V.ref a1))).set q2 (some (V.ref a2))).set i (some (V.ref a1)))[q2]? =some (some (V.ref a2)):=by rw[ay (aS (nq hq2 hw2 hi hx)),aT (by rw[aE];exact hl2)]
    have g3:(ρ2.set i (.ob k n))[q2]? =some (.ob k2 n2):=by rw[ay (aS (nq hq2 hw2 hi hx))];exact g2
    have J:=(((I2.cpO g1' v1 i).cpO g3 v2 i2).forget q σ[q]).forget q2 σ[q2];rw[set6 σ _ _ (nq hq hw' hi hx) (nq hq hw' hi2 hy') (nq hq2 hw2 hi hx) (nq hq2 hw2 hi2 hy') hqq (ae hl1) (ae hl2)]at J;exact po _ _ _ (zr.refl _) J
   ·exact λpo=>po.elim
end
section
end
section
theorem Vl (I:SI Y B ρ σ H)(h:obL k i j ρ=some fs)(hl:fs.lookup f=some (.tl ts)):∃a C dx vs l xs,σ[i]? =some (some (V.ref a))/\Y.cl k= .ref C/\H a=some (.ins C dx vs)/\vs.lookup f=some (.ref l)/\H l=some (.lst xs)/\zF B xs ts:=by
 obtain⟨a,C,dx,vs,e1,e2,e3,e4,e5⟩:=I.obL h;obtain⟨m',v,z1,z2,z3⟩:=W5 (λm g e he=>let ⟨v,z,_⟩:=e5 m g e he;⟨v,z⟩) hl;obtain⟨v',y1,l,xs,rfl,y3,y4⟩:=e5 m' _ _ z1;rw[z2]at y1;cases y1;exact⟨a,C,dx,vs,l,xs,e1,e2,e3,z3,y3,y4⟩
def lsV (k i j:Nat)(f:Str):En->Option (List T):=λρ=>match obL k i j ρ with
 | some fs=>(match fs.lookup f with
  | some (.tl ts)=>some ts
  | _=>none)
 | none=>none
theorem Gw (I:SI Y B ρ σ H)(h:lsV k i j f ρ=some ts):∃a C dx vs l xs,σ[i]? =some (some (V.ref a))/\Y.cl k= .ref C/\H a=some (.ins C dx vs)/\vs.lookup f=some (.ref l)/\H l=some (.lst xs)/\zF B xs ts:=by
 unfold lsV at h;split at h
 ·rename_i fs e;split at h
  ·rename_i us el;cases h;exact Vl I e el
  ·cases h
 ·cases h
def fldV (k i j:Nat)(f:Str):En->R T:=λρ=>match lsV k i j f ρ with
 | some ts=> .ok (.lst ts)
 | none=> .bad
def ixV (k i j:Nat)(f:Str)(fb:En->R T):En->R T:=λρ=>match lsV k i j f ρ with
 | some ts=>(fb ρ).bind λt=>match t with
  | .int q=>atT ts q
  | _=> .bad
 | none=> .bad
theorem z2I (hv:PE X (.Name x px) (wg i))(hc:Y.cl k= .ref C)(c:L2.Cls X.K C)(n:L2.NoAttr X.K C f)(hb:Snd X Y b fb)(hbf:attributeBase (.Name x px) f X.env (eval (.Name x px) X.env)=eval (.Name x px) X.env:=by rfl)(hs:jR b:=by exact λ_ _=>rfl):Snd X Y (.Subscript (.Attribute (.Name x px) f p) b pos) (ixV k i j f fb):= .mk λρ=>
 PE.imp (ym Ww (U7 hv hbf) (hb ρ) hs) λσ H Q ⟨B,I,q⟩=>by
  unfold ixV at q;split at q
  ·rename_i ts e;obtain⟨a,C',dx,vs,l,xs,e1,e2,e3,e4,hh,rr⟩:=Gw I e;rw[hc]at e2;cases e2;refine⟨.ref a,e1,a,C,dx,vs,_,rfl,e3,c,n,e4,step I q λt' v' H2 _ s2 r2 I2 q2=> ?_⟩;cases r2 with
   | int j=>
    have q2:Po Y rC _ H2 (atT ts j) Q:=q2;unfold atT at q2;split at q2
    ·rename_i t e8;obtain⟨w,e9,e10⟩:=JJ (rr.mono (zO.ge I.sB s2)) e8;exact .inl ⟨_,xs,j,w,rfl,rfl,SqL.of (s2 _ _ hh),e9,po0 I2.sB q2 rfl e10⟩
    ·exact q2.elim
   | _=>exact q2.elim
  ·exact q.elim
end
section
variable {X:Cx}{pins:List (Addr×Obj)}{σ:L2.St}{H:Hp}{l I D:Addr}{xs:List V}{R:Result->Shared->Prop}
theorem k9 (bt:Nat->Nat->Bool)(hh:X.A.handled=none)(hl:∀s,Inv X pins σ H s->∃its:List Value,zX xs its/\s.heap.IsList l its.toArray)(hlI:l ≠ I)(hDI:D ≠ I)(fI:Jp X pins H I)(fD:Jp X pins H D)
  (cmp:∀(i j:Nat) (x y:V) (u v:Value),xs[i]? =some x->xs[j]? =some y->Z4 x u->Z4 y v->∀(s:Shared) (Q E:Value->Shared->Prop),Inv X pins σ H s->Q (.bool (bt i j)) s->wpAny (model X.prog X.w) X.A.in1 (richCompare .Lt u v) Q E s)
  (hR:∀(x:V) (v:Value) s,xs[argBest bt (xs.length - 1)]? =some x->Z4 x v->Inv X pins σ H s->R (.ok (.ret v)) s):
  ∀(r j:Nat) (s:Shared) (xb:V) (vb:Value) (c:Nat),xs.length - (j+1)=r->j+1<=xs.length->Inv X pins σ H s->
   s.heap.get? D=some (seqObj "list" #[vb,vb] c)->s.heap.IsListIter I l (j+1)->xs[argBest bt j]? =some xb->Z4 xb vb->
   codeAny (model X.prog X.w) X.A (.builtin "min.loop" ⟨[.ref I,.none,.ref D],[]⟩) R s:=by
 have hname:(toString "min"++toString ".loop":String)="min.loop":=by decide
 have hI:=fI.1;have hD:=fD.1;intro r
 induction r with
 | zero=>
  intro j s xb vb c hr hj J gD hit hvb rb;obtain⟨its,rv,hls⟩:=hl _ J;have W:=dX (prog:=X.prog) (w:=X.w) (A:=X.A.in1) hh I l hlI its.toArray;have hsz:its.toArray.size=xs.length:=by rw[aC,rv.length]
  have hin:j+1=xs.length:=by omega
  refine bv dm ?_;rw[cK bx _];show wpAny _ X.A.in1 (seqItems? (.ref D) >>= _) _ _ _;refine a7 (bq gD rfl ?_);show wpAny _ X.A.in1 (tryCatch (pyNext (.ref I)) _ >>= _) _ _ _;refine a7 (wpAny_tryCatch (W.done _ _ _ ⟨by rw[hsz,← hin];exact hit,hls⟩ λh' tk' hk' => ?_))
  have J1:=J.turned (t' :=tk') (λb o n e=>hk' b o (by simpa using n) e) hI fI.2.1 fI.2.2.2.1 fI.2.2.2.2.1 fI.2.2.2.2.2
  have gD' :=hk' D _ (by simpa using hDI) gD
  show wpAny _ X.A.in1 (updateSeq D (λ_=> #[]) >>= _) _ _ _;refine a7 (wpAny_updateSeq gD' rfl (a7 (d6 (aq ?_))));exact hR xb vb _ (by rw[← hin];exact hvb) rb (J1.turned (it:=D) (λb o n e=>(bE _ _ (aS n)).trans e) hD fD.2.1 fD.2.2.2.1 fD.2.2.2.2.1 fD.2.2.2.2.2)
 | succ r ih=>
  intro j s xb vb c hr hj J gD hit hvb rb;obtain⟨its,rv,hls⟩:=hl _ J;have W:=dX (prog:=X.prog) (w:=X.w) (A:=X.A.in1) hh I l hlI its.toArray;have hsz:its.toArray.size=xs.length:=by rw[aC,rv.length]
  have hlt:j+1 < xs.length:=by omega
  refine bv dm ?_;rw[cK bx _];show wpAny _ X.A.in1 (seqItems? (.ref D) >>= _) _ _ _;refine a7 (bq gD rfl ?_);show wpAny _ X.A.in1 (tryCatch (pyNext (.ref I)) _ >>= _) _ _ _;refine a7 (wpAny_tryCatch (W.item (j+1) _ _ _ (by rw[hsz];exact hlt) ⟨hit,hls⟩ λv h' tk' hP hst' hk' => ?_))
  obtain⟨x,hv,rx⟩:=qG rv (show its[j+1]? =some v by simpa using hP)
  have J1:=J.turned (t' :=tk') (λb o n e=>hk' b o (by simpa using n) e) hI fI.2.1 fI.2.2.2.1 fI.2.2.2.2.1 fI.2.2.2.2.2
  have gD' :=hk' D _ (by simpa using hDI) gD
  show wpAny _ X.A.in1 (tryCatch (holding [v,v] (richCompare .Lt v vb >>= _)) _ >>= _) _ _ _;refine a7 (wpAny_tryCatch (bQ (a7 (cmp (j+1) (argBest bt j) x xb v vb hv hvb rx rb _ _ _ J1 ?_))));refine a7 (bQ (aY ?_));refine a7 (d6 (aq ?_));cases hb' :bt (j+1) (argBest bt j) with
  | true=>
   obtain⟨c2,hc2⟩:∃c2,(h'.update D (iR λ_=> #[v,v])).get? D=some (seqObj "list" #[v,v] c2):=⟨_,get?_update_seq gD' λ_=> #[v,v]⟩;simp only[if_true];refine a7 ?_;refine wpAny_updateSeq gD' rfl (a7 (d6 ?_));rw[hname];obtain⟨oI',hoI',hoc,hod⟩:=id hst'.1;refine aq ⟨bJ bx _,ih (j+1) _ x v c2 (by omega) hlt (J1.turned (it:=D) (λb o n e=>(bE _ _ (aS n)).trans e) hD fD.2.1 fD.2.2.2.1 fD.2.2.2.2.1 fD.2.2.2.2.2) hc2 ⟨oI',(bE _ _ hDI).trans hoI',hoc,hod⟩ ?_ rx⟩
   simp only[argBest,hb',if_true];exact hv
  | false=>
   simp only[aN,if_false];refine a7 (d6 ?_);rw[hname];refine aq ⟨bJ bx _,ih (j+1) _ xb vb c (by omega) hlt J1 gD' hst'.1 ?_ rb⟩
   simp only[argBest,hb',aN,if_false];exact hvb
theorem ka (bt:Nat->Nat->Bool)(hh:X.A.handled=none)(J:Inv X pins σ H s)(hl:∀s',Inv X pins σ H s' ->∃its:List Value,zX xs its/\s'.heap.IsList l its.toArray)(hp:0 < xs.length)
  (cmp:∀(i j:Nat) (x y:V) (u v:Value),xs[i]? =some x->xs[j]? =some y->Z4 x u->Z4 y v->∀(s:Shared) (Q E:Value->Shared->Prop),Inv X pins σ H s->Q (.bool (bt i j)) s->wpAny (model X.prog X.w) X.A.in1 (richCompare .Lt u v) Q E s)
  (hQ:∀(x:V) (v:Value) s',xs[argBest bt (xs.length - 1)]? =some x->Z4 x v->Inv X pins σ H s' ->Q v s'):
  wpAny (model X.prog X.w) X.A (call (.builtin "min") [.ref l]) Q E s:=by
 have hname:(toString "min"++toString ".loop":String)="min.loop":=by decide
 obtain⟨its0,_,hls⟩:=hl _ J;obtain⟨ol,hol,_⟩:=id hls;have hll:=ao hol;refine kmb_tree PySem.F.kind_min PySem.F.plain_min PySem.F.entry_min (PySem.F.args_min1 _) ?_;refine a7 (bR (show Builtin.Builtins.bindParams _ _ 0 _=pure [none,none] from rfl) (a7 (aq ?_)));refine a7 (c8 hls ?_);refine a7 (wpAny_newList ?_ (aQ _));rw[hname];obtain⟨h1,e1⟩:∃h1,h1=s.heap.push { cls:= .type "list_iterator",data:= .fields #[.ref l,.int 0 0] }:=⟨_,rfl⟩;have hS:h1.objs.size=s.heap.objs.size+1:=by rw[e1];exact size_push' ..
 rw[← e1];have J0:Inv X pins σ H { s with heap:=h1.push (seqObj "list" #[] 0) }:=J.kept λb o e=>a9 _ (by rw[e1];exact a9 _ e)
 have gI:(h1.push (seqObj "list" #[] 0)).get? s.heap.objs.size=some { cls:= .type "list_iterator",data:= .fields #[.ref l,.int 0 0] }:=a9 _ (by rw[e1];exact af _ rfl)
 have gD:(h1.push (seqObj "list" #[] 0)).get? h1.objs.size=some (seqObj "list" #[] 0):=af _ rfl;have fI:Jp X pins H s.heap.objs.size:=J.fpOk (aj _) J.fresh;have fD:Jp X pins H h1.objs.size:=J.fpOk (by omega) (J.hok.fresh (by omega))
 have hlI:l ≠ s.heap.objs.size:=aD hll;have hDI:h1.objs.size ≠ s.heap.objs.size:=by omega
 obtain⟨its,rv,hls⟩:=hl _ J0;have W:=dX (prog:=X.prog) (w:=X.w) (A:=X.A.in1) hh s.heap.objs.size l hlI its.toArray;have hsz:its.toArray.size=xs.length:=by rw[aC,rv.length]
 generalize h1.objs.size=D at*;generalize s.heap.objs.size=I at*;refine aq ⟨bJ bx _, ?_⟩;refine bv dm ?_;rw[cK bx _];show wpAny _ X.A.in1 (seqItems? (.ref _) >>= _) _ _ _;refine a7 (bq gD rfl ?_);show wpAny _ X.A.in1 (tryCatch (pyNext (.ref I)) _ >>= _) _ _ _;refine a7 (wpAny_tryCatch (W.item 0 _ _ _ (by rw[hsz];exact hp) ⟨⟨_,gI,rfl,rfl⟩,hls⟩ λv h' tk' hP hst' hk' => ?_))
 obtain⟨x,hv,rx⟩:=qG rv (show its[0]? =some v by simpa using hP)
 obtain⟨oI',hoI',hoc,hod⟩:=id hst'.1;have J1:=J0.turned (t' :=tk') (λb o n e=>hk' b o (by simpa using n) e) fI.1 fI.2.1 fI.2.2.2.1 fI.2.2.2.2.1 fI.2.2.2.2.2
 have gD' :=hk' D _ (by simpa using hDI) gD
 obtain⟨c2,hc2⟩:∃c2,(h'.update D (iR λ_=> #[v,v])).get? D=some (seqObj "list" #[v,v] c2):=⟨_,get?_update_seq gD' λ_=> #[v,v]⟩;show wpAny _ X.A.in1 (updateSeq D (λ_=> #[v,v]) >>= _) _ _ _;refine a7 (wpAny_updateSeq gD' rfl ?_);rw[hname];exact aq ⟨bJ bx _,k9 bt hh hl hlI hDI fI fD cmp hQ _ 0 _ x v c2 rfl hp (J1.turned (it:=D) (λb o n e=>(bE _ _ (aS n)).trans e) fD.1 fD.2.1 fD.2.2.2.1 fD.2.2.2.2.1 fD.2.2.2.2.2) hc2 ⟨oI',(bE _ _ hDI).trans hoI',hoc,hod⟩ hv rx⟩
end
noncomputable def yC:List Int->List Int->Bool
 | [],[]=>false
 | [],_ :: _=>true
 | _ :: _,[]=>false
 | x :: xs,y :: ys=>if x=y then yC xs ys else decide (x < y)
theorem qH:∀xs ys,yC xs ys=HT.lexLt xs ys
 | [],[]=>rfl
 | [],_ :: _=>rfl
 | _ :: _,[]=>rfl
 | x :: xs,y :: ys=>by rw[yC,HT.lexLt_cons,qH xs ys]
def jY (k:List Int):List (List Int)->List Int
 | []=>k
 | k' :: ks=>jY (if yC k' k=true then k' else k) ks
def WS:List T->Option (List (List Int))
 | []=>some []
 | .tup xs :: ts=>(match Z2 xs,WS ts with
  | some k,some ks=>some (k :: ks)
  | _,_=>none)
 | _=>none
def wq (t u:T):R T:=match t,u with
 | .lst ts,.int j=>(match WS ts with
  | some (k :: ks)=>atT ((jY k ks).map T.int) j
  | _=> .bad)
 | _,_=> .bad
theorem qJ (kk:Nat->List Int):∀(ks:List (List Int)) (k:List Int) (n:Nat),kk (argBest (λi j=>yC (kk i) (kk j)) n)=k->(∀j q,ks[j]? =some q->kk (n+1+j)=q)->kk (argBest (λi j=>yC (kk i) (kk j)) (n+ks.length))=jY k ks
 | [],k,n,h,_=>by rw[jY];exact h
 | k' :: ks,k,n,h,hq=>by
  have e0:=hq 0 k' rfl;rw[jY,am,show n+(ks.length+1)=(n+1)+ks.length by omega]
  refine qJ kk ks _ (n+1) ?_ λj q e=>by have:=hq (j+1) q e;rw[← this];congr 1;omega
  rw[Nat.add_zero]at e0;show kk (if yC (kk (n+1)) (kk (argBest _ n))=true then n+1 else argBest _ n)=_
  rw[h,e0]
  by_cases c:yC k' k=true
  ·rw[if_pos c,if_pos c];exact e0
  ·rw[if_neg c,if_neg c];exact h
theorem WT:∀{ts:List T} {ks:List (List Int)},WS ts=some ks->ks.length=ts.length/\∀(i:Nat) (t:T),ts[i]? =some t->∃k xs,ks[i]? =some k/\t= .tup xs/\Z2 xs=some k
 | [],ks,h=>by cases h;exact⟨rfl,λi t e=>by simp at e⟩
 | .tup xs :: ts,ks,h=>by
  unfold WS at h;split at h
  ·rename_i k l e1 e2;cases h;obtain⟨h1,h2⟩:=WT e2;refine⟨by simp[h1],λi u e=> ?_⟩
   cases i with
   | zero=>cases e;exact⟨k,xs,rfl,rfl,e1⟩
   | succ i=>exact h2 i u e
  ·cases h
 | .non :: _,_,h=>by cases h
 | .bl _ :: _,_,h=>by cases h
 | .int _ :: _,_,h=>by cases h
 | .str _ :: _,_,h=>by cases h
 | .lst _ :: _,_,h=>by cases h
 | .fz _ :: _,_,h=>by cases h
theorem JU {H:Hp}:∀{xs:List V} {ts:List T} {ns:List Int},zF H xs ts->Z2 ts=some ns->xs=ns.map V.int
 | _,_,ns,.nil,h=>by cases h;rfl
 | _,_,ns, @zF.cons _ _ _ _ ts r rr,h=>by
  cases r with
  | int i=>
   have h:(match Z2 ts with | some l=>some (i :: l) | none=>none)=some ns:=h
   split at h
   ·rename_i l e;cases h;rw[JU rr e];rfl
   ·cases h
  | _=>cases h
section
theorem qK (hr:ZP kk X.A):Zc X (.builtin "min") (λvs H Q=>∃(l:Addr) (xs:List V) (ks:Nat->List Int),vs=[.ref l]/\H l=some (.lst xs)/\0 < xs.length/\(∀(i:Nat) (x:V),xs[i]? =some x->∃a,x= .ref a/\H a=some (.tup ((ks i).map V.int)))/\∀x,xs[argBest (λi j=>yC (ks i) (ks j)) (xs.length - 1)]? =some x->Q x H):=by
 intro pins s σ H vs us Q I rv h;obtain⟨l,xs,ks,rfl,hl,h0,hk,q⟩:=h;obtain⟨u,rfl,ru⟩:=Zt rv;obtain rfl:u=Value.ref l:=ru;refine ka (xs:=xs) (λi j=>yC (ks i) (ks j)) hr.hd I (λs' J=>let ⟨_,its,n,rv,_,ho⟩:=J.lstM hl;⟨its,rv,_,ho,rfl,n,rfl⟩) h0 ?_ λx v s' hx rx J=>⟨x,H,J,rx,q x hx⟩;intro i j x y u v hx hy rx ry s' Q' E' J hq;obtain⟨a1,rfl,e1⟩:=hk i x hx;obtain⟨a2,rfl,e2⟩:=hk j y hy;obtain rfl:u=Value.ref a1:=rx;obtain rfl:v=Value.ref a2:=ry;obtain⟨i1,v1,t1,_⟩:=J.tuple (SqT.of e1);obtain⟨i2,v2,t2,_⟩:=J.tuple (SqT.of e2);rw[qH]at hq;exact HT.lt_tupInts t1 t2 (by simpa using ww v1) (by simpa using ww v2) (by have:=hr.un;show X.A.units+1 < _;omega) hq
theorem Gx {c:Int}(hr:ZP kk X.A)(gl:Gl X "min")(mg:X.mg "min"=none)(ha:j9 X Y a fa)(hb:Snd X Y b (cE (.int c)))(hs:St1 X a:=by exact st1 rfl)(hx:jR b:=by exact λ_ _=>rfl):Snd X Y (.Subscript (.Call (.Name "min" p) [a] [] pos) b p') (zd wq fa (cE (.int c))):= .mk λρ=>
 PE.imp (ym Ww (ZF (qK hr) gl mg PyProof.Rows.Boot.«min» (zz (ha ρ) zQ hs) (by decide) (by decide) hs rfl) (hb ρ) hx) λσ H Q ⟨B,I,q⟩=>by
  refine step I q λt v H1 _ s1 r1 I1 q1=> ?_;have q1:Po Y rC _ H1 (wq t (.int c)) Q:=q1;cases r1 with
  | @lst l xs ts h r=>
   have q1:Po Y rC _ H1 (match WS ts with | some (k :: ks)=>atT ((jY k ks).map T.int) c | _=> .bad) Q:=q1
   split at q1
   ·rename_i k ks e;obtain⟨hl,hk⟩:=WT e;have hlx:xs.length=(k :: ks).length:=by rw[r.length,hl]
    refine⟨l,xs,λi=>(k :: ks).getD i [],rfl,h,by rw[hlx];exact Nat.succ_pos _,λi x hx=> ?_,λx hx=> ?_⟩
    ·obtain⟨t,et⟩:∃t,ts[i]? =some t:=⟨_,ae (by rw[← r.length];exact(ai.mp hx).1)⟩
     obtain⟨x',ex,rt⟩:=r.at et;rw[hx]at ex;cases ex;obtain⟨k',us,e1,rfl,e2⟩:=hk i t et;cases rt with
     | @tup a ys _ ea rr=>
      refine⟨a,rfl, ?_⟩;rw[ea,JU rr e2];simp[iY,e1]
    ·have hi:=(ai.mp hx).1;obtain⟨t,et⟩:∃t,ts[argBest (λi j=>yC ((k :: ks).getD i []) ((k :: ks).getD j [])) (xs.length - 1)]? =some t:=⟨_,ae (by rw[← r.length];exact hi)⟩
     obtain⟨x',ex,rt⟩:=r.at et;rw[hx]at ex;cases ex;obtain⟨k',us,e1,rfl,e2⟩:=hk _ t et;have hb:=qJ (λi=>(k :: ks).getD i []) ks k 0 rfl λj q e=>by rw[show 0+1+j=j+1 by omega];simp[iY,e]
     have hk' :k' =jY k ks:=by
      rw[← hb,show 0+ks.length=xs.length - 1 by rw[hlx];simp]
      unfold iY at e1 ⊢;rw[e1];rfl
     subst hk';refine step (f:=cE (.int c)) (k:=λ_=>atT ((jY k ks).map T.int) c) I1 q1 λt' v' H2 e' s2 r2 I2 q2=> ?_;cases e';cases r2;cases rt with
     | @tup a ys _ ea rr=>
      unfold atT at q2;split at q2
      ·rename_i t e8;obtain⟨w,e9,e10⟩:=JJ (JT (H:=H2) (jY k ks)) e8;rw[JU rr e2]at ea;refine .inr (.inl ⟨a,_,c,w,rfl,rfl,SqT.of (s2 _ _ ea),e9, ?_⟩);have:∃j,t= .int j:=by
        unfold atI at e8;obtain⟨n,_,e8⟩:=Option.bind_eq_some_iff.mp e8;obtain⟨j,_,ej⟩:=aI.mp (b_ e8);exact⟨j,ej.symm⟩
       obtain⟨j,rfl⟩:=this;cases e10;exact po0 I2.sB q2 rfl (.int _)
      ·exact q2.elim
   ·exact q1.elim
  | _=>exact q1.elim
end
section
variable {X:Cx}{Y:Fx}{a b:Expr}{rest:List Expr}{pos p px py pz pt pt2 p1 p2:Pos}{i j k kt k2:Nat}{x y z:Str}{fa:En->R T}
def z2J (fa fb:En->R (T×En)):En->R (T×En):=λρ=>(fa ρ).bind λp=>match p.1 with
 | .bl true=>fb p.2
 | .bl false=> .ok (.bl false,p.2)
 | _=> .bad
theorem z2K {fa fb:En->R (T×En)}(ha:wD X Y a fa)(hb:wD X Y (.BoolOp .And (b :: rest) pos) fb):wD X Y (.BoolOp .And (a :: b :: rest) pos) (z2J fa fb):= .mk λρ=>
 PE.imp (VI (tb:=λσ H Q=>∃ρ' B,SI Y B ρ' σ H/\PoM Y B (fb ρ') σ Q) (ha.go ρ) (λpins s σ H Q I ⟨ρ',q⟩=>hb.go ρ' _ s σ H Q I q)) λσ H Q ⟨B,I,q⟩=>WP I q λt ρ1 v H1 B1 _ s1 r1 I1 q1=>by
  cases r1 with
  | bl k=>
   refine⟨k,rfl, ?_⟩;cases k with
   | true=>exact⟨ρ1,_,I1,q1⟩
   | false=>exact q1 _ H1 B1 (zr.refl _) I1 (.bl _)
  | _=>exact q1.elim
def Gy (i:Nat):En->R T:=λρ=>match ρ[i]? with
 | some (.ow ts)=> .ok (.lst ts)
 | _=> .bad
theorem Gz (hv:PE X (.Name x px) (wg i))(gl:Gl X "list")(mg:X.mg "list"=none):Snd X Y (.Call (.Name "list" p) [.Name x px] [] pos) (Gy i):= .mk λρ=>
 PE.imp (ZD Jc gl mg (PyProof.Rows.Boot.«list») (zz hv zQ (st1 rfl)) (by decide) (by decide) (st1 rfl) rfl) λσ H Q ⟨B,I,q⟩=>by
  unfold Gy at q;split at q
  ·rename_i ts e;obtain⟨a,xs,e1,e2,e3,e4,e5,_⟩:=I.ow i ts e;exact⟨.ref a,e1,a,xs,rfl,.inl (SqL.of e4),λl' hl' =>q _ _ (zr.new hl' _) (.lst (by rw[Z6 hl'];exact zA) (e5.mono (zO.ge I.sB (zr.new hl' _))))⟩
  ·exact q.elim
def GA (i:Nat):En->R T:=λρ=>match ρ[i]? with
 | some (.ow ts)=> .ok (.tup ts)
 | _=> .bad
theorem GB (hv:PE X (.Name x px) (wg i))(gl:Gl X "tuple")(mg:X.mg "tuple"=none):Snd X Y (.Call (.Name "tuple" p) [.Name x px] [] pos) (GA i):= .mk λρ=>
 PE.imp (ZD jH gl mg (PyProof.Rows.Boot.«tuple») (zz hv zQ (st1 rfl)) (by decide) (by decide) (st1 rfl) rfl) λσ H Q ⟨B,I,q⟩=>by
  unfold GA at q;split at q
  ·rename_i ts e;obtain⟨a,xs,e1,e2,e3,e4,e5,_⟩:=I.ow i ts e;exact⟨.ref a,e1,a,xs,rfl,.inl ⟨SqL.of e4,λl' hl' =>q _ _ (zr.new hl' _) (.tup (by rw[Z6 hl'];exact zA) (e5.mono (zO.ge I.sB (zr.new hl' _))))⟩⟩
  ·exact q.elim
def Vm (i j k:Nat)(fa:En->R T):En->RS:=λρ=>(fa ρ).s λt=> .nx (((ρ.set i (.vl t)).set j (.ow [])).set k (.ow []))
theorem kb (hc:X.calm=true)(hN:X.N.Nodup)(hi:X.N[i]? =some x)(hj:X.N[j]? =some y)(hk:X.N[k]? =some z)(hij:i ≠ j)(hik:i ≠ k)(hjk:j ≠ k)(hx:X.env.scope.names.lookup x=some .local)(hy:X.env.scope.names.lookup y=some .local)(hz:X.env.scope.names.lookup z=some .local)
  (ha:Snd X Y a fa) (hs:swappedStores [.Tuple [.Name x px,.Name y py,.Name z pz] kt pt] (.Tuple [a,.List [] p1,.List [] p2] k2 pt2) X.env=pure (some [x,y,z])) (hw:swapsWithSole [.Tuple [.Name x px,.Name y py,.Name z pz] kt pt] (.Tuple [a,.List [] p1,.List [] p2] k2 pt2) pos.line X.env=pure false:=by rfl)
  (hs1:starEach [a,.List [] p1,.List [] p2] X.env=(false,eval a X.env) :: starEach [.List [] p1,.List [] p2] X.env:=by exact zR rfl):
  jV X Y (.Assign [.Tuple [.Name x px,.Name y py,.Name z pz] kt pt] (.Tuple [a,.List [] p1,.List [] p2] k2 pt2) pos) (Vm i j k fa):= .mk λρ=>
 PS.imp (PySem.RW37.ps_par3 hc hN hi hj hk hij hik hjk hx hy hz (zz (ha ρ) (zz (Wq zQ) (zz (Wq zQ) zQ (st1 rfl)) (zR rfl)) hs1) hs hw) λD σ H ⟨B,I,q⟩=>jy I q λt v H1 _ s1 r1 I1 q1=>
  ⟨aQ _,λp hp=>⟨aQ _,λp' hp' =>⟨_,_,_,rfl,q1 _ _ _ (zr.refl _) (((I1.setV i r1).newO j hp .nil).newO k hp' .nil)⟩⟩⟩
end
end PV
namespace G
open PySem PySem.Spec PyProof.Rows L2 PV
def b_1l:En->RS:=
  zB (ifS (zE ltC (vB 1) (ap1 Zj (vB 0))) (zG (zd ixT (vE 0) (vE 1))) (nxS))
  (zB (ifS (zE eqC (vB 0) (j7 (zj))) (zG (cE (.int 0))) (nxS))
  (zG (zd zD (zd Za (zd ixT (vE 0) (zd jw (vE 1) (ap1 Zj (vB 0)))) (cE (.int 31))) (vE 1))))
def GC:List T->R T:=λts=>zy (b_1l  (en0 2 ts))
def b_2 (c_1l:List T->R T):En->RS:=
  zB (zK 3 (zd jw (zd Za (zd zD (za 2 c_1l (z9 (vE 0) (z9 (vE 1) (zj)))) (zd Za (cE (.int 6151)) (zd zD (vE 1) (cE (.int 1))))) (cE (.int 40692))) (cE (.int 2147483399))))
  (zG (zd jw (zd jw (zd zD (zd Za (vE 3) (vE 3)) (zd wT (vE 3) (cE (.int 31)))) (cE (.int 2147483629))) (vE 2)))
def f_2:List T->R T:=λts=>zy (b_2 (GC) (en0 4 ts))
def b_z (c_2:List T->R T):En->RS:=
  zB (zK 2 (cE (.str "abcdefghijklmnopqrstuvwxyz")))
  (zB (ifS (zE gtC (za 3 c_2 (z9 (vE 0) (z9 (vE 1) (z9 (cE (.int 6)) (zj))))) (cE (.int 0))) (zG (zd ixT (j7 (z9 (cE (.str "a")) (z9 (cE (.str "b")) (z9 (cE (.str "ab")) (z9 (cE (.str "cab")) (zj)))))) (za 3 c_2 (z9 (vE 0) (z9 (zd zD (vE 1) (cE (.int 1))) (z9 (cE (.int 4)) (zj))))))) (nxS))
  (zG (ap1 (gG "") (zU (Zv (zd zD (cE (.int 1)) (za 3 c_2 (z9 (vE 0) (z9 (zd zD (vE 1) (cE (.int 1))) (z9 (cE (.int 3)) (zj))))))) (zI 0) (Zg) (zd ixT (vE 3) (za 3 c_2 (z9 (vE 1) (z9 (zd zD (zd zD (vE 2) (cE (.int 2))) (vE 0)) (z9 (cE (.int 26)) (zj)))))) 1 [0,1,2]))))
def f_z:List T->R T:=λts=>zy (b_z (f_2) (en0 3 ts))
def z0O (c_2:List T->R T)(c_z:List T->R T):En->RS:=
  zB (ifS (zE gtC (za 3 c_2 (z9 (vE 0) (z9 (vE 1) (z9 (cE (.int 3)) (zj))))) (cE (.int 0))) (zB (zK 2 (zd jv (za 3 c_2 (z9 (vE 0) (z9 (zd zD (vE 1) (cE (.int 1))) (z9 (cE (.int 7)) (zj))))) (cE (.int 3))))
  (zB (ifS (zE eqC (za 3 c_2 (z9 (vE 0) (z9 (zd zD (vE 1) (cE (.int 3))) (z9 (cE (.int 8)) (zj))))) (cE (.int 0))) (zK 2 (zd ixT (j7 (z9 (uC (cE (.int 20))) (z9 (cE (.int 17)) (z9 (cE (.int 20)) (zj))))) (za 3 c_2 (z9 (vE 0) (z9 (zd zD (vE 1) (cE (.int 4))) (z9 (cE (.int 3)) (zj))))))) (nxS))
  (zG (Zh (z9 (cE (.str "whole")) (z9 (vE 2) (z9 (zd YA (cE (.int 20)) (zd zD (vE 2) (za 3 c_2 (z9 (vE 0) (z9 (zd zD (vE 1) (cE (.int 2))) (z9 (cE (.int 4)) (zj))))))) (zj)))))))) (nxS))
  (zB (yR 3 (zj))
  (zB (j0 (Zv (zd zD (cE (.int 1)) (za 3 c_2 (z9 (vE 0) (z9 (zd zD (vE 1) (cE (.int 1))) (z9 (cE (.int 4)) (zj))))))) (zI 4) (zB (zK 5 (za 2 c_z (z9 (vE 0) (z9 (zd zD (zd zD (vE 1) (cE (.int 5))) (zd Za (cE (.int 5)) (vE 4))) (zj)))))
  (ifS (zE vM (vB 5) (vB 3)) (Uc 3 (vE 5)) (nxS))))
  (zG (Zh (z9 (cE (.str "pick")) (z9 (ap1 z0F (zU (Xq (vE 3)) (Zq 0 1) (Zg) (Zh (z9 (vE 1) (z9 (zd zD (cE (.int 1)) (za 3 c_2 (z9 (vE 2) (z9 (zd zD (zd zD (vE 3) (cE (.int 30))) (vE 0)) (z9 (cE (.int 20)) (zj)))))) (zj)))) 2 [0,1])) (zj)))))))
def GD:List T->R T:=λts=>zy (z0O (f_2) (f_z) (en0 6 ts))
def b_e (c_2:List T->R T)(c_13:List T->R T)(c_e:List T->R T):En->RS:=
  zB (zK 3 (za 3 c_2 (z9 (vE 0) (z9 (vE 1) (z9 (cE (.int 5)) (zj))))))
  (zB (ifS (orT (zE eqC (vB 2) (cE (.int 1))) (zE ltC (vB 3) (cE (.int 2)))) (zG (za 2 c_13 (z9 (vE 0) (z9 (zd zD (vE 1) (cE (.int 1))) (zj))))) (nxS))
  (zB (ifS (zE ltC (vB 3) (cE (.int 4))) (zB (zK 4 (zU (Zv (zd zD (cE (.int 1)) (za 3 c_2 (z9 (vE 0) (z9 (zd zD (vE 1) (cE (.int 1))) (z9 (cE (.int 3)) (zj))))))) (zI 0) (Zg) (za 3 c_e (z9 (vE 1) (z9 (zd zD (zd zD (zd Za (cE (.int 3)) (vE 2)) (cE (.int 40))) (zd Za (cE (.int 50)) (vE 0))) (z9 (zd jv (vE 3) (cE (.int 1))) (zj))))) 1 [0,1,2]))
  (zG (Zh (z9 (cE (.str "row")) (z9 (ap1 z0F (vE 4)) (zj)))))) (nxS))
  (zB (zK 5 (za 3 c_2 (z9 (vE 0) (z9 (zd zD (vE 1) (cE (.int 1))) (z9 (cE (.int 3)) (zj))))))
  (zG (Zh (z9 (cE (.str "many")) (z9 (za 3 c_e (z9 (vE 0) (z9 (zd zD (zd Za (cE (.int 3)) (vE 1)) (cE (.int 40))) (z9 (zd jv (vE 2) (cE (.int 1))) (zj))))) (z9 (vE 5) (z9 (zd YA (cE (.int 3)) (zd zD (vE 5) (za 3 c_2 (z9 (vE 0) (z9 (zd zD (vE 1) (cE (.int 2))) (z9 (cE (.int 3)) (zj))))))) (zj))))))))))
def S_e:Nat->Nat->List T->R T
 | 0,_=>λ_=> .bad
 | n+1,_=>λts=>zy (b_e (f_2) (GD) (S_e n 0) (en0 6 ts))
abbrev f_e (n:Nat):List T->R T:=S_e n 0
def b_f:En->RS:=
  zB (zK 1 (j7 (z9 (Zh (zj)) (zj))))
  (zB (j0 (Zx (vE 0)) (zI 2) (zB (yR 3 (zj))
  (zB (j0 (Zx (vE 1)) (zI 4) (vd 3 (zU (Zx (vE 2)) (zI 0) (Zg) (zd zD (vE 1) (Zh (z9 (vE 0) (zj)))) 1 [4])))
  (mvS 1 3))))
  (zG (vE 1)))
def f_f:List T->R T:=λts=>zy (b_f  (en0 5 ts))
def b_4 (c_4:List T->R T)(c_f:List T->R T):En->RS:=
  zB (ifS (zE eqC (zd ixT (vE 0) (cE (.int 0))) (cE (.str "whole"))) (zG (z0I (Jl (zd ixT (vE 0) (cE (.int 1))) (zd zD (zd ixT (vE 0) (cE (.int 2))) (cE (.int 1)))))) (nxS))
  (zB (ifS (zE eqC (zd ixT (vE 0) (cE (.int 0))) (cE (.str "pick"))) (zG (zU (Zx (zd ixT (vE 0) (cE (.int 1)))) (Zq 0 1) (Zg) (vE 0) 2 [])) (nxS))
  (zB (ifS (zE eqC (zd ixT (vE 0) (cE (.int 0))) (cE (.str "row"))) (zG (za 1 c_f (z9 (zU (Zx (zd ixT (vE 0) (cE (.int 1)))) (zI 0) (Zg) (za 1 c_4 (z9 (vE 0) (zj))) 1 []) (zj)))) (nxS))
  (zB (yR 1 (zj))
  (zB (j0 (Jl (zd ixT (vE 0) (cE (.int 2))) (zd zD (zd ixT (vE 0) (cE (.int 3))) (cE (.int 1)))) (zI 2) (vd 1 (za 1 c_f (z9 (zd Za (j7 (z9 (za 1 c_4 (z9 (zd ixT (vE 0) (cE (.int 1))) (zj))) (zj))) (vE 2)) (zj)))))
  (zG (vE 1))))))
def S_4:Nat->Nat->List T->R T
 | 0,_=>λ_=> .bad
 | n+1,_=>λts=>zy (b_4 (S_4 n 0) (f_f) (en0 3 ts))
abbrev f_4 (n:Nat):List T->R T:=S_4 n 0
def b_c (c_4:List T->R T)(c_c:List T->R T):En->RS:=
  zB (ifS (zE inC (zd ixT (vE 0) (cE (.int 0))) (Zh (z9 (cE (.str "whole")) (z9 (cE (.str "pick")) (zj))))) (zG (ap1 Zj (za 1 c_4 (z9 (vE 0) (zj))))) (nxS))
  (zB (zK 1 (ifE (zE eqC (zd ixT (vE 0) (cE (.int 0))) (cE (.str "row"))) (zU (Zx (zd ixT (vE 0) (cE (.int 1)))) (zI 0) (Zg) (za 1 c_c (z9 (vE 0) (zj))) 1 []) (j7 (zj))))
  (zB (zK 2 (cE (.int 1)))
  (zB (j0 (Zx (vE 1)) (zI 3) (zK 2 (zd Za (vE 2) (vE 3))))
  (zB (ifS (zE eqC (zd ixT (vE 0) (cE (.int 0))) (cE (.str "many"))) (zB (zK 4 (za 1 c_c (z9 (zd ixT (vE 0) (cE (.int 1))) (zj))))
  (zB (zK 2 (zd zD (ap1 YN (ZR eqC (zd ixT (vE 0) (cE (.int 2))) (cE (.int 0)))) (zd Za (vE 4) (ap1 YN (chE leC leC (zd ixT (vE 0) (cE (.int 2))) (cE (.int 1)) (zd ixT (vE 0) (cE (.int 3))))))))
  (zB (zK 2 (zd zD (vE 2) (zd Za (zd Za (vE 4) (vE 4)) (ap1 YN (chE leC leC (zd ixT (vE 0) (cE (.int 2))) (cE (.int 2)) (zd ixT (vE 0) (cE (.int 3))))))))
  (zK 2 (zd zD (vE 2) (zd Za (zd Za (zd Za (vE 4) (vE 4)) (vE 4)) (ap1 YN (ZR eqC (zd ixT (vE 0) (cE (.int 3))) (cE (.int 3)))))))))) (nxS))
  (zG (vE 2))))))
def S_c:Nat->Nat->List T->R T
 | 0,_=>λ_=> .bad
 | n+1,_=>λts=>zy (b_c (f_4 8) (S_c n 0) (en0 5 ts))
abbrev f_c (n:Nat):List T->R T:=S_c n 0
def z0P (c_e:List T->R T)(c_c:List T->R T):En->RS:=
  zB (zK 3 (za 3 c_e (z9 (vE 0) (z9 (vE 1) (z9 (cE (.int 3)) (zj))))))
  (zB (j0 (Zv (cE (.int 3))) (zI 4) (zB (ifS (zE leC (za 1 c_c (z9 (vE 3) (zj))) (vB 2)) (zG (vE 3)) (nxS))
  (zK 3 (za 3 c_e (z9 (vE 0) (z9 (zd zD (zd zD (vE 1) (cE (.int 500))) (zd Za (cE (.int 700)) (vE 4))) (z9 (cE (.int 2)) (zj))))))))
  (zG (ifE (zE leC (za 1 c_c (z9 (vE 3) (zj))) (vB 2)) (vE 3) (Zh (z9 (cE (.str "whole")) (z9 (uC (cE (.int 1))) (z9 (cE (.int 2)) (zj))))))))
def GE:List T->R T:=λts=>zy (z0P (f_e 8) (f_c 8) (en0 5 ts))
def b_j (c_2:List T->R T)(c_j:List T->R T):En->RS:=
  zB (zK 3 (za 3 c_2 (z9 (vE 0) (z9 (vE 1) (z9 (cE (.int 9)) (zj))))))
  (zB (ifS (KS (zE gtC (vB 2) (cE (.int 1))) (zE gtC (vB 3) (cE (.int 5)))) (zB (zK 4 (za 3 c_j (z9 (vE 0) (z9 (zd zD (zd Za (cE (.int 2)) (vE 1)) (cE (.int 11))) (z9 (zd jv (vE 2) (cE (.int 1))) (zj))))))
  (zB (ifS (zE eqC (vB 3) (cE (.int 6))) (zG (Zh (z9 (cE (.str "no")) (z9 (vE 4) (zj))))) (nxS))
  (zG (Zh (z9 (zd ixT (j7 (z9 (cE (.str "all")) (z9 (cE (.str "some")) (zj)))) (zd jv (vE 3) (cE (.int 7)))) (z9 (vE 4) (z9 (za 3 c_j (z9 (vE 0) (z9 (zd zD (zd Za (cE (.int 2)) (vE 1)) (cE (.int 24))) (z9 (zd jv (vE 2) (cE (.int 1))) (zj))))) (zj)))))))) (nxS))
  (zB (zK 5 (zd jv (za 3 c_2 (z9 (vE 0) (z9 (zd zD (vE 1) (cE (.int 1))) (z9 (cE (.int 9)) (zj))))) (cE (.int 4))))
  (zB (ifS (zE ltC (zd jw (vE 3) (cE (.int 6))) (cE (.int 2))) (zG (Zh (z9 (cE (.str "sum")) (z9 (vE 5) (z9 (zd jv (zd zD (vE 5) (za 3 c_2 (z9 (vE 0) (z9 (zd zD (vE 1) (cE (.int 2))) (z9 (cE (.int 5)) (zj)))))) (cE (.int 1))) (zj)))))) (nxS))
  (zB (ifS (zE eqC (zd jw (vE 3) (cE (.int 6))) (cE (.int 2))) (zG (Zh (z9 (cE (.str "size")) (z9 (za 3 c_2 (z9 (vE 0) (z9 (zd zD (vE 1) (cE (.int 1))) (z9 (cE (.int 3)) (zj))))) (z9 (za 3 c_2 (z9 (vE 0) (z9 (zd zD (vE 1) (cE (.int 2))) (z9 (cE (.int 4)) (zj))))) (zj)))))) (nxS))
  (zB (ifS (zE eqC (zd jw (vE 3) (cE (.int 6))) (cE (.int 3))) (zG (Zh (z9 (cE (.str "word")) (z9 (zd ixT (j7 (z9 (cE (.str "a")) (z9 (cE (.str "b")) (z9 (cE (.str "ab")) (z9 (cE (.str "zz")) (zj)))))) (za 3 c_2 (z9 (vE 0) (z9 (zd zD (vE 1) (cE (.int 1))) (z9 (cE (.int 4)) (zj)))))) (zj))))) (nxS))
  (zG (ifE (zE eqC (zd jw (vE 3) (cE (.int 6))) (cE (.int 4))) (Zh (z9 (cE (.str "rising")) (zj))) (Zh (z9 (cE (.str "unlike")) (zj))))))))))
def S_j:Nat->Nat->List T->R T
 | 0,_=>λ_=> .bad
 | n+1,_=>λts=>zy (b_j (f_2) (S_j n 0) (en0 6 ts))
abbrev f_j (n:Nat):List T->R T:=S_j n 0
def b_k (c_k:List T->R T):En->RS:=
  zB (ifS (uD (jG (ap1 (Wl "tuple") (vB 0)))) (zG (j7 (z9 (vE 0) (zj)))) (nxS))
  (zB (zK 1 (j7 (zj)))
  (zB (j0 (Zx (vE 0)) (zI 2) (zK 1 (zd zD (vE 1) (za 1 c_k (z9 (vE 2) (zj))))))
  (zG (vE 1))))
def S_k:Nat->Nat->List T->R T
 | 0,_=>λ_=> .bad
 | n+1,_=>λts=>zy (b_k (S_k n 0) (en0 3 ts))
abbrev f_k (n:Nat):List T->R T:=S_k n 0
def b_9 (c_k:List T->R T)(c_9:List T->R T):En->RS:=
  zB (zK 2 (zU (Zx (za 1 c_k (z9 (vE 1) (zj)))) (zI 0) (jG (ap1 (Wl "int") (vB 0))) (vE 0) 1 []))
  (zB (zK 3 (ifE (jG (ap1 (Wl "tuple") (vB 1))) (vE 1) (Zh (z9 (vE 1) (zj)))))
  (zB (ifS (zE eqC (zd ixT (vE 0) (cE (.int 0))) (cE (.str "sum"))) (zB (zK 4 (cE (.int 0)))
  (zB (j0 (Zx (vE 2)) (zI 5) (zK 4 (zd zD (vE 4) (vE 5))))
  (zG (jx (ZR leC (zd ixT (vE 0) (cE (.int 1))) (vB 4)) (ZR leC (vB 4) (zd ixT (vE 0) (cE (.int 2)))))))) (nxS))
  (zB (ifS (zE eqC (zd ixT (vE 0) (cE (.int 0))) (cE (.str "size"))) (zG (jx (ZR geC (ap1 Zj (vB 3)) (zd ixT (vE 0) (cE (.int 1)))) (ZR leC (ap1 Zj (vB 3)) (zd ixT (vE 0) (cE (.int 2)))))) (nxS))
  (zB (ifS (zE eqC (zd ixT (vE 0) (cE (.int 0))) (cE (.str "word"))) (zG (ZR neC (zU (Zx (za 1 c_k (z9 (vE 1) (zj)))) (zI 0) (zE eqC (vB 0) (zd ixT (vE 1) (cE (.int 1)))) (vE 0) 1 [0]) (j7 (zj)))) (nxS))
  (zB (ifS (zE eqC (zd ixT (vE 0) (cE (.int 0))) (cE (.str "rising"))) (zG (ZR eqC (vB 2) (ap1 V8 (vB 2)))) (nxS))
  (zB (ifS (zE eqC (zd ixT (vE 0) (cE (.int 0))) (cE (.str "unlike"))) (zG (ZR eqC (zU (Zv (ap1 Zj (vB 3))) (zI 0) (zE inC (zd ixT (vE 1) (vE 0)) (slE (vE 1) (noO) (Jk (vE 0)))) (vE 0) 1 [3]) (j7 (zj)))) (nxS))
  (zB (ifS (zE eqC (zd ixT (vE 0) (cE (.int 0))) (cE (.str "no"))) (zG (vc (za 2 c_9 (z9 (zd ixT (vE 0) (cE (.int 1))) (z9 (vE 1) (zj)))))) (nxS))
  (zB (zK 6 (zU (Zx (slE (vE 0) (Jk (cE (.int 1))) (noO))) (zI 0) (Zg) (za 2 c_9 (z9 (vE 0) (z9 (vE 1) (zj)))) 1 [1]))
  (zG (ifE (zE eqC (zd ixT (vE 0) (cE (.int 0))) (cE (.str "all"))) (jx (zd ixT (vE 6) (cE (.int 0))) (zd ixT (vE 6) (cE (.int 1)))) (orE (zd ixT (vE 6) (cE (.int 0))) (zd ixT (vE 6) (cE (.int 1))))))))))))))
def S_9:Nat->Nat->List T->R T
 | 0,_=>λ_=> .bad
 | n+1,_=>λts=>zy (b_9 (f_k 8) (S_9 n 0) (en0 7 ts))
abbrev f_9 (n:Nat):List T->R T:=S_9 n 0
def b_i:En->RS:=
  zG (jx (ap1 (Wl "int") (vB 0)) (vc (ap1 (Wl "bool") (vB 0))))
def f_i:List T->R T:=λts=>zy (b_i  (en0 1 ts))
def z2L (c_i:List T->R T):En->RS:=
  zG (jx (za 1 c_i (z9 (vE 0) (zj))) (chE leC leC (uC (cE (.int 50))) (vB 0) (cE (.int 50))))
def z0Q:List T->R T:=λts=>zy (z2L (f_i) (en0 1 ts))
def b_u:En->RS:=
  zB (ifS (orT (uD (jG (ap1 (Wl "str") (vB 0)))) (uD (chT leC leC (cE (.int 1)) (ap1 Zj (vB 0)) (cE (.int 3))))) (zG (cE (.bl false))) (nxS))
  (zG (ap1 Xk (zU (Zx (vE 0)) (zI 0) (Zg) (chE leC leC (cE (.str "a")) (vB 0) (cE (.str "z"))) 1 [])))
def f_u:List T->R T:=λts=>zy (b_u  (en0 1 ts))
def b_m (c_u:List T->R T)(c_m:List T->R T)(c_1g:List T->R T):En->RS:=
  zB (ifS (orT (zE eqC (vB 1) (cE (.int 0))) (orT (uD (jG (ap1 (Wl "tuple") (vB 0)))) (zE eqC (ap1 Zj (vB 0)) (cE (.int 0))))) (zG (cE (.bl false))) (nxS))
  (zB (ifS (orT (zE eqC (zd ixT (vE 0) (cE (.int 0))) (cE (.str "sum"))) (zE eqC (zd ixT (vE 0) (cE (.int 0))) (cE (.str "size")))) (zG (jx (ZR eqC (ap1 Zj (vB 0)) (cE (.int 3))) (jx (za 1 c_1g (z9 (zd ixT (vE 0) (cE (.int 1))) (zj))) (za 1 c_1g (z9 (zd ixT (vE 0) (cE (.int 2))) (zj)))))) (nxS))
  (zB (ifS (zE eqC (zd ixT (vE 0) (cE (.int 0))) (cE (.str "word"))) (zG (jx (ZR eqC (ap1 Zj (vB 0)) (cE (.int 2))) (za 1 c_u (z9 (zd ixT (vE 0) (cE (.int 1))) (zj))))) (nxS))
  (zB (ifS (orT (zE eqC (zd ixT (vE 0) (cE (.int 0))) (cE (.str "rising"))) (zE eqC (zd ixT (vE 0) (cE (.int 0))) (cE (.str "unlike")))) (zG (ZR eqC (ap1 Zj (vB 0)) (cE (.int 1)))) (nxS))
  (zB (ifS (zE eqC (zd ixT (vE 0) (cE (.int 0))) (cE (.str "no"))) (zG (jx (ZR eqC (ap1 Zj (vB 0)) (cE (.int 2))) (za 2 c_m (z9 (zd ixT (vE 0) (cE (.int 1))) (z9 (zd jv (vE 1) (cE (.int 1))) (zj)))))) (nxS))
  (zB (ifS (orT (zE eqC (zd ixT (vE 0) (cE (.int 0))) (cE (.str "all"))) (zE eqC (zd ixT (vE 0) (cE (.int 0))) (cE (.str "some")))) (zG (jx (ZR eqC (ap1 Zj (vB 0)) (cE (.int 3))) (jx (za 2 c_m (z9 (zd ixT (vE 0) (cE (.int 1))) (z9 (zd jv (vE 1) (cE (.int 1))) (zj)))) (za 2 c_m (z9 (zd ixT (vE 0) (cE (.int 2))) (z9 (zd jv (vE 1) (cE (.int 1))) (zj))))))) (nxS))
  (zG (cE (.bl false))))))))
def S_m:Nat->Nat->List T->R T
 | 0,_=>λ_=> .bad
 | n+1,_=>λts=>zy (b_m (f_u) (S_m n 0) (z0Q) (en0 2 ts))
abbrev f_m (n:Nat):List T->R T:=S_m n 0
def b_8 (c_m:List T->R T):En->RS:=
  zG (za 2 c_m (z9 (vE 0) (z9 (cE (.int 3)) (zj))))
def f_8:List T->R T:=λts=>zy (b_8 (f_m 8) (en0 1 ts))
def b_5 (c_8:List T->R T):En->RS:=
  ifS (uD (jG (za 1 c_8 (z9 (vE 0) (zj))))) (gR) (nxS)
def f_5:List T->R T:=λts=>zy (b_5 (f_8) (en0 1 ts))
def z0R (c_5:List T->R T):En->RS:=
  zB (ifS (uD (jG (ap1 (G8 "list" "tuple") (vE 0)))) (gR) (nxS))
  (j0 (Zx (vE 0)) (zI 1) (JK (za 1 c_5 (z9 (vE 1) (zj)))))
def z0S:List T->R T:=λts=>zy (z0R (f_5) (en0 2 ts))
def b_1o (c_i:List T->R T):En->RS:=
  zG (jx (za 1 c_i (z9 (vE 0) (zj))) (jx (za 1 c_i (z9 (vE 1) (zj))) (ch3E leC leC leC (vB 2) (vB 0) (vB 1) (vB 3))))
def z0T:List T->R T:=λts=>zy (b_1o (f_i) (en0 4 ts))
def b_n:En->RS:=
  zG (jx (ap1 (Wl "tuple") (vB 0)) (chE leC leC (vB 1) (ap1 Zj (vB 0)) (vB 2)))
def f_n:List T->R T:=λts=>zy (b_n  (en0 3 ts))
def z0U (c_i:List T->R T)(c_n:List T->R T)(c_u:List T->R T):En->RS:=
  zG (jx (za 3 c_n (z9 (vE 0) (z9 (cE (.int 2)) (z9 (cE (.int 2)) (zj))))) (jx (za 1 c_u (z9 (zd ixT (vE 0) (cE (.int 0))) (zj))) (jx (za 1 c_i (z9 (zd ixT (vE 0) (cE (.int 1))) (zj))) (chE leC leC (cE (.int 1)) (zd ixT (vE 0) (cE (.int 1))) (cE (.int 20))))))
def GF:List T->R T:=λts=>zy (z0U (f_i) (f_n) (f_u) (en0 1 ts))
def z0V (c_n:List T->R T)(c_1a:List T->R T):En->RS:=
  zB (ifS (orT (uD (jG (za 3 c_n (z9 (vE 0) (z9 (cE (.int 1)) (z9 (cE (.int 4)) (zj))))))) (uD (jG (ap1 Xk (zU (Zx (vE 0)) (zI 0) (Zg) (za 1 c_1a (z9 (vE 0) (zj))) 1 []))))) (zG (cE (.bl false))) (nxS))
  (zB (zK 1 (zU (Zx (vE 0)) (zI 0) (Zg) (zd ixT (vE 0) (cE (.int 0))) 1 []))
  (zG (ZR eqC (ap1 vX (vB 1)) (ap1 Zj (vB 1)))))
def GG:List T->R T:=λts=>zy (z0V (f_n) (GF) (en0 2 ts))
def b_7 (c_1o:List T->R T)(c_7:List T->R T)(c_16:List T->R T)(c_1s:List T->R T):En->RS:=
  zB (ifS (orT (zE eqC (vB 1) (cE (.int 0))) (orT (uD (jG (ap1 (Wl "tuple") (vB 0)))) (zE eqC (ap1 Zj (vB 0)) (cE (.int 0))))) (zG (cE (.bl false))) (nxS))
  (zB (ifS (zE eqC (zd ixT (vE 0) (cE (.int 0))) (cE (.str "whole"))) (zG (jx (ZR eqC (ap1 Zj (vB 0)) (cE (.int 3))) (za 4 c_1o (z9 (zd ixT (vE 0) (cE (.int 1))) (z9 (zd ixT (vE 0) (cE (.int 2))) (z9 (uC (cE (.int 20))) (z9 (cE (.int 20)) (zj)))))))) (nxS))
  (zB (ifS (zE eqC (zd ixT (vE 0) (cE (.int 0))) (cE (.str "pick"))) (zG (jx (ZR eqC (ap1 Zj (vB 0)) (cE (.int 2))) (za 1 c_16 (z9 (zd ixT (vE 0) (cE (.int 1))) (zj))))) (nxS))
  (zB (ifS (zE eqC (zd ixT (vE 0) (cE (.int 0))) (cE (.str "row"))) (zG (jx (ZR eqC (ap1 Zj (vB 0)) (cE (.int 2))) (za 2 c_1s (z9 (zd ixT (vE 0) (cE (.int 1))) (z9 (zd jv (vE 1) (cE (.int 1))) (zj)))))) (nxS))
  (zB (ifS (zE eqC (zd ixT (vE 0) (cE (.int 0))) (cE (.str "many"))) (zG (jx (ZR eqC (ap1 Zj (vB 0)) (cE (.int 4))) (jx (za 4 c_1o (z9 (zd ixT (vE 0) (cE (.int 2))) (z9 (zd ixT (vE 0) (cE (.int 3))) (z9 (cE (.int 0)) (z9 (cE (.int 3)) (zj)))))) (za 2 c_7 (z9 (zd ixT (vE 0) (cE (.int 1))) (z9 (zd jv (vE 1) (cE (.int 1))) (zj))))))) (nxS))
  (zG (cE (.bl false)))))))
def z0W (c_n:List T->R T)(c_7:List T->R T):En->RS:=
  zG (jx (za 3 c_n (z9 (vE 0) (z9 (cE (.int 1)) (z9 (cE (.int 3)) (zj))))) (ap1 Xk (zU (Zx (vE 0)) (zI 0) (Zg) (za 2 c_7 (z9 (vE 0) (z9 (vE 1) (zj)))) 1 [1])))
def S_7:Nat->Nat->List T->R T
 | 0,_=>λ_=> .bad
 | n+1,0=>λts=>zy (b_7 (z0T) (S_7 n 0) (GG) (S_7 n 1) (en0 2 ts))
 | n+1,_=>λts=>zy (z0W (f_n) (S_7 n 0) (en0 2 ts))
abbrev f_7 (n:Nat):List T->R T:=S_7 n 0
abbrev f_1s (n:Nat):List T->R T:=S_7 n 1
def b_3 (c_7:List T->R T):En->RS:=
  zG (za 2 c_7 (z9 (vE 0) (z9 (cE (.int 3)) (zj))))
def f_3:List T->R T:=λts=>zy (b_3 (f_7 20) (en0 1 ts))
def z0X (c_3:List T->R T):En->RS:=
  ifS (uD (jG (za 1 c_3 (z9 (vE 0) (zj))))) (gR) (nxS)
def z2M:List T->R T:=λts=>zy (z0X (f_3) (en0 1 ts))
def b_1 (c_w:List T->R T)(c_q:List T->R T):En->RS:=
  zB (ifS (zE eqC (zd ixT (vE 0) (cE (.int 0))) (cE (.str "whole"))) (zG (zd zD (zd jv (zd ixT (vE 0) (cE (.int 2))) (zd ixT (vE 0) (cE (.int 1)))) (cE (.int 1)))) (nxS))
  (zB (ifS (zE eqC (zd ixT (vE 0) (cE (.int 0))) (cE (.str "pick"))) (zG (ap1 Zj (zd ixT (vE 0) (cE (.int 1))))) (nxS))
  (zB (ifS (zE eqC (zd ixT (vE 0) (cE (.int 0))) (cE (.str "row"))) (zG (za 1 c_w (z9 (zd ixT (vE 0) (cE (.int 1))) (zj)))) (nxS))
  (zG (za 2 c_q (z9 (vE 0) (z9 (zd zD (zd ixT (vE 0) (cE (.int 3))) (cE (.int 1))) (zj)))))))
def b_w (c_1:List T->R T):En->RS:=
  zB (zK 1 (cE (.int 1)))
  (zB (j0 (Zx (vE 0)) (zI 2) (zK 1 (zd Za (vE 1) (za 1 c_1 (z9 (vE 2) (zj))))))
  (zG (vE 1)))
def b_q (c_w:List T->R T):En->RS:=
  zG (ap1 XH (zU (Jl (zd ixT (vE 0) (cE (.int 2))) (vE 1)) (zI 0) (Zg) (za 1 c_w (z9 (zd Za (j7 (z9 (zd ixT (vE 1) (cE (.int 1))) (zj))) (vE 0)) (zj))) 1 [0]))
def S_1:Nat->Nat->List T->R T
 | 0,_=>λ_=> .bad
 | n+1,0=>λts=>zy (b_1 (S_1 n 1) (S_1 n 2) (en0 1 ts))
 | n+1,1=>λts=>zy (b_w (S_1 n 0) (en0 3 ts))
 | n+1,_=>λts=>zy (b_q (S_1 n 1) (en0 2 ts))
abbrev f_1 (n:Nat):List T->R T:=S_1 n 0
abbrev f_w (n:Nat):List T->R T:=S_1 n 1
abbrev f_q (n:Nat):List T->R T:=S_1 n 2
def z0Y:En->RS:=
  zG (zU (Zx (zd ixT (vE 0) (cE (.int 1)))) (zI 0) (Zg) (zd ixT (vE 0) (cE (.int 0))) 1 [])
def GH:List T->R T:=λts=>zy (z0Y  (en0 1 ts))
def b_d (c_15:List T->R T)(c_1r:List T->R T)(c_12:List T->R T):En->RS:=
  zB (ifS (zE eqC (zd ixT (vE 0) (cE (.int 0))) (cE (.str "whole"))) (zG (zd zD (zd ixT (vE 0) (cE (.int 1))) (vE 1))) (nxS))
  (zB (ifS (zE eqC (zd ixT (vE 0) (cE (.int 0))) (cE (.str "pick"))) (zG (zd ixT (za 1 c_15 (z9 (vE 0) (zj))) (vE 1))) (nxS))
  (zB (ifS (zE eqC (zd ixT (vE 0) (cE (.int 0))) (cE (.str "row"))) (zG (za 2 c_12 (z9 (zd ixT (vE 0) (cE (.int 1))) (z9 (vE 1) (zj))))) (nxS))
  (zG (za 2 c_1r (z9 (vE 0) (z9 (vE 1) (zj)))))))
def GI (c_q:List T->R T)(c_12:List T->R T):En->RS:=
  zB (zK 2 (zd ixT (vE 0) (cE (.int 2))))
  (zB (ZI (zE leC (za 2 c_q (z9 (vE 0) (z9 (zd zD (vE 2) (cE (.int 1))) (zj)))) (vB 1)) (zK 2 (zd zD (vE 2) (cE (.int 1)))) (8))
  (zG (za 2 c_12 (z9 (zd Za (j7 (z9 (zd ixT (vE 0) (cE (.int 1))) (zj))) (vE 2)) (z9 (zd jv (vE 1) (za 2 c_q (z9 (vE 0) (z9 (vE 2) (zj))))) (zj))))))
def GJ (c_1:List T->R T)(c_d:List T->R T):En->RS:=
  zB (yR 2 (zj))
  (zB (zK 3 (vE 1))
  (zB (j0 (z2k (vE 0)) (zI 4) (zB (zK 5 (za 1 c_1 (z9 (vE 4) (zj))))
  (zB (Uc 2 (za 2 c_d (z9 (vE 4) (z9 (zd jw (vE 3) (vE 5)) (zj)))))
  (zK 3 (zd wT (vE 3) (vE 5))))))
  (zG (ap1 V7 (vE 2)))))
def S_d:Nat->Nat->List T->R T
 | 0,_=>λ_=> .bad
 | n+1,0=>λts=>zy (b_d (GH) (S_d n 1) (S_d n 2) (en0 2 ts))
 | n+1,1=>λts=>zy (GI (f_q 20) (S_d n 2) (en0 3 ts))
 | n+1,_=>λts=>zy (GJ (f_1 20) (S_d n 0) (en0 6 ts))
abbrev f_d (n:Nat):List T->R T:=S_d n 0
abbrev f_1r (n:Nat):List T->R T:=S_d n 1
abbrev f_12 (n:Nat):List T->R T:=S_d n 2
def b_l (c_1m:List T->R T)(c_1:List T->R T)(c_d:List T->R T):En->RS:=
  zB (JK (za 1 c_1m (z9 (vE 0) (zj))))
  (zB (zK 1 (za 1 c_1 (z9 (vE 0) (zj))))
  (zB (ifS (zE gtC (vB 1) (cE (.int 500))) (gR) (nxS))
  (z0J (Zv (vE 1)) (zI 0) (Zg) (za 2 c_d (z9 (vE 1) (z9 (vE 0) (zj)))) 1 [0])))
def f_l:List T->R T:=λts=>zy (b_l (z2M) (f_1 20) (f_d 20) (en0 2 ts))
def b_h (c_h:List T->R T):En->RS:=
  zB (ifS (uD (jG (ap1 (Wl "tuple") (vB 0)))) (zG (j7 (z9 (vE 0) (zj)))) (nxS))
  (zB (yR 1 (zj))
  (zB (j0 (Zx (vE 0)) (zI 2) (vd 1 (za 1 c_h (z9 (vE 2) (zj)))))
  (zG (vE 1))))
def S_h:Nat->Nat->List T->R T
 | 0,_=>λ_=> .bad
 | n+1,_=>λts=>zy (b_h (S_h n 0) (en0 3 ts))
abbrev f_h (n:Nat):List T->R T:=S_h n 0
def z2N (c_i:List T->R T)(c_h:List T->R T):En->RS:=
  zG (zU (Zx (za 1 c_h (z9 (vE 0) (zj)))) (zI 0) (jG (za 1 c_i (z9 (vE 0) (zj)))) (vE 0) 1 [])
def z0Z:List T->R T:=λts=>zy (z2N (f_i) (f_h 8) (en0 1 ts))
def b_1n:En->RS:=
  zG (ifE (jG (ap1 (Wl "tuple") (vB 0))) (vE 0) (Zh (z9 (vE 0) (zj))))
def z10:List T->R T:=λts=>zy (b_1n  (en0 1 ts))
def z2O:En->RS:=
  zG (ap1 Xk (zU (kX (vE 0) (slE (vE 0) (Jk (cE (.int 1))) (noO))) (Zq 0 1) (Zg) (ZR leC (vB 0) (vB 1)) 2 []))
def z2P:List T->R T:=λts=>zy (z2O  (en0 1 ts))
def z2Q:En->RS:=
  zG (vc (ap1 z2m (zU (Uq (vE 0)) (Zq 0 1) (Zg) (ZR inC (vB 1) (slE (vE 2) (noO) (Jk (vE 0)))) 2 [0])))
def z2R:List T->R T:=λts=>zy (z2Q  (en0 1 ts))
def z11 (c_1n:List T->R T)(c_h:List T->R T)(c_1f:List T->R T)(c_1p:List T->R T)(c_1q:List T->R T):En->RS:=
  zB (ifS (zE eqC (zd ixT (vE 0) (cE (.int 0))) (cE (.str "sum"))) (zG (chE leC leC (zd ixT (vE 0) (cE (.int 1))) (ap1 XH (za 1 c_1f (z9 (vE 1) (zj)))) (zd ixT (vE 0) (cE (.int 2))))) (nxS))
  (zB (ifS (zE eqC (zd ixT (vE 0) (cE (.int 0))) (cE (.str "size"))) (zG (chE leC leC (zd ixT (vE 0) (cE (.int 1))) (ap1 Zj (za 1 c_1n (z9 (vE 1) (zj)))) (zd ixT (vE 0) (cE (.int 2))))) (nxS))
  (zB (ifS (zE eqC (zd ixT (vE 0) (cE (.int 0))) (cE (.str "word"))) (zG (ZR inC (zd ixT (vE 0) (cE (.int 1))) (za 1 c_h (z9 (vE 1) (zj))))) (nxS))
  (zB (ifS (zE eqC (zd ixT (vE 0) (cE (.int 0))) (cE (.str "rising"))) (zG (za 1 c_1p (z9 (za 1 c_1f (z9 (vE 1) (zj))) (zj)))) (nxS))
  (zG (za 1 c_1q (z9 (za 1 c_1n (z9 (vE 1) (zj))) (zj)))))))
def GK:List T->R T:=λts=>zy (z11 (z10) (f_h 8) (z0Z) (z2P) (z2R) (en0 2 ts))
def b_6 (c_6:List T->R T)(c_14:List T->R T):En->RS:=
  zB (ifS (zE eqC (zd ixT (vE 0) (cE (.int 0))) (cE (.str "no"))) (zG (vc (za 2 c_6 (z9 (zd ixT (vE 0) (cE (.int 1))) (z9 (vE 1) (zj)))))) (nxS))
  (zB (ifS (zE eqC (zd ixT (vE 0) (cE (.int 0))) (cE (.str "all"))) (zG (jx (za 2 c_6 (z9 (zd ixT (vE 0) (cE (.int 1))) (z9 (vE 1) (zj)))) (za 2 c_6 (z9 (zd ixT (vE 0) (cE (.int 2))) (z9 (vE 1) (zj)))))) (nxS))
  (zB (ifS (zE eqC (zd ixT (vE 0) (cE (.int 0))) (cE (.str "some"))) (zG (orE (za 2 c_6 (z9 (zd ixT (vE 0) (cE (.int 1))) (z9 (vE 1) (zj)))) (za 2 c_6 (z9 (zd ixT (vE 0) (cE (.int 2))) (z9 (vE 1) (zj)))))) (nxS))
  (zG (za 2 c_14 (z9 (vE 0) (z9 (vE 1) (zj)))))))
def S_6:Nat->Nat->List T->R T
 | 0,_=>λ_=> .bad
 | n+1,_=>λts=>zy (b_6 (S_6 n 0) (GK) (en0 2 ts))
abbrev f_6 (n:Nat):List T->R T:=S_6 n 0
def z2S (c_6:List T->R T):En->RS:=
  zG (zU (Zx (vE 1)) (zI 0) (Zg) (ap1 Zj (zU (Zx (vE 1)) (zI 0) (jG (za 2 c_6 (z9 (vE 1) (z9 (vE 0) (zj))))) (vE 0) 1 [0])) 1 [0])
def z12:List T->R T:=λts=>zy (z2S (f_6 8) (en0 2 ts))
def b_p (c_l:List T->R T)(c_1e:List T->R T)(c_1i:List T->R T):En->RS:=
  zB (JK (za 1 c_1e (z9 (vE 1) (zj))))
  (zB (zK 2 (za 1 c_l (z9 (vE 0) (zj))))
  (zB (zK 3 (zU (Zx (za 2 c_1i (z9 (vE 2) (z9 (vE 1) (zj))))) (zI 0) (Zg) (zd uJ (vE 0) (zd jv (ap1 Zj (vB 1)) (vE 0))) 1 [2]))
  (zG (ifE (zE gtC (ap1 Zj (vB 3)) (cE (.int 0))) (z2f XF (vB 3) (ap1 qb (vB 3))) (cE .non)))))
def f_p:List T->R T:=λts=>zy (b_p (f_l) (z0S) (z12) (en0 4 ts))
def b_10 (c_l:List T->R T):En->R (T×En):=
  jA (stF 101 0 2 "kind" (vE 1))
  (jA (Vg 101 0 2 "remaining" (z9 (za 1 c_l (z9 (vE 1) (zj))) (zj)))
  (jA (Vg 101 0 2 "done" (zj))
  (jA (Vg 101 0 2 "undone" (zj))
  (z2w))))
def kd:List (Str×Fd)->List T->R (T×List (Str×Fd)):=λfs ts=>uM 101 2 (b_10 (f_l) (enM 101 2 fs ts))
def b_g:En->RS:=
  zG (ap1 Zj (ixV 101 0 1 "remaining" (uC (cE (.int 1)))))
def f_g:List (Str×Fd)->List T->R T:=λfs ts=>zy (b_g  (enO 101 1 fs (ts.take 0) (ts.drop 0)))
def z13 (c_6:List T->R T):En->RS:=
  zB (zK 2 (ZR eqC (zd ixT (vE 0) (cE (.int 0))) (cE (.str "keep"))))
  (zG (zU (Zx (vE 1)) (zI 0) (zE eqC (za 2 c_6 (z9 (zd ixT (vE 1) (cE (.int 1))) (z9 (vE 0) (zj)))) (vB 2)) (vE 0) 1 [0,2]))
def GL:List T->R T:=λts=>zy (z13 (f_6 8) (en0 3 ts))
def b_x (c_1b:List T->R T):En->R (T×En):=
  jA (kZ 101 0 2 "remaining" (za 2 c_1b (z9 (vE 1) (z9 (ixF 101 0 2 "remaining" (uC (cE (.int 1)))) (zj)))))
  (jA (kZ 101 0 2 "done" (vE 1))
  (z2w))
def f_x:List (Str×Fd)->List T->R (T×List (Str×Fd)):=λfs ts=>uM 101 2 (b_x (GL) (enM 101 2 fs ts))
def b_s (c_5:List T->R T)(c_g:List (Str×Fd)->List T->R T)(c_x:List (Str×Fd)->List T->R (T×List (Str×Fd))):En->R (T×En):=
  jA (JK (za 1 c_5 (z9 (vE 2) (zj))))
  (jA (zK 3 (jr 101 0 4 0 c_g zj))
  (jA (drM (wp 101 0 4 "do_step" 1 c_x (z9 (Zh (z9 (vE 1) (z9 (vE 2) (zj)))) (zj))))
  (jA (Vg 101 0 4 "undone" (zj))
  (qB (zd jv (vE 3) (jr 101 0 4 0 c_g zj))))))
def f_s:List (Str×Fd)->List T->R (T×List (Str×Fd)):=λfs ts=>uM 101 4 (b_s (f_5) (f_g) (f_x) (enM 101 4 fs ts))
def b_17 (c_s:List (Str×Fd)->List T->R (T×List (Str×Fd))):En->R (T×En):=
  wp 101 0 2 "new_step" 2 c_s (z9 (cE (.str "keep")) (z9 (vE 1) (zj)))
def K2:List (Str×Fd)->List T->R (T×List (Str×Fd)):=λfs ts=>uM 101 2 (b_17 (f_s) (enM 101 2 fs ts))
def b_19 (c_s:List (Str×Fd)->List T->R (T×List (Str×Fd))):En->R (T×En):=
  wp 101 0 2 "new_step" 2 c_s (z9 (cE (.str "bar")) (z9 (vE 1) (zj)))
def K3:List (Str×Fd)->List T->R (T×List (Str×Fd)):=λfs ts=>uM 101 2 (b_19 (f_s) (enM 101 2 fs ts))
def b_y:En->RS:=
  zG (ap1 lcpT (ixV 101 0 1 "remaining" (uC (cE (.int 1)))))
def f_y:List (Str×Fd)->List T->R T:=λfs ts=>zy (b_y  (enO 101 1 fs (ts.take 0) (ts.drop 0)))
def b_t (c_l:List T->R T)(c_5:List T->R T)(c_6:List T->R T):En->RS:=
  zB (JK (za 1 c_5 (z9 (vE 1) (zj))))
  (zG (zU (Zx (za 1 c_l (z9 (vE 0) (zj)))) (zI 0) (jG (za 2 c_6 (z9 (vE 1) (z9 (vE 0) (zj))))) (vE 0) 1 [1]))
def f_t:List T->R T:=λts=>zy (b_t (f_l) (f_5) (f_6 8) (en0 2 ts))
def z14:En->RS:=
  zB (ZI (zE neC (vB 1) (cE (.int 0))) (zB (zK 2 (zd jw (vE 0) (vE 1)))
  (zB (zK 0 (vE 1))
  (zK 1 (vE 2)))) (2 ^ 9000))
  (zG (vE 0))
def z15:List T->R T:=λts=>zy (z14  (en0 3 ts))
def b_o (c_1c:List T->R T):En->RS:=
  zB (zK 2 (za 2 c_1c (z9 (ap1 z0K (vB 0)) (z9 (vE 1) (zj)))))
  (zG (Zh (z9 (zd kY (vE 0) (vE 2)) (z9 (zd kY (vE 1) (vE 2)) (zj)))))
def f_o:List T->R T:=λts=>zy (b_o (z15) (en0 3 ts))
def z16 (c_o:List T->R T):En->RS:=
  zG (za 2 c_o (z9 (zd zD (zd mlT (zd ixT (vE 0) (cE (.int 0))) (zd ixT (vE 1) (cE (.int 1)))) (zd mlT (zd ixT (vE 1) (cE (.int 0))) (zd ixT (vE 0) (cE (.int 1))))) (z9 (zd mlT (zd ixT (vE 0) (cE (.int 1))) (zd ixT (vE 1) (cE (.int 1)))) (zj))))
def z17:List T->R T:=λts=>zy (z16 (f_o) (en0 2 ts))
def b_a (c_1h:List T->R T):En->RS:=
  zB (zK 1 (Zh (z9 (cE (.int 0)) (z9 (cE (.int 1)) (zj)))))
  (zB (j0 (Zx (vE 0)) (zI 2) (zK 1 (za 2 c_1h (z9 (vE 1) (z9 (vE 2) (zj))))))
  (zG (vE 1)))
def f_a:List T->R T:=λts=>zy (b_a (z17) (en0 3 ts))
def z18 (c_o:List T->R T):En->RS:=
  Vc 1 (zd ixT (vE 0) (cE (.int 1))) c_o
def z19:List T->R T:=λts=>zy (z18 (f_o) (en0 3 ts))
def b_r (c_o:List T->R T):En->RS:=
  zG (za 2 c_o (z9 (zd mlT (zd ixT (vE 0) (cE (.int 0))) (zd ixT (vE 1) (cE (.int 0)))) (z9 (zd mlT (zd ixT (vE 0) (cE (.int 1))) (zd ixT (vE 1) (cE (.int 1)))) (zj))))
def f_r:List T->R T:=λts=>zy (b_r (f_o) (en0 2 ts))
def b_b (c_1:List T->R T)(c_r:List T->R T)(c_1d:List T->R T)(c_1j:List T->R T):En->RS:=
  zB (ifS (zE eqC (zd ixT (vE 0) (cE (.int 0))) (cE (.str "whole"))) (zG (Zh (z9 (cE (.int 1)) (z9 (za 1 c_1 (z9 (vE 0) (zj))) (zj))))) (nxS))
  (zB (ifS (zE eqC (zd ixT (vE 0) (cE (.int 0))) (cE (.str "pick"))) (zG (za 2 c_1d (z9 (vE 0) (z9 (vE 1) (zj))))) (nxS))
  (zB (ifS (zE eqC (zd ixT (vE 0) (cE (.int 0))) (cE (.str "row"))) (zG (za 2 c_1j (z9 (zd ixT (vE 0) (cE (.int 1))) (z9 (vE 1) (zj))))) (nxS))
  (zB (zK 2 (Zh (z9 (cE (.int 1)) (z9 (zd zD (zd jv (zd ixT (vE 0) (cE (.int 3))) (zd ixT (vE 0) (cE (.int 2)))) (cE (.int 1))) (zj)))))
  (zG (za 2 c_r (z9 (vE 2) (z9 (za 2 c_1j (z9 (zd Za (j7 (z9 (zd ixT (vE 0) (cE (.int 1))) (zj))) (ap1 Zj (vB 1))) (z9 (vE 1) (zj)))) (zj))))))))
def GM (c_r:List T->R T)(c_b:List T->R T):En->RS:=
  zB (zK 2 (Zh (z9 (cE (.int 1)) (z9 (cE (.int 1)) (zj)))))
  (zB (j0 (kX (vE 0) (vE 1)) (Zq 3 4) (zK 2 (za 2 c_r (z9 (vE 2) (z9 (za 2 c_b (z9 (vE 3) (z9 (vE 4) (zj)))) (zj))))))
  (zG (vE 2)))
def S_b:Nat->Nat->List T->R T
 | 0,_=>λ_=> .bad
 | n+1,0=>λts=>zy (b_b (f_1 20) (f_r) (z19) (S_b n 1) (en0 3 ts))
 | n+1,_=>λts=>zy (GM (f_r) (S_b n 0) (en0 5 ts))
abbrev f_b (n:Nat):List T->R T:=S_b n 0
abbrev f_1j (n:Nat):List T->R T:=S_b n 1
def b_v (c_a:List T->R T)(c_b:List T->R T):En->RS:=
  zG (za 1 c_a (z9 (zU (Zx (vE 1)) (zI 0) (Zg) (za 2 c_b (z9 (vE 1) (z9 (vE 0) (zj)))) 1 [0]) (zj)))
def f_v:List T->R T:=λts=>zy (b_v (f_a) (f_b 20) (en0 2 ts))
def z1a (c_v:List T->R T):En->RS:=
  zG (za 2 c_v (z9 (z0M 101 0 1 "kind") (z9 (ixV 101 0 1 "remaining" (uC (cE (.int 1)))) (zj))))
def K4:List (Str×Fd)->List T->R T:=λfs ts=>zy (z1a (f_v) (enO 101 1 fs (ts.take 0) (ts.drop 0)))
def z2T (c_v:List T->R T)(c_t:List T->R T):En->RS:=
  zG (za 2 c_v (z9 (vE 0) (z9 (za 2 c_t (z9 (vE 0) (z9 (vE 1) (zj)))) (zj))))
def z1b:List T->R T:=λts=>zy (z2T (f_v) (f_t) (en0 2 ts))
def b_0 (c_2:List T->R T)(c_4:List T->R T)(c_18:List T->R T)(c_j:List T->R T)(c_9:List T->R T)(c_t:List T->R T)(c_1k:List T->R T)(c_p:List T->R T)(c_10:List (Str×Fd)->List T->R (T×List (Str×Fd)))(c_17:List (Str×Fd)->List T->R (T×List (Str×Fd)))(c_19:List (Str×Fd)->List T->R (T×List (Str×Fd)))(c_g:List (Str×Fd)->List T->R T)(c_y:List (Str×Fd)->List T->R T)(c_11:List (Str×Fd)->List T->R T):En->RS:=
  zB (zK 1 (za 3 c_18 (z9 (vE 0) (z9 (cE (.int 10)) (z9 (cE (.int 60)) (zj))))))
  (zB (Vm 2 3 4 (za 1 c_4 (z9 (vE 1) (zj))))
  (zB (j0 (Zv (zd zD (cE (.int 1)) (za 3 c_2 (z9 (vE 0) (z9 (cE (.int 0)) (z9 (cE (.int 5)) (zj))))))) (zI 5) (zB (zK 6 (za 3 c_j (z9 (vE 0) (z9 (zd zD (cE (.int 4000)) (zd Za (cE (.int 300)) (vE 5))) (z9 (cE (.int 2)) (zj))))))
  (zB (zK 7 (ap1 Zj (zU (Zx (vE 2)) (zI 0) (jG (za 2 c_9 (z9 (vE 1) (z9 (vE 0) (zj))))) (vE 0) 1 [6])))
  (zB (Uc 3 (vE 6))
  (Uc 4 (Zh (z9 (zd uJ (vE 7) (zd jv (ap1 Zj (vB 2)) (vE 7))) (z9 (vE 5) (zj)))))))))
  (zB (zK 8 (za 2 c_p (z9 (vE 1) (z9 (Gy 3) (zj)))))
  (zB (ifS (orT (zE neC (vB 8) (zd wq (vB 4) (cE (.int 1)))) (orT (zE neC (za 2 c_p (z9 (vE 1) (z9 (GA 3) (zj)))) (vB 8)) (zE WD (za 2 c_p (z9 (vE 1) (z9 (j7 (zj)) (zj)))) (cE .non)))) (zG (cE (.bl false))) (nxS))
  (zB (WR 9 10 11 12 (mkA 11 13 101 1 c_10 (z9 (vE 1) (zj))) (mkA 12 13 101 1 c_10 (z9 (vE 1) (zj))))
  (zB (ifM (orM (K0 neC (k8 zD (wp 101 9 13 "keep" 1 c_17 (z9 (ixO 3 (vE 8)) (zj))) (wp 101 10 13 "bar" 1 c_19 (z9 (ixO 3 (vE 8)) (zj)))) (ap1 Zj (vB 2))) (tmP (zE neC (zd zD (jr 101 9 13 0 c_g zj) (jr 101 10 13 0 c_g zj)) (ap1 Zj (vB 2))))) (zG (cE (.bl false))) (nxS))
  (zB (ifS (orT (zE neC (zd uJ (jr 101 9 13 0 c_g zj) (jr 101 10 13 0 c_g zj)) (zd wq (vB 4) (cE (.int 0)))) (zE neC (jr 101 9 13 0 c_y zj) (za 2 c_t (z9 (vE 1) (z9 (ixO 3 (vE 8)) (zj)))))) (zG (cE (.bl false))) (nxS))
  (zB (ifS (orT (zE neC (jr 101 9 13 0 c_11 zj) (za 2 c_1k (z9 (vE 1) (z9 (ixO 3 (vE 8)) (zj))))) (zE neC (jr 101 10 13 0 c_y zj) (za 2 c_t (z9 (vE 1) (z9 (Zh (z9 (cE (.str "no")) (z9 (ixO 3 (vE 8)) (zj)))) (zj)))))) (zG (cE (.bl false))) (nxS))
  (K1 (z2J (cmM eqC (k8 zD (wp 101 9 13 "bar" 1 c_19 (z9 (ixO 3 (vE 8)) (zj))) (wp 101 10 13 "keep" 1 c_17 (z9 (ixO 3 (vE 8)) (zj)))) (qB (ap1 Zj (vB 2)))) (qB (ZR eqC (jr 101 9 13 0 c_g zj) (cE (.int 0))))))))))))))
def f_0:List T->R T:=λts=>zy (b_0 (f_2) (f_4 8) (GE) (f_j 8) (f_9 8) (f_t) (z1b) (f_p) (kd) (K2) (K3) (f_g) (f_y) (K4) (enS 14 ts))
end G
namespace G
open PySem L2 PV
noncomputable abbrev scr (ns:List Int):T:= .fz (ns.map T.int)
theorem ke (ns:List Int)(k:Int)(h0:0<=k):∃c,GC [scr ns,.int k]= .ok (.int c):=by
 have e1:GC [scr ns,.int k]=zy (if decide (k < ((ns.map T.int).length))=true then (atT (ns.map T.int) k).s (λt=> .rt t) else
   match (eqC (scr ns) (.lst [])).s (λb=>if b=true then RS.rt (.int 0) else .nx [.vl (scr ns),.vl (.int k)]) with
   | .nx ρ' =>zG (zd zD (zd Za (zd ixT (vE 0) (zd jw (vE 1) (ap1 Zj (vB 0)))) (cE (.int 31))) (vE 1)) ρ'
   | r=>r):=by
  show zy (match (if decide _=true then (atT _ k).s (λt=>RS.rt t) else .nx _) with
   | .nx ρ' =>_
   | r=>r)=_
  cases decide (k < ((ns.map _).length:Int)) with
  | true=>
   unfold atT;cases atI _ k <;> rfl
  | false=>rfl
 rw[e1,ac]
 by_cases hk:k < (ns.length)
 ·obtain⟨v,hv⟩:∃v,ns[k.toNat]? =some v:=⟨ns[k.toNat]'(by omega),ae (by omega)⟩
  have ea:atI (ns.map T.int) k=some (.int v):=by
   have:k=((k.toNat):Int):=by omega
   rw[this];exact ZZ (by rw[ar,hv];rfl)
  rw[decide_eq_true hk];exact⟨v,by unfold atT;rw[ea];rfl⟩
 ·rw[decide_eq_false hk];cases ns with
  | nil=>exact⟨0,rfl⟩
  | cons x xs=>
   have hm0:=iO k (show (((x :: xs).length):Int) ≠ 0 by simp only[am];omega)
   have hm1:=h9 k (show (0) < (((x :: xs).length):Int) by simp only[am];omega)
   obtain⟨v,hv⟩:∃v,(x :: xs)[(k % (((x :: xs).length):Int)).toNat]? =some v:=⟨_,ae (by omega)⟩
   have ea:atI ((x :: xs).map T.int) (k % (((x :: xs).length):Int))=some (.int v):=by
    have e:k % (((x :: xs).length):Int)=(((k % (((x :: xs).length):Int)).toNat:Nat):Int):=by omega
    rw[e];exact ZZ (by rw[ar,hv];rfl)
   have cm:uo v 31:= .inr ⟨by decide,by decide⟩
   have hp:(0:Int) < (((x :: xs).map T.int).length):=by simp only[ac,am];omega
   refine⟨v*31+k, ?_⟩;show zy (((((if 0 < (((x :: xs).map _).length:Int) then R.ok _ else .bad).bind λy=>ixT _ y).bind λa=>Za a _).bind λa=>zD a _).s λt=> .rt t)=_
   rw[if_pos hp];show zy ((((atT _ _).bind λa=>Za a _).bind λa=>zD a _).s λt=> .rt t)=_;rw[ac];unfold atT;rw[ea];show zy ((((if uo v 31 then R.ok _ else .bad)).bind λa=>zD a _).s λt=> .rt t)=_
   rw[if_pos cm];rfl
theorem zW (ns:List Int)(k m:Int)(h0:0<=k)(hm:0 < m):∃p,f_2 [scr ns,.int k,.int m]= .ok (.int p)/\0<=p/\p < m:=by
 obtain⟨c,hc⟩:=ke ns k h0;have cm2:uo (c+6151*(k+1)) 40692:= .inr ⟨by decide,by decide⟩
 generalize hd:(c+6151*(k+1))*40692 % 2147483399=d;have cm3:uo d d:= .inl ⟨by omega,by omega⟩
 refine⟨(d*d+d / 31) % 2147483629 % m, ?_,iO _ (by omega),h9 _ hm⟩
 have e1:f_2 [scr ns,.int k,.int m]=zy (match ((((((GC _).bind λx=>(Za (.int 6151) (.int _)).bind λy=>zD x y).bind λx=>Za x _).bind λx=>jw x _)).s λt=>RS.nx _) with
   | .nx ρ' =>zG _ ρ'
   | r=>r):=rfl
 rw[e1,hc];show zy (match ((((if uo _ _ then R.ok _ else .bad)).bind λx=>jw x _).s λt=>RS.nx _) with
   | .nx ρ' =>_
   | r=>r)=_
 rw[if_pos cm2];show zy (zG _ _)=_;rw[hd];show zy (((((if uo d d then R.ok _ else .bad).bind λx=>zD x _).bind λx=>jw x _).bind λx=>jw x _).s λt=>RS.rt t)=_
 rw[if_pos cm3];show zy ((if 0 < m then R.ok _ else .bad).s λt=>RS.rt t)=_
 rw[if_pos hm];rfl
theorem qL:∀(ts:List T) (ρ:En) (x:Sl),zP (zI 0) ft fe ts (ρ.set 0 x)=zP (zI 0) ft fe ts ρ
 | [],_,_=>rfl
 | t :: ts,ρ,x=>by
  unfold zP zI;rw[List.set_set]
theorem jc {p:T->Bool}{h:T->T}:∀(ts:List T) (ρ:En),(∀t∈ts,ft (ρ.set 0 (.vl t))= .ok (p t)/\(p t=true->fe (ρ.set 0 (.vl t))= .ok (h t)))->zP (zI 0) ft fe ts ρ= .ok ((ts.filter p).map h)
 | [],_,_=>rfl
 | t :: ts,ρ,H=>by
  obtain⟨h1,h2⟩:=H t ab;have ih:=jc ts ρ λu hu=>H u (a8 _ hu);have e:zP (zI 0) ft fe (t :: ts) ρ=(ft _).bind λk=>if k=true then (fe _).bind λv=>(zP _ ft fe ts _).bind λvs=> .ok _ else zP _ ft fe ts _:=rfl
  rw[e,h1,qL,ih];show (if p t=true then _ else _)=_
  cases hp:p t with
  | true=>rw[h2 hp,List.filter_cons_of_pos hp];rfl
  | false=>rw[if_neg aG,List.filter_cons_of_neg (by rw[hp];exact aG)]
theorem qN {h:T->T}(ts:List T)(ρ:En)(H:∀t∈ts,fe (ρ.set 0 (.vl t))= .ok (h t)):zP (zI 0) Zg fe ts ρ= .ok (ts.map h):=by
 have:=jc (ft:=Zg) ts ρ λt ht=>⟨rfl,λ_=>H t ht⟩;rw[this,List.filter_eq_self.mpr (λ_ _=>rfl)]
theorem Z3 {h:T->T}{js:List Nat}(ts:List T)(hl:ts.length<=bnd)(H:∀t∈ts,fe ((wy k js ρ).set 0 (.vl t))= .ok (h t)):zC (zI 0) Zg fe k js ρ ts= .ok (ts.map h):=by
 unfold zC;rw[if_pos hl,qN ts _ H];rfl
theorem Jq (p:T->Bool):∀ts:List T,ur (ts.map λt=>T.bl (p t))=some (ts.all p)
 | []=>rfl
 | t :: ts=>by
  show (match ur (ts.map λt=>T.bl _) with | some j=>some _ | none=>none)=_
  rw[Jq p ts];rfl
noncomputable def isW:T->Bool
 | .int _=>true
 | _=>false
theorem UA (t:T):f_i [t]= .ok (.bl (isW t)):=by cases t <;> rfl
noncomputable def Vn (a b:Nat):T->Bool
 | .tup xs=>decide (a<=xs.length) && decide (xs.length<=b)
 | _=>false
theorem jB (t:T)(a b:Nat):f_n [t,.int a,.int b]= .ok (.bl (Vn a b t)):=by
 cases t with
 | tup xs=>
  show zy ((if decide _=true then R.ok _ else .ok _).s λt=> .rt t)=_
  have e1:decide ((a:Int)<=(xs.length))=decide (a<=xs.length):=by simp
  have e2:decide ((xs.length:Int)<=(b))=decide (xs.length<=b):=by simp
  rw[e1,e2];show _=R.ok (T.bl (decide _ && decide _));cases decide (a<=xs.length) <;> rfl
 | _=>rfl
noncomputable def Jf (lo hi:Int):T->T->Bool
 | .int i,.int j=>decide (lo<=i) && decide (i<=j) && decide (j<=hi)
 | _,_=>false
theorem qQ (t u:T)(lo hi:Int):z0T [t,u,.int lo,.int hi]= .ok (.bl (Jf lo hi t u)):=by
 cases t with
 | int i=>
  cases u with
  | int j=>
   show zy ((if decide _=true then (if decide _=true then R.ok _ else .ok _) else .ok _).s λt=> .rt t)=_
   show _=R.ok (T.bl (decide _ && decide _ && decide _));cases decide (lo<=i) <;> cases decide (i<=j) <;> rfl
  | _=>rfl
 | _=>cases u <;> rfl
noncomputable def Zy (c:Nat):Bool:=decide (97<=c) && decide (c<=122)
def Zr:T->Bool
 | .str x=>decide (1<=x.length) && decide (x.length<=3) && x.cps.toList.all Zy
 | _=>false
theorem xl (a b:Nat):decide ([a] < [b])=decide (a < b):=by
 by_cases h:a < b
 ·rw[decide_eq_true h];exact decide_eq_true (List.Lex.rel h)
 ·rw[decide_eq_false h];refine decide_eq_false λz=> ?_;cases z with
  | rel h' =>exact h h'
  | cons h' =>cases h'
theorem kf (c:Nat)(ρ:En):chE leC leC (cE (.str "a")) (vB 0) (cE (.str "z")) ((Sl.vl (.str ⟨#[c]⟩)) :: ρ)= .ok (.bl (Zy c)):=by
 have e1:leC (.str "a") (.str ⟨#[c]⟩)= .ok (decide (97<=c)):=by
  show R.ok (!decide ([c] < [97]))=_;rw[xl]
  by_cases h:c < 97
  ·rw[decide_eq_true h,decide_eq_false (by omega)];rfl
  ·rw[decide_eq_false h,decide_eq_true (by omega)];rfl
 have e2:leC (.str ⟨#[c]⟩) (.str "z")= .ok (decide (c<=122)):=by
  show R.ok (!decide ([122] < [c]))=_;rw[xl]
  by_cases h:122 < c
  ·rw[decide_eq_true h,decide_eq_false (by omega)];rfl
  ·rw[decide_eq_false h,decide_eq_true (by omega)];rfl
 show (leC (.str "a") (.str _)).bind (λk=>if k=true then (leC (.str _) (.str "z")).bind λk' =>R.ok (T.bl k') else R.ok _)=_
 rw[e1,e2];unfold Zy;cases decide (97<=c) <;> rfl
def kg:T->Prop
 | .str x=>x.length<=bnd
 | _=>True
theorem qR (t:T)(ht:kg t):f_u [t]= .ok (.bl (Zr t)):=by
 cases t with
 | str x=>
  have hx:=ht;have e0:Zj (.str x)= .ok _:=if_pos hx;have ec:zC (zI 0) Zg (chE leC leC (cE (.str "a")) (vB 0) (cE (.str "z"))) 1 [] [.vl (.str x)] (JN x)= .ok (x.cps.toList.map λc=>T.bl (Zy c)):=by
   have hs:(JN x).length<=bnd:=by unfold JN;rw[ac];exact hx
   have:=Z3 (h:=λt=>match t with | .str y=>T.bl (Zy (y.cps.toList.headD 0)) | t=>t) (k:=1) (js:=[]) (ρ:=[.vl (.str x)]) _ hs λt ht=>by
    obtain⟨c,_,rfl⟩:=aI.mp ht;exact kf c []
   rw[this];unfold JN;rw[b8];rfl
  have ea:ur (x.cps.toList.map λc=>T.bl (Zy c))=some (x.cps.toList.all Zy):=by
   have:=Jq (λt=>match t with | .str y=>Zy (y.cps.toList.headD 0) | _=>true) (JN x)
   unfold JN at this;rw[b8,ib]at this;exact this
  have e1:f_u [.str x]=zy (match ((((Zj (.str x)).bind λy=>(leC _ y).bind λk=>if k=true then leC y _ else .ok _).bind λb=> .ok _).s λk=>if k=true then RS.rt _ else .nx _) with
    | .nx ρ' =>zG _ ρ'
    | r=>r):=rfl
  rw[e1,e0];have c1:decide ((1:Int)<=(x.length))=decide (1<=x.length):=by
   by_cases h:1<=x.length
   ·rw[decide_eq_true h];exact decide_eq_true (by omega)
   ·rw[decide_eq_false h];exact decide_eq_false (by omega)
  have c2:decide ((x.length:Int)<=(3))=decide (x.length<=3):=by
   by_cases h:x.length<=3
   ·rw[decide_eq_true h];exact decide_eq_true (by omega)
   ·rw[decide_eq_false h];exact decide_eq_false (by omega)
  show zy (match ((((if decide _=true then R.ok _ else .ok _)).bind λb=> .ok _).s λk=>if k=true then RS.rt _ else .nx _) with
    | .nx ρ' =>_
    | r=>r)=_
  rw[c1,c2];show _=R.ok (T.bl (decide _ && decide _ && x.cps.toList.all _));cases decide (1<=x.length) with
  | false=>rfl
  | true=>
   cases decide (x.length<=3) with
   | false=>rfl
   | true=>
    show zy ((((zC _ _ _ 1 [] [.vl _] _).bind λvs=> .ok _).bind Xk).s λt=> .rt t)=_;rw[ec];show zy ((match ur (x.cps.toList.map λc=>T.bl _) with | some k=>R.ok _ | none=> .bad).s λt=> .rt t)=_
    rw[ea];rfl
 | _=>rfl
theorem bOk {α β:Type}(a:α)(f:α->R β):(R.ok a).bind f=f a:=rfl
theorem ZQ {α:Type}(a:α)(f:α->RS):(R.ok a).s f=f a:=rfl
theorem Jg (r:R T):zy (r.s λt=> .rt t)=r:=by cases r <;> rfl
theorem Zf (f:En->R T)(ρ:En):zG f ρ=(f (frz ρ)).s λt=> .rt t:=rfl
theorem zV:za 1 g (z9 f zj) ρ=(f ρ).bind λx=>g [x]:=by
 unfold za z9 zj;cases f ρ <;> rfl
theorem zN:za 2 g (z9 f (z9 f' zj)) ρ=(f ρ).bind λx=>(f' ρ).bind λy=>g [x,y]:=by
 unfold za z9 zj;cases f ρ with
 | ok a=>cases f' ρ <;> rfl
 | ex c=>rfl
 | bad=>rfl
theorem ZB:za 3 g (z9 f (z9 f' (z9 f'' zj))) ρ=(f ρ).bind λx=>(f' ρ).bind λy=>(f'' ρ).bind λz=>g [x,y,z]:=by
 unfold za z9 zj;cases f ρ with
 | ok a=>
  cases f' ρ with
  | ok b=>cases f'' ρ <;> rfl
  | ex c=>rfl
  | bad=>rfl
 | ex c=>rfl
 | bad=>rfl
theorem z2U:za 4 g (z9 f (z9 f' (z9 f'' (z9 f3 zj)))) ρ=(f ρ).bind λx=>(f' ρ).bind λy=>(f'' ρ).bind λz=>(f3 ρ).bind λw=>g [x,y,z,w]:=by
 unfold za z9 zj;cases f ρ with
 | ok a=>
  cases f' ρ with
  | ok b=>
   cases f'' ρ with
   | ok c=>cases f3 ρ <;> rfl
   | ex c=>rfl
   | bad=>rfl
  | ex c=>rfl
  | bad=>rfl
 | ex c=>rfl
 | bad=>rfl
def z1c (r k:R T):R T:=r.bind λx=>match x with
 | .bl true=>k
 | .bl false=> .ok (.bl false)
 | _=> .bad
theorem wF (f g:En->R T)(ρ:En):jx f g ρ=z1c (f ρ) (g ρ):=rfl
theorem ZL (a:Bool)(k:R T):z1c (.ok (.bl a)) k=if a=true then k else .ok (.bl false):=by cases a <;> rfl
theorem v0:vE 0 (.vl t :: ρ)= .ok t:=rfl
theorem v1:vE 1 (a :: .vl t :: ρ)= .ok t:=rfl
theorem w0:vB 0 (.vl t :: ρ)= .ok t:=rfl
theorem w1:vB 1 (a :: .vl t :: ρ)= .ok t:=rfl
theorem Z1:cE t ρ= .ok t:=rfl
theorem zt:zd g f f' ρ=(f ρ).bind λx=>(f' ρ).bind λy=>g x y:=rfl
theorem jd:frz (.vl t :: ρ)= .vl t :: frz ρ:=rfl
theorem W6:frz (.un :: ρ)= .un :: frz ρ:=rfl
theorem jC:frz []=[]:=rfl
theorem Vo:chE g g' fa fb fc ρ=(fa ρ).bind λx=>(fb ρ).bind λy=>(g x y).bind λk=>if k=true then (fc ρ).bind λz=>(g' y z).bind λk' => .ok (.bl k') else .ok (.bl false):=rfl
theorem ZS {g:T->R T}:ap1 g f ρ=(f ρ).bind g:=rfl
theorem WU:leC (.int i) (.int j)= .ok (decide (i<=j)):=rfl
theorem Zl:ZR g f f' ρ=(f ρ).bind λx=>(f' ρ).bind λy=>(g x y).bind λb=> .ok (.bl b):=rfl
theorem WV:Zj (.tup xs)= .ok (.int xs.length):=rfl
theorem GN:Zj (.lst xs)= .ok (.int xs.length):=rfl
mutual
noncomputable def sOk:T->Prop
 | .str x=>x.length<=bnd
 | .tup xs=>UB xs
 | .lst xs=>UB xs
 | .fz xs=>UB xs
 | _=>True
noncomputable def UB:List T->Prop
 | []=>True
 | t :: ts=>sOk t/\UB ts
end
theorem jO:∀{ts:List T} {t:T},UB ts->t∈ts->sOk t
 | u :: ts,t,h,hm=>by
  have h' :=by simpa only[UB] using h
  rcases ak.mp hm with rfl | hm
  ·exact h'.1
  ·exact jO h'.2 hm
theorem sOk.str (h:sOk t):kg t:=by
 cases t with
 | str x=>
  have h' :=by simpa only[sOk] using h
  exact h'
 | _=>trivial
theorem W7 {xs:List T}(h:sOk (.tup xs)):UB xs:=by simpa only[sOk] using h
def Z0:T->Bool
 | .tup [w,.int i]=>Zr w && decide (1<=i) && decide (i<=20)
 | _=>false
theorem qS (t:T)(ht:sOk t):GF [t]= .ok (.bl (Z0 t)):=by
 have e:GF [t]=zy (z0U _ _ _ [.vl t]):=rfl;rw[e,z0U];simp only[Zf,Jg,jd,jC,wF,ZB,zV,v0,Z1,bOk,zt,Vo];rw[show f_n [t,.int 2,.int 2]= .ok _ from jB t 2 2,ZL];cases t with
 | tup xs=>
  match xs,ht with
  | [],_=>rfl
  | [_],_=>rfl
  | _ :: _ :: _ :: _,_=>simp[Vn,Z0]
  | [w,n],ht=>
   have hw:sOk w:=jO (W7 ht) (by simp)
   show (if true=true then z1c (f_u [w]) (z1c (f_i [n]) ((leC _ n).bind λk=>if k=true then (leC n _).bind λk' =>R.ok _ else .ok _)) else _)=_
   rw[qR w hw.str,UA,ZL,ZL];cases n with
   | int i=>
    show (if Zr w=true then (if true=true then (if decide _=true then R.ok _ else .ok _) else _) else _)=R.ok (T.bl (Zr w && decide _ && decide _))
    cases Zr w <;> cases decide (1<=i) <;> rfl
   | _=>
    cases Zr w <;> rfl
 | _=>rfl
theorem Z8 (f g:En->RS)(ρ:En):zB f g ρ=match f ρ with | .nx ρ' =>g ρ' | r=>r:=rfl
theorem j6 (g:En->R Bool)(f1 f2:En->RS)(ρ:En):ifS g f1 f2 ρ=(g ρ).s λk=>if k=true then f1 ρ else f2 ρ:=rfl
theorem qT (f g:En->R Bool)(ρ:En):orT f g ρ=(f ρ).bind λx=>if x=true then .ok true else g ρ:=rfl
theorem UC (f:En->R Bool)(ρ:En):uD f ρ=(f ρ).bind λx=> .ok (!x):=rfl
theorem Jh (f:En->R T)(ρ:En):jG f ρ=(f ρ).bind tru:=rfl
theorem qU (k:Bool):tru (.bl k)= .ok k:=rfl
theorem JV (i:Nat)(f:En->R T)(ρ:En):zK i f ρ=(f ρ).s λt=> .nx (ρ.set i (.vl t)):=rfl
theorem zJ:zE g f f' ρ=(f ρ).bind λx=>(f' ρ).bind λy=>g x y:=rfl
theorem zY {g:T->En->R En}{js:List Nat}:zU fi g ft fe k js ρ=(fi ρ).bind λts=>(zC g ft fe k js ρ ts).bind λvs=> .ok (.lst vs):=rfl
theorem ZT:Zx f ρ=(f ρ).bind Jd:=rfl
noncomputable def ZU:T->Str
 | .tup (.str w :: _)=>w
 | _=>⟨#[]⟩
def UD:T->Bool
 | .tup cs=>decide (1<=cs.length) && decide (cs.length<=4) && cs.all Z0 && decide ((dd [] (cs.map ZU)).length=cs.length)
 | _=>false
theorem WW (h:Z0 c=true):∃w n,c= .tup [.str w,n]:=by
 unfold Z0 at h;split at h
 ·rename_i w i;cases w with
  | str x=>exact⟨x,_,rfl⟩
  | _=>cases h
 ·cases h
theorem wG:∀{cs:List T},cs.all Z0=true->yS (cs.map λc=>T.str (ZU c))=some (cs.map ZU)
 | [],_=>rfl
 | c :: cs,h=>by
  rw[cV,ag]at h;have ih:=wG h.2;show (match yS (cs.map λc=>T.str _) with | some ys=>some _ | none=>none)=_
  rw[ih];rfl
theorem yD (t:T)(ht:sOk t):GG [t]= .ok (.bl (UD t)):=by
 have e:GG [t]=zy (z0V _ _ [.vl t,.un]):=rfl;rw[e,z0V];simp only[Z8,j6,qT,UC,Jh,ZB,v0,Z1,bOk];rw[show f_n [t,.int 1,.int 4]= .ok _ from jB t 1 4];cases t with
 | tup cs=>
  have hl:Vn 1 4 (.tup cs)=(decide _ && decide _):=rfl;rw[hl];show _=R.ok (T.bl (decide _ && decide _ && cs.all _ && decide _));cases h14:(decide (1<=cs.length) && decide (cs.length<=4)) with
  | false=>rfl
  | true=>
   rw[ag,decide_eq_true_eq,decide_eq_true_eq]at h14;have hb:cs.length<=bnd:=aA h14.2 (by decide)
   have ec:zC _ _ (za 1 GF (z9 (vE 0) zj)) 1 [] [.vl (.tup cs),.un] cs= .ok (cs.map λc=>T.bl _):=
    Z3 cs hb λc hc=>by
     exact qS c (jO (W7 ht) hc)
   simp only[eH,aN,if_false,ZS,zY,ZT,v0,bOk,Jd,ec];have ea:Xk (.lst (cs.map λc=>T.bl (Z0 c)))= .ok (.bl (cs.all Z0)):=by
    show (match ur (cs.map λc=>T.bl _) with | some k=>R.ok _ | none=> .bad)=_
    rw[Jq]
   rw[ea];simp only[bOk,qU,ZQ];cases hall:cs.all _ with
   | false=>rfl
   | true=>
    have ew:zC _ _ (zd ixT (vE 0) (cE (.int 0))) 1 [] [.vl (.tup cs),.un] cs= .ok (cs.map λc=>T.str (ZU c)):=
     Z3 cs hb λc hc=>by
      obtain⟨w,n,rfl⟩:=WW (aR.mp hall c hc);rfl
    simp only[eH,aN,if_false,nxS,JV,zY,ZT,v0,bOk,Jd,ew,ZQ,Zf];show zy (((vX (.lst (cs.map λc=>T.str _))).bind λx=>(Zj (.lst (cs.map λc=>T.str _))).bind λy=>(eqC x y).bind λb=>R.ok _).s λt=> .rt t)=_;have el:vX (.lst (cs.map λc=>T.str (ZU c)))= .ok (.int (dd [] (cs.map ZU)).length):=by
     show (match yS (cs.map λc=>T.str _) with | some ys=>if (cs.map λc=>T.str _).length+1 < 4096 then R.ok _ else .bad | none=> .bad)=_
     rw[wG hall];exact if_pos (by rw[ac];omega)
    rw[el,GN,ac];show R.ok _=_;congr 2
    by_cases hq:(dd [] (cs.map ZU)).length=cs.length
    ·rw[hq];simp
    ·rw[decide_eq_false hq];simp only[fY,beq_eq_false_iff_ne];omega
 | _=>rfl
noncomputable def isS (w:Str):T->Bool
 | .str s=>s == w
 | _=>false
theorem eqS (h:T)(w:Str):eqC h (.str w)= .ok (isS w h):=by cases h <;> rfl
theorem eqI (i j:Int):eqC (.int i) (.int j)= .ok (i == j):=rfl
theorem at0:ixT (.tup (h :: r)) (.int 0)= .ok h:=by
 show atT _ 0=_;unfold atT;rw[show atI _ 0=some h from ZZ rfl]
theorem at1:ixT (.tup (h :: a :: r)) (.int 1)= .ok a:=by
 show atT _ 1=_;unfold atT;rw[show atI _ 1=some a from ZZ rfl]
theorem at2:ixT (.tup (h :: a :: b :: r)) (.int 2)= .ok b:=by
 show atT _ 2=_;unfold atT;rw[show atI _ 2=some b from ZZ rfl]
theorem at3:ixT (.tup (h :: a :: b :: c :: r)) (.int 3)= .ok c:=by
 show atT _ 3=_;unfold atT;rw[show atI _ 3=some c from ZZ rfl]
noncomputable def JW (k:T->Bool):T->Bool
 | .tup ks=>decide (1<=ks.length) && decide (ks.length<=3) && ks.all k
 | _=>false
def WX:List T->Bool
 | [a,b]=>Jf (-20) 20 a b
 | _=>false
def qV:List T->Bool
 | [c]=>UD c
 | _=>false
def GO (k:T->Bool):List T->Bool
 | [c]=>JW k c
 | _=>false
def qW (k:T->Bool):List T->Bool
 | [c,a,b]=>Jf 0 3 a b && k c
 | _=>false
def yE (k:T->Bool):T->Bool
 | .tup (h :: r)=>if isS "whole" h=true then WX r else if isS "pick" h=true then qV r else if isS "row" h=true then GO k r else if isS "many" h=true then qW k r else false
 | _=>false
def isK:Nat->T->Bool
 | 0,_=>false
 | d+1,t=>yE (isK d) t
theorem qX {α:Type}(xs:List α)(n:Nat):((xs.length:Int) == (n:Int))=decide (xs.length=n):=by
 by_cases h:xs.length=n
 ·rw[h];simp
 ·rw[decide_eq_false h,beq_eq_false_iff_ne];omega
theorem xm:uC f ρ=(f ρ).bind λx=>match x with | .int i=> .ok (.int (-i)) | _=> .bad:=rfl
theorem Zi:jv (.int i) (.int j)= .ok (.int (i - j)):=rfl
set_option maxHeartbeats 1000000 in
theorem kh {n:Nat}{d:Nat}{k:T->Bool}(H0:∀t,sOk t->S_7 n 0 [t,.int d]= .ok (.bl (k t)))(H1:∀t,sOk t->S_7 n 1 [t,.int d]= .ok (.bl (JW k t)))(t:T)(ht:sOk t):
  S_7 (n+1) 0 [t,.int ((d+1:Nat):Int)]= .ok (.bl (yE k t)):=by
 have e:S_7 (n+1) 0 [t,.int ((d+1:Nat))]=zy (b_7 z0T _ GG _ [.vl t,.vl (.int _)]):=rfl;have hL:(((d+1:Nat):Int) == 0)=false:=by rw[beq_eq_false_iff_ne];omega
 have hL1:((d+1:Nat)) - 1=(d:Int):=by omega
 rw[e,b_7];simp only[Z8,j6,qT,UC,Jh,zJ,w0,w1,Z1,bOk,eqI,hL,aN,if_false,ZS];cases t with
 | tup xs=>
  cases xs with
  | nil=>rfl
  | cons h r=>
   have hs:=W7 ht;have hm:∀u∈r,sOk u:=λu hu=>jO hs (a8 _ hu);have z0:(((h :: r).length:Int) == 0)=false:=by rw[beq_eq_false_iff_ne];simp only[am];omega
   have ti:Wl "tuple" (.tup (h :: r))= .ok (.bl true):=rfl;simp only[ti,bOk,qU,eH,aN,if_false,WV,eqI,z0,ZQ,nxS,zt,v0,v1,Z1,at0,eqS,Zf,jd,jC,wF,Zl,ZS,w0,z2U,zV,zN,xm,Zi,hL1];show _=R.ok (T.bl (if isS "whole" h=true then WX r else if isS "pick" h=true then qV r else if isS "row" h=true then GO k r else if isS "many" h=true then qW k r else false))
   have l3:(((h :: r).length:Int) == 3)=decide _:=qX (h :: r) 3;have l2:(((h :: r).length:Int) == 2)=decide _:=qX (h :: r) 2;have l4:(((h :: r).length:Int) == 4)=decide _:=qX _ 4;simp only[l2,l3,l4,ZL];cases isS _ h with
   | true=>
    match r,hm with
    | [],_=>rfl
    | [_],_=>rfl
    | _ :: _ :: _ :: _,_=>simp[WX,ZQ,zy]
    | [a,b],_=>
     simp only[at1,at2,bOk,qQ];rfl
   | false=>
    simp only[aN,if_false,v0,v1,w0,bOk,at0,ZQ,jd,jC,WV,eqI,l2,l4,ZL,Zi,hL1];cases isS _ h with
    | true=>
     match r,hm with
     | [],_=>rfl
     | _ :: _ :: _,_=>simp[qV,ZQ,zy]
     | [c],hm=>
      simp only[at1,bOk,yD c (hm c (by simp))]
      rfl
    | false=>
     simp only[aN,if_false,v0,v1,w0,bOk,at0,ZQ,jd,jC,WV,eqI,l2,l4,ZL,Zi,hL1];cases isS _ h with
     | true=>
      match r,hm with
      | [],_=>rfl
      | _ :: _ :: _,_=>simp[GO,ZQ,zy]
      | [c],hm=>
       simp only[at1,bOk,H1 c (hm c (by simp))]
       rfl
     | false=>
      simp only[aN,if_false,v0,v1,w0,bOk,at0,ZQ,jd,jC,WV,eqI,l2,l4,ZL,Zi,hL1];cases isS _ h with
      | true=>
       match r,hm with
       | [],_=>rfl
       | [_],_=>rfl
       | [_,_],_=>rfl
       | _ :: _ :: _ :: _ :: _,_=>simp[qW,ZQ,zy]
       | [c,a,b],hm=>
        simp only[at1,at2,at3,bOk,qQ,H0 c (hm c (by simp)),ZL]
        show zy (match (if Jf 0 3 a b=true then R.ok _ else .ok _).s (λt=>RS.rt t) with | .nx _=>RS.rt _ | r=>r)=R.ok (T.bl (Jf 0 3 a b && k c))
        cases Jf 0 3 a b <;> rfl
      | false=>rfl
 | _=>rfl
theorem GP {k:T->Bool}(H0:∀t,sOk t->S_7 n 0 [t,.int d]= .ok (.bl (k t)))(t:T)(ht:sOk t):S_7 (n+1) 1 [t,.int d]= .ok (.bl (JW k t)):=by
 have e:S_7 (n+1) 1 [t,.int d]=zy (z0W f_n (S_7 n 0) [.vl t,.vl (.int d)]):=rfl;rw[e,z0W];simp only[Zf,Jg,jd,jC,wF,ZB,v0,Z1,bOk];rw[show f_n [t,.int 1,.int 3]= .ok (.bl (Vn 1 3 t)) from jB t 1 3,ZL];cases t with
 | tup ks=>
  show (if (decide (1<=ks.length) && decide (ks.length<=3))=true then _ else _)=R.ok (T.bl (decide (1<=ks.length) && decide (ks.length<=3) && ks.all k))
  cases h13:(decide (1<=ks.length) && decide (ks.length<=3)) with
  | false=>rfl
  | true=>
   rw[ag,decide_eq_true_eq,decide_eq_true_eq]at h13;have hb:ks.length<=bnd:=aA h13.2 (by decide)
   have ec:zC (zI 0) Zg (za 2 (S_7 n 0) (z9 (vE 0) (z9 (vE 1) zj))) 1 [1] [.vl (.tup ks),.vl (.int d)] ks= .ok (ks.map λc=>T.bl (k c)):=
    Z3 (h:=λc=>T.bl (k c)) ks hb λc hc=>by
     show za 2 (S_7 n 0) (z9 (vE 0) (z9 (vE 1) zj)) [.vl c,.vl (.int d)]=_;rw[zN,v0,v1,bOk,bOk];exact H0 c (jO (W7 ht) hc)
   simp only[if_true,ZS,zY,ZT,v0,bOk,Jd,ec];show (match ur (ks.map λc=>T.bl (k c)) with | some k=>R.ok (T.bl k) | none=> .bad)=_
   rw[Jq];rfl
 | _=>rfl
theorem uP:∀(d n:Nat),2*d+1<=n->∀t,sOk t->S_7 n 0 [t,.int d]= .ok (.bl (isK d t))
 | 0,n+1,_,t,_=>rfl
 | d+1,n+2,h,t,ht=>kh (n:=n+1) (λu hu=>uP d (n+1) (by omega) u hu) (λu hu=>GP (λv hv=>uP d n (by omega) v hv) u hu) t ht
theorem yF (t:T)(ht:sOk t):f_3 [t]= .ok (.bl (isK 3 t)):=by
 have e:f_3 [t]=zy (b_3 (f_7 20) [.vl t]):=rfl;rw[e,b_3];simp only[Zf,Jg,jd,jC,zN,v0,Z1,bOk];exact uP 3 20 (by omega) t ht
noncomputable def inR (lo hi:Int):T->Bool
 | .int i=>decide (lo<=i) && decide (i<=hi)
 | _=>false
theorem GQ (xs:List T):eqC (.lst xs) (.lst [])= .ok xs.isEmpty:=by cases xs <;> rfl
theorem WY:∀(ws acc:List Str),(dd acc ws).length<=acc.length+ws.length
 | [],acc=>aj _
 | w :: ws,acc=>by
  unfold dd;have:=WY ws (if w∈acc then acc else acc++[w])
  by_cases h:w∈acc
  ·rw[if_pos h]at this ⊢;simp only[am];omega
  ·rw[if_neg h]at this ⊢;rw[az,aK]at this;simp only[am];omega
theorem W8:∀(ws acc:List Str),((dd acc ws).length=acc.length+ws.length)↔∀(k:Nat) (w:Str),ws[k]? =some w->w ∉ acc++ws.take k
 | [],acc=>by simp[dd]
 | w :: ws,acc=>by
  unfold dd
  by_cases h:w∈acc
  ·rw[if_pos h];have:=WY ws acc;constructor
   ·intro e;simp only[am]at e;omega
   ·intro H;exact absurd (dA _ h) (H 0 w rfl)
  ·rw[if_neg h];have ih:=W8 ws (acc++[w]);rw[az,aK]at ih;rw[show acc.length+(w :: ws).length=acc.length+1+ws.length by simp only[am];omega,ih]
   constructor
   ·intro H k v e;cases k with
    | zero=>simp at e;subst e;simpa using h
    | succ k=>
     have:=H k v (by simpa using e)
     simpa[ba] using this
   ·intro H k v e;have:=H (k+1) v (by simpa using e)
    simpa[ba] using this
theorem ltI (i j:Int):ltC (.int i) (.int j)= .ok (decide (i < j)):=rfl
theorem v2:vE 2 (a :: b :: .vl t :: ρ)= .ok t:=rfl
theorem v3:vE 3 (a :: b :: c :: .vl t :: ρ)= .ok t:=rfl
theorem w2:vB 2 (a :: b :: .vl t :: ρ)= .ok t:=rfl
theorem w3:vB 3 (a :: b :: c :: .vl t :: ρ)= .ok t:=rfl
theorem w5:vB 5 (a :: b :: c :: d :: e :: .vl t :: ρ)= .ok t:=rfl
theorem v4:vE 4 (a :: b :: c :: d :: .vl t :: ρ)= .ok t:=rfl
theorem ki (f g:En->R Bool)(ρ:En):KS f g ρ=(f ρ).bind λx=>if x=true then g ρ else .ok false:=rfl
theorem UE (w:Str):∀ws:List Str,Wk (λy=>eqF 30 y (.str w)) (ws.map T.str)=some (decide (w∈ws))
 | []=>rfl
 | x :: ws=>by
  have ih:=UE w ws;show (match Wk (λy=>eqF 30 y (.str w)) (ws.map T.str) with | none=>none | some c=>some ((x == w) || c))=_
  rw[ih];show some ((x == w) || decide (w∈ws))=_
  congr 1
  by_cases h:x=w
  ·subst h;simp
  ·have h' :¬ w=x:=λz=>h z.symm;simp[h,h']
theorem gtI (i j:Int):gtC (.int i) (.int j)= .ok (decide (i > j)):=rfl
theorem Z9 (i j:Int):zD (.int i) (.int j)= .ok (.int (i+j)):=rfl
theorem GR (p:Int)(h0:0<=p)(h1:p < 26):ixT (.str "abcdefghijklmnopqrstuvwxyz") (.int p)= .ok (.str ⟨#[97+p.toNat]⟩):=by
 obtain⟨n,rfl⟩:=bL h0;have h:n < 26:=by omega
 iterate 26 (refine(Nat.lt_or_eq_of_le (Nat.le_of_lt_succ h)).elim (λh=> ?_) (λe=>e ▸ rfl))
 exact absurd h (fx _)
abbrev letE:En->R T:=zd ixT (vE 3) (za 3 f_2 (z9 (vE 1) (z9 (zd zD (zd zD (vE 2) (cE (.int 2))) (vE 0)) (z9 (cE (.int 26)) (zj)))))
theorem GS (ns:List Int)(k:Int)(h0:0<=k)(j:Nat):∃c:Nat,(97<=c/\c<=122)/\letE [.vl (.int (j:Int)),.vl (scr ns),.vl (.int k),.vl (.str "abcdefghijklmnopqrstuvwxyz")]= .ok (.str ⟨#[c]⟩):=by
 obtain⟨p,e,p0,p1⟩:=zW ns (k+2+j) 26 (by omega) (by omega)
 refine⟨97+p.toNat,⟨by omega,by omega⟩, ?_⟩
 simp only[letE,zt,v3,bOk,ZB,v1,v2,v0,Z1,Z9,e];exact GR p p0 p1
theorem yG (ns:List Int)(k:Int)(h0:0<=k):∃w:Str,f_z [scr ns,.int k]= .ok (.str w)/\Zr (.str w)=true:=by
 have e:f_z [scr ns,.int k]=zy (b_z _ [.vl _,.vl _,.un]):=rfl;obtain⟨p,e0,p0,p1⟩:=zW ns k 6 h0 (by omega)
 have hset:∀t,([Sl.vl (scr ns),Sl.vl (.int k),.un]).set 2 _=[Sl.vl _,Sl.vl _,.vl t]:=λ_=>rfl;rw[e,b_z];simp only[Z8,j6,JV,Z1,ZQ,hset,zJ,ZB,v0,v1,bOk,e0,gtI];cases hp:decide (p > 0) with
 | true=>
  obtain⟨q,e1,q0,q1⟩:=zW ns (k+1) 4 (by omega) (by omega)
  simp only[if_true,Zf,jd,jC,zt,ZB,v0,v1,Z1,bOk,Z9,e1];have hq:q=0\/q=1\/q=2\/q=3:=by omega
  rcases hq with rfl | rfl | rfl | rfl
  ·exact⟨"a",rfl,by decide⟩
  ·exact⟨"b",rfl,by decide⟩
  ·exact⟨"ab",rfl,by decide⟩
  ·exact⟨"cab",rfl,by decide⟩
 | false=>
  obtain⟨q,e1,q0,q1⟩:=zW ns (k+1) 3 (by omega) (by omega)
  simp only[aN,if_false,nxS,Zf,Jg,jd,jC,ZS,zY];obtain⟨g,hg⟩:=iD.mp (GS ns k h0);have ei:Zv (zd zD (cE (.int 1)) (za 3 f_2 (z9 (vE 0) (z9 (zd zD (vE 1) (cE (.int 1))) (z9 (cE (.int 3)) (zj)))))) [Sl.vl (scr ns),Sl.vl (.int k),.vl (.str "abcdefghijklmnopqrstuvwxyz")]= .ok (rng 0 (1+q).toNat):=by
   unfold Zv;simp only[zt,ZB,v0,v1,Z1,bOk,Z9,e1];rw[if_pos ⟨by omega,by omega⟩]
  have ec:∀n,n<=3->zC _ _ _ 1 [0,1,2] [Sl.vl _,Sl.vl _,.vl _] _= .ok ((rng 0 n).map λt=>match t with | .int j=> .str ⟨#[g j.toNat]⟩ | t=>t):=λn hn=>
   Z3 _ (by unfold rng;rw[ac,bA];exact aA hn (by decide)) λt ht=>by
    obtain⟨j,_,rfl⟩:=aI.mp ht;rw[ii];exact(hg j).2
  rw[ei,bOk,ec _ (by omega),bOk]
  have hw:∀j,Zy _=true:=λj=>by
   obtain⟨a,b⟩:=(hg j).1;unfold Zy;rw[decide_eq_true a,decide_eq_true b];rfl
  have hq:q=0\/q=1\/q=2:=by omega
  rcases hq with rfl | rfl | rfl
  ·refine⟨⟨#[g 0]⟩,rfl, ?_⟩;show (Zy _ && true)=true;rw[hw 0];rfl
  ·refine⟨⟨#[g 0,g 1]⟩,rfl, ?_⟩;show (Zy _ && (Zy _ && true))=true;rw[hw 0,hw 1];rfl
  ·refine⟨⟨#[g 0,g 1,g 2]⟩,rfl, ?_⟩;show (Zy _ && (Zy _ && (Zy _ && true)))=true;rw[hw 0,hw 1,hw 2];rfl
theorem z2V (j:Int):Za (.int 5) (.int j)= .ok (.int (5*j)):=by
 show (if uo 5 j then R.ok _ else .bad)=_
 rw[if_pos (.inl ⟨by decide,by decide⟩)]
theorem UF (hf:f ρ= .ok x)(hg:g ρ= .ok y):Zh (z9 f (z9 g zj)) ρ= .ok (.tup [x,y]):=by
 unfold Zh z9 zj;rw[hf,hg];rfl
theorem GT (hf:f ρ= .ok x)(hg:g ρ= .ok y)(hh:h ρ= .ok z):Zh (z9 f (z9 g (z9 h zj))) ρ= .ok (.tup [x,y,z]):=by
 unfold Zh z9 zj;rw[hf,hg,hh];rfl
theorem tup4 (hf:f ρ= .ok x)(hg:g ρ= .ok y)(hh:h ρ= .ok z)(hi:i ρ= .ok w):Zh (z9 f (z9 g (z9 h (z9 i zj)))) ρ= .ok (.tup [x,y,z,w]):=by
 unfold Zh z9 zj;rw[hf,hg,hh,hi];rfl
noncomputable def Dst (ws:List Str):Prop:=∀(k:Nat) (w:Str),ws[k]? =some w->w ∉ ws.take k
theorem Dst.add (h:Dst ws)(hw:w ∉ ws):Dst (ws++[w]):=λk x hx=>by
 by_cases hk:k < ws.length
 ·rw[ax hk]at hx;rw[List.take_append_of_le_length (by omega)]
  exact h k x hx
 ·rw[av (by omega)]at hx
  have hk' :k=ws.length:=by
   rcases Nat.lt_or_ge (k - ws.length) 1 with z | z
   ·omega
   ·rw[aU (by simpa using z)]at hx;cases hx
  subst hk';rw[cN]at hx;cases hx;rw[List.take_left']
  ·exact hw
  ·rfl
abbrev WZ:En->RS:=zB (zK 5 (za 2 f_z (z9 (vE 0) (z9 (zd zD (zd zD (vE 1) (cE (.int 5))) (zd Za (cE (.int 5)) (vE 4))) (zj)))))
  (ifS (zE vM (vB 5) (vB 3)) (Uc 3 (vE 5)) (nxS))
theorem JX (ns:List Int)(k:Int)(h0:0<=k):∀(js:List Nat) (ws:List Str) (x4 x5:Sl),js.length+ws.length<=4->Dst ws->(∀w∈ws,Zr (.str w)=true)->
  ∃ws' y4 y5,ZA (zI 4) WZ (js.map λ(j:Nat)=>T.int (0+(j:Int))) [.vl (scr ns),.vl (.int k),.un,.ow (ws.map T.str),x4,x5]= .nx [.vl (scr ns),.vl (.int k),.un,.ow (ws'.map T.str),y4,y5]/\ws'.length<=4/\Dst ws' /\(∀w∈ws',Zr (.str w)=true)/\(0 < js.length+ws.length->0 < ws'.length)
 | [],ws,x4,x5,hl,hd,hw=>⟨ws,x4,x5,rfl,by simpa using hl,hd,hw,λh=>by simpa using h⟩
 | j :: js,ws,x4,x5,hl,hd,hw=>by
  obtain⟨w,ew,hw'⟩:=yG ns (k+5+5*(0+(j:Int))) (by omega)
  have hl' :js.length+ws.length+1<=4:=by simpa[am,Nat.add_right_comm] using hl
  have e:ZA (zI 4) WZ ((j :: js).map λ(j:Nat)=>T.int (0+(j:Int))) [.vl (scr ns),.vl (.int k),.un,.ow (ws.map T.str),x4,x5]=match WZ [.vl (scr ns),.vl (.int k),.un,.ow (ws.map T.str),.vl (.int (0+(j:Int))),x5] with
   | .nx ρ2=>ZA (zI 4) WZ (js.map λ(j:Nat)=>T.int (0+(j:Int))) ρ2
   | .ct ρ2=>ZA (zI 4) WZ (js.map λ(j:Nat)=>T.int (0+(j:Int))) ρ2
   | .bk ρ2=> .nx ρ2
   | r=>r:=rfl
  have eb:WZ [.vl (scr ns),.vl (.int k),.un,.ow (ws.map T.str),.vl (.int (0+(j:Int))),x5]= .nx [.vl (scr ns),.vl (.int k),.un,.ow ((if w∈ws then ws else ws++[w]).map T.str),.vl (.int (0+(j:Int))),.vl (.str w)]:=by
   have w3o:∀(a b c:Sl) (ts:List T) (ρ:En),vB 3 (a :: b :: c :: .ow ts :: ρ)= .ok _:=λ_ _ _ _ _=>rfl;have hset:∀t,([.vl _,.vl (.int k),.un,.ow (ws.map T.str),.vl (.int (0+(j:Int))),x5]:En).set 5 (.vl t)=[.vl (scr ns),.vl (.int k),.un,.ow (ws.map T.str),.vl _,.vl t]:=λ_=>rfl;have en:vM (.str w) (.lst (ws.map T.str))= .ok (!decide (w∈ws)):=by
    show ((match Wk (λy=>eqF 30 y (.str w)) (ws.map _) with | some b=>R.ok b | none=> .bad)).bind (λb=>R.ok _)=_
    rw[UE];rfl
   simp only[WZ,Z8,JV,zN,v0,v1,v4,zt,Z1,bOk,Z9,z2V,ew,ZQ,hset,j6,zJ,w5,w3o,en]
   by_cases hm:w∈ws
   ·rw[decide_eq_true hm,if_pos hm];rfl
   ·rw[decide_eq_false hm,if_neg hm];have hb:(ws.map T.str).length < bnd:=by rw[ac];exact be (show ws.length<=4 by omega) (by decide)
    show (if (ws.map _).length < bnd then RS.nx _ else .bad)=_
    rw[if_pos hb,bj];rfl
  rw[e,eb]
  by_cases hm:w∈ws
  ·rw[if_pos hm];obtain⟨ws',y4,y5,r1,r2,r3,r4,r5⟩:=JX ns k h0 js ws _ _ (by omega) hd hw
   exact⟨ws',y4,y5,r1,r2,r3,r4,λ_=>r5 (by have:=List.length_pos_of_mem hm;omega)⟩
  ·rw[if_neg hm];obtain⟨ws',y4,y5,r1,r2,r3,r4,r5⟩:=JX ns k h0 js _ _ _ (by simp only[az,am,bh];omega) (hd.add hm) (λx hx=>by
    rcases cW.mp hx with z | z
    ·exact hw x z
    ·rw[aM.mp z];exact hw')
   exact⟨ws',y4,y5,r1,r2,r3,r4,λ_=>r5 (by simp only[az,am,bh];omega)⟩
abbrev z1d:En->R T:=Zh (z9 (vE 1) (z9 (zd zD (cE (.int 1)) (za 3 f_2 (z9 (vE 2) (z9 (zd zD (zd zD (vE 3) (cE (.int 30))) (vE 0)) (z9 (cE (.int 20)) (zj)))))) (zj)))
theorem UG (ns:List Int)(k:Int)(h0:0<=k):∀(ws:List Str) (i:Nat) (x0 x1:Sl),(∀w∈ws,Zr (.str w)=true)->∃cs:List T,zP (Zq 0 1) Zg z1d (((ws.map T.str).zipIdx i).map λp=>T.tup [.int (p.2:Nat),p.1]) [x0,x1,.vl (scr ns),.vl (.int k)]= .ok cs/\cs.all Z0=true/\cs.map ZU=ws
 | [],i,x0,x1,_=>⟨[],rfl,rfl,rfl⟩
 | w :: ws,i,x0,x1,hw=>by
  obtain⟨p,e,p0,p1⟩:=zW ns (k+30+i) 20 (by omega) (by omega)
  obtain⟨cs,r1,r2,r3⟩:=UG ns k h0 ws _ _ _ λx hx=>hw x (a8 _ hx);have ec:z1d [.vl (.int (i)),.vl (.str w),.vl (scr ns),.vl (.int k)]= .ok (.tup [.str w,.int (1+p)]):=by
   have ea:za 3 f_2 (z9 (vE 2) (z9 (zd zD (zd zD (vE 3) (cE (.int 30))) (vE 0)) (z9 (cE (.int 20)) (zj)))) [.vl (.int (i)),.vl (.str w),.vl (scr ns),.vl (.int k)]= .ok (.int p):=by
    simp only[ZB,v2,v3,v0,zt,Z1,bOk,Z9,e]
   have eb:zd zD (cE (.int 1)) (za 3 f_2 (z9 (vE 2) (z9 (zd zD (zd zD (vE 3) (cE (.int 30))) (vE 0)) (z9 (cE (.int 20)) (zj))))) [.vl (.int (i)),.vl (.str w),.vl (scr ns),.vl (.int k)]= .ok (.int (1+p)):=by
    rw[zt,ea];rfl
   exact UF v1 eb
  refine⟨.tup [.str w,.int (1+p)] :: cs, ?_, ?_, ?_⟩
  ·show ((z1d [.vl _,.vl _,.vl _,.vl _]).bind λv=>(zP _ _ _ (((ws.map _).zipIdx _).map λp=>T.tup _) [.vl _,.vl _,.vl _,.vl _]).bind λvs=>R.ok _)=_;rw[ec,r1];rfl
  ·rw[cV,r2,Bool.and_true];show (Zr _ && decide _ && decide _)=true;rw[hw w ab,decide_eq_true (by omega),decide_eq_true (by omega)];rfl
  ·rw[aF,r3];rfl
theorem xn (i j:Int):YA (.int i) (.int j)= .ok (.int (if j < i then j else i)):=rfl
theorem kl (ns:List Int)(k:Int)(h0:0<=k):∃t,GD [scr ns,.int k]= .ok t/\∀d,isK (d+1) t=true:=by
 have e:GD [scr ns,.int k]=zy (z0O f_2 f_z [.vl (scr ns),.vl (.int k),.un,.un,.un,.un]):=rfl;obtain⟨p,e0,p0,p1⟩:=zW ns k 3 h0 (by omega)
 rw[e,z0O,Z8];simp only[j6,zJ,ZB,v0,v1,Z1,bOk,e0,gtI,ZQ];cases hp:decide (p > 0) with
 | true=>
  obtain⟨q,e1,q0,q1⟩:=zW ns (k+1) 7 (by omega) (by omega)
  obtain⟨q3,e3,_,_⟩:=zW ns (k+3) 8 (by omega) (by omega)
  obtain⟨q4,e4,a4,b4⟩:=zW ns (k+4) 3 (by omega) (by omega)
  obtain⟨q2,e2,a2,b2⟩:=zW ns (k+2) 4 (by omega) (by omega)
  have hset:∀t x,([.vl (scr ns),.vl (.int k),x,.un,.un,.un]:En).set 2 (.vl t)=[.vl (scr ns),.vl (.int k),.vl t,.un,.un,.un]:=λ_ _=>rfl;have fin:∀low:Int, -20<=low->low<=20->∃t,zy (zG (Zh (z9 (cE (.str "whole")) (z9 (vE 2) (z9 (zd YA (cE (.int 20)) (zd zD (vE 2) (za 3 f_2 (z9 (vE 0) (z9 (zd zD (vE 1) (cE (.int 2))) (z9 (cE (.int 4)) (zj))))))) (zj))))) [.vl (scr ns),.vl (.int k),.vl (.int low),.un,.un,.un])= .ok t/\∀d,isK (d+1) t=true:=by
   intro low hl1 hl2;refine⟨.tup [.str "whole",.int low,.int (if low+q2 < 20 then low+q2 else 20)], ?_,λd=> ?_⟩
   ·rw[Zf,Jg];refine GT rfl rfl ?_;simp only[jd,W6,jC,zt,v2,v0,v1,ZB,Z1,bOk,Z9,e2,xn]
   ·show (decide (-20<=low) && decide (low<=_) && decide (_<=(20:Int)))=true;rw[decide_eq_true hl1,decide_eq_true (by split <;> omega),decide_eq_true (by split <;> omega)];rfl
  simp only[if_true,Z8,JV,j6,zt,ZB,v0,v1,Z1,bOk,Z9,e1,Zi,ZQ,hset,zJ,e3,eqI];cases hq:(q3 == 0) with
  | true=>
   have h3:q4=0\/q4=1\/q4=2:=by omega
   rcases h3 with rfl | rfl | rfl
   ·obtain⟨t,r,s⟩:=fin (-20) (by omega) (by omega)
    refine⟨t, ?_,s⟩;rw[← r];simp only[if_true,e4,bOk];have hv:∀ρ,(j7 (z9 (uC (cE (.int 20))) (z9 (cE (.int 17)) (z9 (cE (.int 20)) (zj)))) ρ)= .ok (.lst [.int (-20),.int 17,.int 20]):=λ_=>rfl;simp only[hv,bOk];have hx:ixT (.lst [.int (-20),.int 17,.int 20]) (.int 0)= .ok (.int (-20)):=rfl;simp only[hx,ZQ,hset,Zf];generalize Zh _ _=z;cases z <;> rfl
   ·obtain⟨t,r,s⟩:=fin (17) (by omega) (by omega)
    refine⟨t, ?_,s⟩;rw[← r];simp only[if_true,e4,bOk];have hv:∀ρ,(j7 (z9 (uC (cE (.int 20))) (z9 (cE (.int 17)) (z9 (cE (.int 20)) (zj)))) ρ)= .ok (.lst [.int (-20),.int 17,.int 20]):=λ_=>rfl;simp only[hv,bOk];have hx:ixT (.lst [.int (-20),.int 17,.int 20]) (.int 1)= .ok (.int (17)):=rfl;simp only[hx,ZQ,hset,Zf];generalize Zh _ _=z;cases z <;> rfl
   ·obtain⟨t,r,s⟩:=fin (20) (by omega) (by omega)
    refine⟨t, ?_,s⟩;rw[← r];simp only[if_true,e4,bOk];have hv:∀ρ,(j7 (z9 (uC (cE (.int 20))) (z9 (cE (.int 17)) (z9 (cE (.int 20)) (zj)))) ρ)= .ok (.lst [.int (-20),.int 17,.int 20]):=λ_=>rfl;simp only[hv,bOk];have hx:ixT (.lst [.int (-20),.int 17,.int 20]) (.int 2)= .ok (.int (20)):=rfl;simp only[hx,ZQ,hset,Zf];generalize Zh _ _=z;cases z <;> rfl
  | false=>
   obtain⟨t,r,s⟩:=fin (q - 3) (by omega) (by omega)
   refine⟨t, ?_,s⟩;rw[← r];simp only[aN,if_false,nxS,Zf];generalize Zh _ _=z;cases z <;> rfl
 | false=>
  obtain⟨q,e1,q0,q1⟩:=zW ns (k+1) 4 (by omega) (by omega)
  simp only[aN,if_false,nxS,Z8];have ei:Zv (zd zD (cE (.int 1)) (za 3 f_2 (z9 (vE 0) (z9 (zd zD (vE 1) (cE (.int 1))) (z9 (cE (.int 4)) (zj)))))) [.vl (scr ns),.vl (.int k),.un,.ow [],.un,.un]= .ok (rng 0 (1+q).toNat):=by
   unfold Zv;simp only[zt,ZB,v0,v1,Z1,bOk,Z9,e1];rw[if_pos ⟨by omega,by omega⟩]
  have el:yR 3 zj [.vl (scr ns),.vl (.int k),.un,.un,.un,.un]= .nx [.vl (scr ns),.vl (.int k),.un,.ow [],.un,.un]:=rfl;rw[el];have hn:(a_ (1+q).toNat).length=(1+q).toNat:=bA;obtain⟨ws,y4,y5,r1,r2,r3,r4,r5⟩:=JX ns k h0 (a_ (1+q).toNat) [] .un .un (by rw[hn,bh];omega) (λk w h=>by cases h) (λw h=>by cases h)
  have hpos:0 < ws.length:=r5 (by rw[hn,bh];omega)
  have ef:j0 (Zv (zd zD (cE (.int 1)) (za 3 f_2 (z9 (vE 0) (z9 (zd zD (vE 1) (cE (.int 1))) (z9 (cE (.int 4)) (zj))))))) (zI 4) WZ [.vl (scr ns),.vl (.int k),.un,.ow [],.un,.un]= .nx [.vl (scr ns),.vl (.int k),.un,.ow (ws.map T.str),y4,y5]:=by
   unfold j0;rw[ei,ZQ];exact r1
  obtain⟨cs,s1,s2,s3⟩:=UG ns k h0 ws 0 .un .un r4;have hcl:cs.length=ws.length:=by rw[← s3,ac]
  refine⟨.tup [.str "pick",.tup cs], ?_,λd=> ?_⟩
  ·dsimp only;rw[ef];dsimp only;rw[Zf,Jg];refine UF rfl ?_;rw[ZS,zY];have ee:Xq (vE 3) (frz [.vl (scr ns),.vl (.int k),.un,.ow (ws.map T.str),y4,y5])= .ok (jM (ws.map T.str)):=rfl;rw[ee,bOk];unfold zC;rw[if_pos (by unfold jM;rw[ac,hJ,ac];exact aA r2 (by decide))]
   have ec:zP (Zq 0 1) Zg z1d (jM (ws.map T.str)) (wy 2 [0,1] (frz [.vl (scr ns),.vl (.int k),.un,.ow (ws.map T.str),y4,y5]))= .ok cs:=s1;rw[ec];rfl
  ·show (decide (1<=cs.length) && decide (cs.length<=4) && cs.all Z0 && decide ((dd [] (cs.map ZU)).length=cs.length))=true;have hd:(dd [] (cs.map ZU)).length=cs.length:=by
    rw[s3,hcl];have:=(W8 ws []).mpr (λk w h=>by simpa using r3 k w h)
    simpa using this
   rw[decide_eq_true (by omega),decide_eq_true (by omega),s2,decide_eq_true hd];rfl
theorem qY (c:Int)(j:Int)(hc:uo c j):Za (.int c) (.int j)= .ok (.int (c*j)):=by
 show (if uo c j then R.ok _ else .bad)=_
 rw[if_pos hc]
theorem GU (j:Int):Za (.int 3) (.int j)= .ok (.int (3*j)):=qY _ _ (.inl ⟨by decide,by decide⟩)
theorem GV (j:Int):Za (.int 50) (.int j)= .ok (.int (50*j)):=qY _ _ (.inl ⟨by decide,by decide⟩)
abbrev z1e (c:List T->R T):En->R T:=za 3 c (z9 (vE 1) (z9 (zd zD (zd zD (zd Za (cE (.int 3)) (vE 2)) (cE (.int 40))) (zd Za (cE (.int 50)) (vE 0))) (z9 (zd jv (vE 3) (cE (.int 1))) (zj))))
theorem uQ (ns:List Int):∀(d n:Nat),d<=n->1<=d->∀k:Int,0<=k->∃t,S_e n 0 [scr ns,.int k,.int (d:Int)]= .ok t/\isK d t=true
 | d+1,n+1,hn,_,k,h0=>by
  have e:S_e (n+1) 0 [scr ns,.int k,.int ((d+1:Nat))]=zy (b_e f_2 GD (S_e n 0) [.vl (scr ns),.vl (.int k),.vl _,.un,.un,.un]):=rfl;obtain⟨p,e0,p0,p1⟩:=zW ns k 5 h0 (by omega)
  obtain⟨l,el,hl⟩:=kl ns (k+1) (by omega)
  have hset:([.vl (scr ns),.vl (.int k),.vl (.int ((d+1:Nat))),.un,.un,.un]:En).set 3 (.vl (.int p))=[.vl (scr ns),.vl (.int k),.vl _,.vl (.int p),.un,.un]:=rfl;rw[e,b_e];simp only[Z8,JV,j6,qT,zJ,ZB,zN,v0,v1,v2,Z1,bOk,e0,ZQ,hset,w2,w3,eqI,ltI,Z9,Zf,jd,W6,jC,zt,el];have hd1:((((d+1:Nat):Int) == 1))=decide (d=0):=by
   by_cases h:d=0
   ·subst h;rfl
   ·rw[decide_eq_false h,beq_eq_false_iff_ne];omega
  rw[hd1]
  by_cases hleaf:d=0\/p < 2
  ·refine⟨l, ?_,hl d⟩;rcases hleaf with h | h
   ·rw[decide_eq_true h];rfl
   ·rw[decide_eq_true h];cases decide (d=0) <;> rfl
  ·have hd0:¬ d=0:=λz=>hleaf (.inl z);have hp2:¬ p < 2:=λz=>hleaf (.inr z);have hsub:((d+1:Nat)) - 1=(d:Int):=by omega
   rw[decide_eq_false hd0,decide_eq_false hp2];simp only[aN,if_false,ZQ,nxS,w3,v0,v1,v2,bOk,ltI,Z1];cases hp:decide (p < 4) with
   | true=>
    obtain⟨q,e1,q0,q1⟩:=zW ns (k+1) 3 (by omega) (by omega)
    have hj:∀j:Nat,∃t,z1e (S_e n 0) [.vl (.int (0+(j:Int))),.vl (scr ns),.vl (.int k),.vl (.int ((d+1:Nat)))]= .ok t/\isK d t=true:=λj=>by
     obtain⟨t,r,s⟩:=uQ ns d n (by omega) (by omega) (3*k+40+50*(0+(j:Int))) (by omega)
     refine⟨t, ?_,s⟩;simp only[z1e,ZB,v0,v1,v2,v3,zt,Z1,bOk,GU,GV,Z9,Zi,hsub,r]
    obtain⟨g,hg⟩:=iD.mp hj;have ei:Zv (zd zD (cE (.int 1)) (za 3 f_2 (z9 (vE 0) (z9 (zd zD (vE 1) (cE (.int 1))) (z9 (cE (.int 3)) (zj)))))) [.vl (scr ns),.vl (.int k),.vl (.int ((d+1:Nat))),.vl (.int p),.un,.un]= .ok (rng 0 (1+q).toNat):=by
     unfold Zv;simp only[zt,ZB,v0,v1,Z1,bOk,Z9,e1];rw[if_pos ⟨by omega,by omega⟩]
    have ec:zC (zI 0) Zg (z1e (S_e n 0)) 1 [0,1,2] [.vl (scr ns),.vl (.int k),.vl _,.vl (.int p),.un,.un] _= .ok ((rng 0 (1+q).toNat).map λt=>match t with | .int j=>g j.toNat | t=>t):=
     Z3 _ (by unfold rng;rw[ac,bA];exact aA (show (1+q).toNat<=3 by omega) (by decide)) λt ht=>by
      obtain⟨j,_,rfl⟩:=aI.mp ht;show z1e (S_e n 0) [.vl _,.vl (scr ns),.vl (.int k),.vl _]= .ok (g _);rw[(hg j).1,ii,bm]
    generalize hcs:((rng 0 (1+q).toNat).map λt=>match t with | .int j=>g j.toNat | t=>t)=cs at ec
    have hlen:cs.length=(1+q).toNat:=by rw[← hcs];unfold rng;rw[ac,ac,bA]
    have hall:∀t∈cs,isK d t=true:=λt ht=>by
     rw[← hcs]at ht;obtain⟨u,hu,rfl⟩:=aI.mp ht;obtain⟨j,_,rfl⟩:=aI.mp hu;exact(hg _).2
    refine⟨.tup [.str "row",.tup cs], ?_, ?_⟩
    ·have hs4:([.vl (scr ns),.vl (.int k),.vl (.int ((d+1:Nat))),.vl (.int p),.un,.un]:En).set 4 (.vl (.lst cs))=[.vl (scr ns),.vl (.int k),.vl _,.vl (.int p),.vl (.lst cs),.un]:=rfl;simp only[if_true,zY,ei,bOk,ec,ZQ,hs4,jd,W6,jC];rfl
    ·show (decide _ && decide _ && cs.all _)=true;rw[decide_eq_true (by omega),decide_eq_true (by omega),aR.mpr hall];rfl
   | false=>
    obtain⟨q,e1,q0,q1⟩:=zW ns (k+1) 3 (by omega) (by omega)
    obtain⟨q2,e2,_,_⟩:=zW ns (k+2) 3 (by omega) (by omega)
    obtain⟨t,r,s⟩:=uQ ns d n (by omega) (by omega) (3*k+40) (by omega)
    refine⟨.tup [.str "many",t,.int q,.int (if q+q2 < 3 then q+q2 else 3)], ?_, ?_⟩
    ·have hs5:([.vl (scr ns),.vl (.int k),.vl (.int ((d+1:Nat))),.vl (.int p),.un,.un]:En).set 5 (.vl (.int q))=[.vl _,.vl _,.vl _,.vl _,.un,.vl _]:=rfl;simp only[aN,if_false,v0,v1,zt,Z1,bOk,Z9,e1,ZQ,hs5,jd,W6,jC,Jg];refine tup4 rfl ?_ rfl ?_
     ·simp only[ZB,v0,v1,v2,zt,Z1,bOk,GU,Z9,Zi,hsub,r]
     ·have v5:∀{t:T} {a b c d e:Sl} {ρ:En},vE 5 (a :: b :: c :: d :: e :: .vl t :: ρ)= .ok t:=rfl;simp only[ZB,v0,v1,v5,zt,Z1,bOk,Z9,e2,xn]
    ·show (Jf 0 3 _ _ && isK d t)=true;rw[s,Bool.and_true];show (decide _ && decide _ && decide _)=true;rw[decide_eq_true (by omega),decide_eq_true (by split <;> omega),decide_eq_true (by split <;> omega)];rfl
mutual
noncomputable def dep:T->Nat
 | .tup xs=>vh xs+1
 | .lst xs=>vh xs+1
 | _=>1
noncomputable def vh:List T->Nat
 | []=>0
 | t :: ts=>max (dep t) (vh ts)
end
mutual
noncomputable def siz:T->Nat
 | .tup xs=>vi xs+1
 | .lst xs=>vi xs+1
 | _=>1
noncomputable def vi:List T->Nat
 | []=>0
 | t :: ts=>siz t+vi ts
end
theorem Ji (h:isS w t=true):t= .str w:=by
 cases t with
 | str s=>
  have:=h;rw[eq_of_beq this]
 | _=>cases h
theorem km (h:inR lo hi t=true):∃i,t= .int i:=by
 cases t with
 | int i=>exact⟨i,rfl⟩
 | _=>cases h
theorem Jr (h:Jf lo hi a b=true):∃i j,a= .int i/\b= .int j:=by
 cases a with
 | int i=>
  cases b with
  | int j=>exact⟨i,j,rfl,rfl⟩
  | _=>cases h
 | _=>cases h
structure Fit (D S:Nat) (t:T):Prop where
 so:sOk t
 dp:dep t<=D
 sz:siz t<=S
theorem yH (h:Z0 c=true):Fit 2 3 c:=by
 unfold Z0 at h;split at h
 ·rename_i w i;have hw:=by
   rw[ag,ag]at h;exact h.1.1
  cases w with
  | str x=>
   have hx:(decide _ && decide _ && x.cps.toList.all _)=true:=hw;rw[ag,ag,decide_eq_true_eq,decide_eq_true_eq]at hx;refine⟨?_, ?_, ?_⟩
   ·simp only[sOk,UB,and_true];exact aA hx.1.2 (by decide)
   ·simp[dep,vh]
   ·simp[siz,vi]
  | _=>cases hw
 ·cases h
theorem z2W {D S:Nat}:∀{cs:List T},(∀c∈cs,Fit D S c)->UB cs/\vh cs<=D/\vi cs<=S*cs.length
 | [],_=>⟨by simp only[UB],aQ _,aQ _⟩
 | c :: cs,h=>by
  obtain⟨a,b,d⟩:=z2W λx hx=>h x (a8 _ hx);obtain⟨x,y,z⟩:=h c ab;refine⟨?_, ?_, ?_⟩
  ·exact⟨x,a⟩
  ·simp only[vh];omega
  ·simp only[vi,am,Nat.mul_add,Nat.mul_one];omega
theorem W9:∀(d:Nat) (t:T),isK d t=true->Fit (2*d+2) (15*4 ^ d) t
 | 0,_,h=>by cases h
 | d+1,t,h=>by
  have hone:1<=4 ^ d:=Nat.pow_pos (by omega)
  have h:yE _ t=true:=h;unfold yE at h;split at h
  ·rename_i hd r;split at h
   ·rename_i e;rw[Ji e];unfold WX at h;split at h
    ·obtain⟨i,j,rfl,rfl⟩:=Jr h;refine⟨by simp only[sOk,UB,and_true];decide,by simp only[dep,vh];omega,by simp only[siz,vi];omega⟩
    ·cases h
   ·split at h
    ·rename_i e;rw[Ji e];unfold qV at h;split at h
     ·unfold UD at h;split at h
      ·rw[ag,ag,ag,decide_eq_true_eq,decide_eq_true_eq]at h;obtain⟨a,b,z⟩:=z2W λc hc=>yH (aR.mp h.1.2 c hc);refine⟨by simp only[sOk,UB,and_true];exact⟨by decide,a⟩,by simp only[dep,vh];omega,by simp only[siz,vi];omega⟩
      ·cases h
     ·cases h
    ·split at h
     ·rename_i e;rw[Ji e];unfold GO at h;split at h
      ·unfold JW at h;split at h
       ·rename_i cs;rw[ag,ag,decide_eq_true_eq,decide_eq_true_eq]at h;obtain⟨a,b,z⟩:=z2W λc hc=>W9 d c (aR.mp h.2 c hc);have:15*4 ^ d*cs.length<=15*4 ^ d*3:=Nat.mul_le_mul_left _ h.1.2;refine⟨by simp only[sOk,UB,and_true];exact⟨by decide,a⟩,by simp only[dep,vh];omega,by simp only[siz,vi];omega⟩
       ·cases h
      ·cases h
     ·split at h
      ·rename_i e;rw[Ji e];unfold qW at h;split at h
       ·rename_i c a b;rw[ag]at h;obtain⟨i,j,rfl,rfl⟩:=Jr h.1;obtain⟨x,y,z⟩:=W9 d c h.2;refine⟨by simp only[sOk,UB,and_true];exact⟨by decide,x⟩,by simp only[dep,vh];omega,by simp only[siz,vi];omega⟩
       ·cases h
      ·cases h
  ·cases h
theorem GW (h:xs.length+ys.length<=bnd):zD (.tup xs) (.tup ys)= .ok (.tup (xs++ys)):=if_pos h
theorem wH (ρ:En):nxS ρ= .nx ρ:=rfl
inductive Kd where
 | whole (lo hi:Int)
 | pick (cs:List (Str×Int))
 | row (ks:List Kd)
 | many (k:Kd) (lo hi:Nat)
noncomputable def Js (c:Str×Int):T:= .tup [.str c.1,.int c.2]
mutual
noncomputable def Kd.t:Kd->T
 | .whole lo hi=> .tup [.str "whole",.int lo,.int hi]
 | .pick cs=> .tup [.str "pick",.tup (cs.map Js)]
 | .row ks=> .tup [.str "row",.tup (Kd.ts ks)]
 | .many k lo hi=> .tup [.str "many",k.t,.int (lo:Int),.int (hi:Int)]
noncomputable def Kd.ts:List Kd->List T
 | []=>[]
 | k :: ks=>k.t :: Kd.ts ks
end
theorem Kd.ts_map:∀ks:List Kd,Kd.ts ks=ks.map Kd.t
 | []=>by simp only[Kd.ts,cy]
 | k :: ks=>by simp only[Kd.ts,aF,Kd.ts_map ks]
def Kd.Ok:Nat->Kd->Prop
 | 0,_=>False
 | _+1,.whole lo hi=> -20<=lo/\lo<=hi/\hi<=20
 | _+1,.pick cs=>1<=cs.length/\cs.length<=4/\(∀c∈cs,Zr (.str c.1)=true/\1<=c.2/\c.2<=20)/\Dst (cs.map (·.1))
 | d+1,.row ks=>1<=ks.length/\ks.length<=3/\∀k∈ks,Kd.Ok d k
 | d+1,.many k lo hi=>lo<=hi/\hi<=3/\Kd.Ok d k
theorem qZ (h:Z0 c=true):∃p:Str×Int,c=Js p/\Zr (.str p.1)=true/\1<=p.2/\p.2<=20:=by
 unfold Z0 at h;split at h
 ·rename_i w i;rw[ag,ag,decide_eq_true_eq,decide_eq_true_eq]at h;cases w with
  | str x=>exact⟨(x,i),rfl,h.1.1,h.1.2,h.2⟩
  | _=>cases h.1.1
 ·cases h
theorem uR {α:Type}{P:T->Prop}{Q:α->Prop}{f:α->T}(H:∀t,P t->∃a,t=f a/\Q a):∀(ts:List T),(∀t∈ts,P t)->∃as:List α,ts=as.map f/\∀a∈as,Q a
 | [],_=>⟨[],rfl,λ_ h=>nomatch h⟩
 | t :: ts,h=>by
  obtain⟨a,rfl,ha⟩:=H t (h t ab);obtain⟨as,rfl,has⟩:=uR H ts λu hu=>h u (a8 _ hu);exact⟨a :: as,rfl,λb hb=>by
   rcases ak.mp hb with rfl | hb
   ·exact ha
   ·exact has b hb⟩
theorem uS:∀(d:Nat) (t:T),isK d t=true->∃k:Kd,t=k.t/\k.Ok d
 | 0,_,h=>by cases h
 | d+1,t,h=>by
  have h:yE _ t=true:=h;unfold yE at h;split at h
  ·rename_i hd r;split at h
   ·rename_i e;rw[Ji e];unfold WX at h;split at h
    ·obtain⟨i,j,rfl,rfl⟩:=Jr h;have h:(decide _ && decide _ && decide _)=true:=h;rw[ag,ag,decide_eq_true_eq,decide_eq_true_eq,decide_eq_true_eq]at h;exact⟨.whole i j,by simp only[Kd.t],h.1.1,h.1.2,h.2⟩
    ·cases h
   ·split at h
    ·rename_i e;rw[Ji e];unfold qV at h;split at h
     ·unfold UD at h;split at h
      ·rename_i cs;rw[ag,ag,ag,decide_eq_true_eq,decide_eq_true_eq,decide_eq_true_eq]at h;obtain⟨⟨⟨h1,h2⟩,h3⟩,h4⟩:=h;obtain⟨as,rfl,has⟩:=uR (λt ht=>qZ ht) cs λc hc=>aR.mp h3 c hc;rw[ac]at h1 h2;refine⟨.pick as,by simp only[Kd.t],h1,h2,has, ?_⟩
       have e1:(as.map Js).map ZU=as.map (·.1):=by rw[b8];rfl
       rw[e1]at h4;have:=(W8 _ []).mp (by rw[h4,ac];simp)
       exact λk w hw hm=>this k w hw (by simpa using hm)
      ·cases h
     ·cases h
    ·split at h
     ·rename_i e;rw[Ji e];unfold GO at h;split at h
      ·unfold JW at h;split at h
       ·rename_i cs;rw[ag,ag,decide_eq_true_eq,decide_eq_true_eq]at h;obtain⟨ks,rfl,hks⟩:=uR (λt ht=>uS d t ht) cs λc hc=>aR.mp h.2 c hc;rw[ac]at h;exact⟨.row ks,by simp only[Kd.t,Kd.ts_map],h.1.1,h.1.2,hks⟩
       ·cases h
      ·cases h
     ·split at h
      ·rename_i e;rw[Ji e];unfold qW at h;split at h
       ·rename_i c a b;rw[ag]at h;obtain⟨h1,h2⟩:=h;obtain⟨i,j,rfl,rfl⟩:=Jr h1;obtain⟨k,rfl,hk⟩:=uS d c h2;have h1:(decide _ && decide _ && decide _)=true:=h1;rw[ag,ag,decide_eq_true_eq,decide_eq_true_eq,decide_eq_true_eq]at h1;obtain⟨⟨a1,a2⟩,a3⟩:=h1;obtain⟨m,rfl⟩:=bL a1;obtain⟨n,rfl⟩:=bL (di a1 a2);exact⟨.many k m n,by simp only[Kd.t],by omega,by omega,hk⟩
       ·cases h
      ·cases h
  ·cases h
noncomputable def ZC (made:List (List T)):List (List T)->List (List T)
 | []=>made
 | ls :: r=>ZC (made.flatMap λa=>ls.map λx=>a++[x]) r
abbrev yU (ls:List (List T)):List T:=(ZC [[]] ls).map T.tup
mutual
noncomputable def Kd.all:Kd->List T
 | .whole lo hi=>(a_ (hi+1 - lo).toNat).map λ(i:Nat)=>T.int (lo+(i:Int))
 | .pick cs=>cs.map λc=>T.str c.1
 | .row ks=>yU (Kd.alls ks)
 | .many k lo hi=>(a_ (hi+1 - lo)).flatMap λi=>yU (ah (lo+i) k.all)
noncomputable def Kd.alls:List Kd->List (List T)
 | []=>[]
 | k :: ks=>k.all :: Kd.alls ks
end
theorem Kd.alls_map:∀ks:List Kd,Kd.alls ks=ks.map Kd.all
 | []=>by simp only[Kd.alls,cy]
 | k :: ks=>by simp only[Kd.alls,aF,Kd.alls_map ks]
noncomputable def prd:List Nat->Nat
 | []=>1
 | n :: r=>n*prd r
theorem JY:∀{ns:List Nat},(∀n∈ns,1<=n)->1<=prd ns
 | [],_=>aj _
 | n :: ns,h=>cq (h n ab) (JY λm hm=>h m (a8 _ hm))
theorem Jt {α β:Type}(f:α->List β)(n:Nat):∀as:List α,(∀a∈as,(f a).length=n)->(as.flatMap f).length=as.length*n
 | [],_=>by simp
 | a :: as,h=>by
  rw[bM,az,h a ab,Jt f n as λb hb=>h b (a8 _ hb),am,dD,bS,i9]
theorem JZ:∀(ls:List (List T)) (made:List (List T)),(ZC made ls).length=made.length*prd (ls.map (·.length))
 | [],made=>by simp[ZC,prd]
 | l :: ls,made=>by
  rw[ZC,JZ ls,Jt _ _ _ λa _=>ac ..,aF,prd,cF]
abbrev z1f:En->RS:=vd 3 (zU (Zx (vE 2)) (zI 0) (Zg) (zd zD (vE 1) (Zh (z9 (vE 0) (zj)))) 1 [4])
theorem UH (hl:l.length<=bnd):∀(as:List (List T)) (acc:List T) (x:Sl),(∀a∈as,a.length<=1000)->acc.length+as.length*l.length<=bnd->
  ∃y,ZA (zI 4) z1f (as.map T.tup) [.vl L,.vl M,.vl (.lst l),.ow acc,x]= .nx [.vl L,.vl M,.vl (.lst l),.ow (acc++(as.flatMap λa=>l.map λx=>a++[x]).map T.tup),y]
 | [],acc,x,_,_=>⟨x,by simp[ZA]⟩
 | a :: as,acc,x,ha,hb=>by
  have ha1:=ha a ab;have hb1:bnd=16777216:=rfl;rw[am,dD]at hb;have ec:zC _ _ (zd zD (vE 1) (Zh (z9 (vE 0) (zj)))) 1 [4] [.vl L,.vl M,.vl (.lst l),.ow acc,.vl (.tup a)] l= .ok (l.map λx=>T.tup _):=
   Z3 l hl λx hx=>by
    exact GW (by rw[aK];omega)
  have eb:z1f [.vl L,.vl M,.vl (.lst l),.ow acc,.vl (.tup a)]= .nx [.vl L,.vl M,.vl (.lst l),.ow (acc++l.map λx=>T.tup (a++[x])),.vl (.tup a)]:=by
   show (((zC _ _ _ _ _ _ l).bind _).s _)=_;rw[ec,bOk];show (if _ then _ else _)=_
   rw[if_pos (by rw[ac];omega)]
   rfl
  obtain⟨y,ih⟩:=UH hl as (acc++l.map λx=>T.tup _) _ (λb hb=>ha b (a8 _ hb)) (by rw[az,ac];omega)
  refine⟨y, ?_⟩;have e:ZA (zI 4) _ ((a :: as).map T.tup) [.vl L,.vl M,.vl (.lst l),.ow acc,x]=match z1f [.vl L,.vl M,.vl _,.ow acc,.vl _] with
   | .nx ρ2=>ZA _ _ _ ρ2
   | .ct ρ2=>ZA _ _ _ ρ2
   | .bk ρ2=> .nx ρ2
   | r=>r:=rfl
  rw[e,eb];dsimp only;rw[ih,bM,bj,b8,ba];rfl
abbrev Vp:En->RS:=(zB (yR 3 (zj))
  (zB (j0 (Zx (vE 1)) (zI 4) z1f)
  (mvS 1 3)))
theorem u6 (m:Nat):∀(ls:List (List T)) (made:List (List T)) (k:Nat) (x y z:Sl),(∀a∈made,a.length<=k)->k+ls.length<=1000->(∀l∈ls,1<=l.length)->made.length*prd (ls.map (·.length))<=bnd->1<=made.length->
  ∃x' y' z',ZA (zI 2) Vp (ls.map T.lst) [.vl L,.vl (.lst (made.map T.tup)),x,y,z]= .nx [.vl L,.vl (.lst ((ZC made ls).map T.tup)),x',y',z']
 | [],made,k,x,y,z,_,_,_,_,_=>⟨x,y,z,by simp[ZA,ZC]⟩
 | l :: ls,made,k,x,y,z,hk,hkl,hpos,hb,hm=>by
  have hpr:=JY λn hn=>by
   obtain⟨l',hl',rfl⟩:=aI.mp hn;exact hpos l' (a8 _ hl')
  rw[aF,prd,← cF]at hb;have hb1:=aA (cn _ hpr) hb;have hll:=aA (Nat.le_mul_of_pos_left _ hm) hb1;rw[am]at hkl;obtain⟨w,er⟩:=UH hll _ [] z (λa ha=>aA (hk a ha) (by omega)) (by rw[bh];omega)
  have es:Vp [.vl L,.vl (.lst (made.map T.tup)),.vl (.lst l),y,z]= .nx [.vl L,.vl (.lst ((made.flatMap λa=>l.map λx=>a++[x]).map T.tup)),.vl (.lst l),.vl (.lst ((made.flatMap λa=>l.map λx=>a++[x]).map T.tup)),w]:=by
   have e0:yR 3 (zj) [.vl L,.vl (.lst (made.map T.tup)),.vl (.lst l),y,z]= .nx [.vl L,.vl _,.vl _,.ow [],z]:=rfl;have e1:j0 (Zx (vE 1)) _ _ [.vl L,.vl (.lst _),.vl _,.ow [],z]= .nx [.vl L,.vl _,.vl _,.ow ((made.flatMap λa=>l.map λx=>a++[x]).map _),w]:=er;unfold Vp;rw[Z8,e0];dsimp only;rw[Z8,e1];rfl
  obtain⟨x',y',z',ih⟩:=u6 m ls (made.flatMap λa=>l.map λx=>a++[x]) (k+1) _ (.vl (.lst ((made.flatMap λa=>l.map λx=>a++[x]).map _))) w (λa ha=>by
   obtain⟨b,hb,hx⟩:=cO.mp ha;obtain⟨u,_,rfl⟩:=aI.mp hx;have:=hk b hb;rw[az,aK];omega) (by omega) (λl' hl' =>hpos l' (a8 _ hl')) (by
    rw[Jt _ _ _ λa _=>ac ..];exact hb) (by
    rw[Jt _ _ _ λa _=>ac ..];exact cq hm (hpos l ab))
  refine⟨x',y',z', ?_⟩;have e:ZA (zI 2) _ ((l :: ls).map T.lst) [.vl L,.vl (.lst (made.map T.tup)),x,y,z]=match Vp [.vl L,.vl _,.vl _,y,z] with
   | .nx ρ2=>ZA _ _ _ ρ2
   | .ct ρ2=>ZA _ _ _ ρ2
   | .bk ρ2=> .nx ρ2
   | r=>r:=rfl
  rw[e,es];exact ih
theorem Q0 (ls:List (List T))(hl:ls.length<=1000)(hpos:∀l∈ls,1<=l.length)(hb:prd (ls.map (·.length))<=bnd):f_f [.lst (ls.map T.lst)]= .ok (.lst (yU ls)):=by
 obtain⟨x',y',z',er⟩:=u6 0 ls [[]] 0 .un .un .un (λa ha=>by rw[aM.mp ha];exact aj _) (by omega) hpos (by rw[aK,bS];exact hb) (aj _)
 have e:f_f [.lst (ls.map T.lst)]=zy (b_f [.vl _,.un,.un,.un,.un]):=rfl;have e0:zK 1 (j7 (z9 (Zh (zj)) (zj))) [.vl (.lst (ls.map T.lst)),.un,.un,.un,.un]= .nx [.vl _,.vl _,.un,.un,.un]:=rfl;have e1:j0 (Zx (vE 0)) _ _ [.vl (.lst _),.vl (.lst [.tup []]),.un,.un,.un]= .nx _:=er;rw[e,b_f,Z8,e0];dsimp only;rw[Z8,e1];rfl
theorem je (n:Nat):∀m:Nat,prd (ah m n)=n ^ m
 | 0=>rfl
 | m+1=>by rw[bG,prd,je n m,fq,cu]
theorem Ju (ls:List (List T)):(yU ls).length=prd (ls.map (·.length)):=by
 rw[ac,JZ,aK,bS]
noncomputable def pw (n lo hi:Nat):Nat:=((a_ (hi+1 - lo)).map λi=>n ^ (lo+i)).sum
theorem jn (k:Kd)(lo hi:Nat):(Kd.many k lo hi).all.length=pw k.all.length lo hi:=by
 rw[Kd.all,List.length_flatMap,pw];congr 1
 refine cf λi _=> ?_;rw[Ju,b6,je]
theorem jZ (ks:List Kd):(Kd.row ks).all.length=prd (ks.map λk=>k.all.length):=by
 rw[Kd.all,Ju,Kd.alls_map,b8];rfl
theorem jg (lo hi:Int):(Kd.whole lo hi).all.length=(hi+1 - lo).toNat:=by
 rw[Kd.all,ac,bA]
theorem Wa (cs:List (Str×Int)):(Kd.pick cs).all.length=cs.length:=by
 rw[Kd.all,ac]
theorem kn (h:lo<=hi)(h3:hi<=3):(lo=0/\hi=0)\/(lo=0/\hi=1)\/(lo=0/\hi=2)\/(lo=0/\hi=3)\/(lo=1/\hi=1)\/(lo=1/\hi=2)\/(lo=1/\hi=3)\/(lo=2/\hi=2)\/(lo=2/\hi=3)\/(lo=3/\hi=3):=(by decide:∀hi lo:Fin 4,lo.1<=hi.1->(lo.1=0/\hi.1=0)\/(lo.1=0/\hi.1=1)\/(lo.1=0/\hi.1=2)\/(lo.1=0/\hi.1=3)\/(lo.1=1/\hi.1=1)\/(lo.1=1/\hi.1=2)\/(lo.1=1/\hi.1=3)\/(lo.1=2/\hi.1=2)\/(lo.1=2/\hi.1=3)\/(lo.1=3/\hi.1=3)) ⟨hi,ij h3⟩ ⟨lo,ij (aA h h3)⟩ h
noncomputable def iv (b:Bool):Nat:=if b then 1 else 0
theorem ko (n:Nat)(h:lo<=hi)(h3:hi<=3):pw n lo hi=iv (lo == 0)+n*iv (decide (lo<=1) && decide (1<=hi))+n*n*iv (decide (lo<=2) && decide (2<=hi))+n*n*n*iv (hi == 3):=by
 rcases kn h h3 with ⟨rfl,rfl⟩ | ⟨rfl,rfl⟩ | ⟨rfl,rfl⟩ | ⟨rfl,rfl⟩ | ⟨rfl,rfl⟩ | ⟨rfl,rfl⟩ | ⟨rfl,rfl⟩ | ⟨rfl,rfl⟩ | ⟨rfl,rfl⟩ | ⟨rfl,rfl⟩ <;>
  simp[pw,fw,iv,fq]
 all_goals omega
theorem GX (hn:1<=n)(h:lo<=hi)(h3:hi<=3):1<=pw n lo hi:=by
 have h2:=cq hn hn;have h1:=cq h2 hn;rw[ko n h h3];rcases kn h h3 with ⟨rfl,rfl⟩ | ⟨rfl,rfl⟩ | ⟨rfl,rfl⟩ | ⟨rfl,rfl⟩ | ⟨rfl,rfl⟩ | ⟨rfl,rfl⟩ | ⟨rfl,rfl⟩ | ⟨rfl,rfl⟩ | ⟨rfl,rfl⟩ | ⟨rfl,rfl⟩ <;>
  simp[iv] <;> omega
theorem z2X (hn:n<=N)(h:lo<=hi)(h3:hi<=3):pw n lo hi<=1+N+N*N+N*N*N:=by
 have h2:=bb hn hn;have h1:=bb h2 hn;rw[ko n h h3];rcases kn h h3 with ⟨rfl,rfl⟩ | ⟨rfl,rfl⟩ | ⟨rfl,rfl⟩ | ⟨rfl,rfl⟩ | ⟨rfl,rfl⟩ | ⟨rfl,rfl⟩ | ⟨rfl,rfl⟩ | ⟨rfl,rfl⟩ | ⟨rfl,rfl⟩ | ⟨rfl,rfl⟩ <;>
  simp[iv] <;> omega
theorem xo (hN:1<=N):∀(ns:List Nat),(∀n∈ns,n<=N)->prd ns<=N ^ ns.length
 | [],_=>aj _
 | n :: ns,h=>by
  rw[prd,cu];exact bb (xo hN ns λm hm=>h m (a8 _ hm)) (h n ab)
theorem ZM:∀(d:Nat) (k:Kd),k.Ok d->1<=k.all.length
 | 0,_,h=>h.elim
 | d+1,.whole lo hi,h=>by
  obtain⟨_,h2,_⟩:=h;rw[jg];omega
 | d+1,.pick cs,h=>by
  rw[Wa];exact h.1
 | d+1,.row ks,h=>by
  rw[jZ];refine JY λn hn=> ?_;obtain⟨k,hk,rfl⟩:=aI.mp hn;exact ZM d k (h.2.2 k hk)
 | d+1,.many k lo hi,h=>by
  rw[jn];exact GX (ZM d k h.2.2) h.1 h.2.1
noncomputable def mx:Nat->Nat
 | 0=>0
 | 1=>41
 | d+1=>1+mx d+mx d*mx d+mx d*mx d*mx d
theorem xp (d:Nat):41<=mx (d+1):=by
 induction d with
 | zero=>exact aj _
 | succ d ih=>
  show 41<=1+mx _+mx _*mx _+mx _*mx _*mx _;omega
theorem Q1 (d:Nat)(n:Nat)(h:n<=41):n<=mx (d+1):=aA h (xp d)
theorem ku (hN:1<=N)(h:m<=3):N ^ m<=1+N+N*N+N*N*N:=by
 have:m=0\/m=1\/m=2\/m=3:=by omega
 rcases this with rfl | rfl | rfl | rfl <;> simp[fq] <;> omega
theorem jt:∀(d:Nat) (k:Kd),k.Ok d->k.all.length<=mx d
 | 0,_,h=>h.elim
 | d+1,.whole lo hi,h=>by
  obtain⟨h1,h2,h3⟩:=h;rw[jg];exact Q1 d _ (by omega)
 | d+1,.pick cs,h=>by
  rw[Wa];exact Q1 d _ (aA h.2.1 (by omega))
 | 1,.row ks,h=>by
  obtain⟨h1,h2,h3⟩:=h
  match ks,h1,h3 with
  | k :: _,_,h3=>exact(h3 k ab).elim
 | d+2,.row ks,h=>by
  obtain⟨h1,h2,h3⟩:=h;rw[jZ];have hp:=aA (by omega:1<=41) (xp d)
  have:=xo hp (ks.map λk=>k.all.length) λn hn=>by
   obtain⟨k,hk,rfl⟩:=aI.mp hn;exact jt _ k (h3 k hk)
  rw[ac]at this;exact aA this (ku hp h2)
 | 1,.many k lo hi,h=>h.2.2.elim
 | d+2,.many k lo hi,h=>by
  rw[jn];exact z2X (jt _ k h.2.2) h.1 h.2.1
theorem zb (h:f ρ= .nx ρ'):zB f g ρ=g ρ' :=by rw[Z8,h]
theorem cs0:zE eqC (zd ixT (vE 0) (cE (.int 0))) (cE (.str w)) (.vl (.tup (.str x :: r)) :: ρ)= .ok (x == w):=by
 rw[zJ,zt,v0,bOk,Z1,bOk,at0,Z1,bOk];rfl
theorem Jv:zd ixT (vE 0) (cE (.int 1)) (.vl (.tup (a :: b :: r)) :: ρ)= .ok b:=by
 rw[zt,v0,bOk,Z1,bOk,at1]
theorem ut:zd ixT (vE 0) (cE (.int 2)) (.vl (.tup (a :: b :: c :: r)) :: ρ)= .ok c:=by
 rw[zt,v0,bOk,Z1,bOk,at2]
theorem K5:zd ixT (vE 0) (cE (.int 3)) (.vl (.tup (a :: b :: c :: d :: r)) :: ρ)= .ok d:=by
 rw[zt,v0,bOk,Z1,bOk,at3]
theorem yI (h:f ρ= .ok (.int i)):zd zD f (cE (.int 1)) ρ= .ok (.int (i+1)):=by
 rw[zt,h,bOk,Z1,bOk,Z9]
theorem uT (hf:f ρ= .ok (.int i))(hg:g ρ= .ok (.int j))(h: -1000000 < i/\i < 1000000/\ -1000000 < j/\j < 1000000):Jl f g ρ= .ok (rng i (j - i).toNat):=by
 unfold Jl;rw[hf,hg];exact if_pos h
theorem Q2:∀(cs:List (Str×Int)) (x y:Sl),zP (Zq 0 1) Zg (vE 0) (cs.map Js) [x,y]= .ok (cs.map λc=>T.str c.1)
 | [],_,_=>rfl
 | c :: cs,x,y=>by
  have e:zP (Zq 0 1) Zg (vE 0) ((c :: cs).map Js) [x,y]=(zP _ _ _ _ [.vl _,.vl _]).bind λvs=> .ok _:=rfl;rw[e,Q2 cs];rfl
theorem UI {x:T}{m:Nat}(h:m<=3):Za (.lst [x]) (.int (m:Int))= .ok (.lst (ah m [x]).flatten):=by
 unfold Za;dsimp only;have c:0<=(m:Int)/\(m:Int) < 1000000/\[x].length*(m:Int).toNat<=bnd:=by
  have hb:3<=bnd:=by decide
  refine⟨by omega,by omega, ?_⟩
  rw[aK,bS];exact aA h hb
 rw[if_pos c,bm]
theorem jP {α:Type}(x:α):∀m:Nat,(ah m [x]).flatten=ah m x
 | 0=>rfl
 | m+1=>by rw[bG,eB,jP x m];rfl
abbrev uU (ca cr:List T->R T):En->RS:=vd 1 (za 1 cr (z9 (zd Za (j7 (z9 (za 1 ca (z9 (zd ixT (vE 0) (cE (.int 1))) (zj))) (zj))) (vE 2)) (zj)))
theorem z1g (hf:f ρ= .ok x):j7 (z9 f zj) ρ= .ok (.lst [x]):=by
 unfold j7 z9 zj;rw[hf];rfl
theorem u7 {ca:List T->R T}{k:Kd}{t:T}{lo:Nat}{ws:List T}(hw:ca [t]= .ok (.lst ws))(hpos:1<=ws.length){a b c:T}:∀(js:List Nat) (acc:List T) (x:Sl),(∀j∈js,lo+j<=3)->acc.length+(js.map λj=>ws.length ^ (lo+j)).sum<=bnd->
  ∃y,ZA (zI 2) (uU ca f_f) (js.map λ(j:Nat)=>T.int ((lo:Int)+(j:Int))) [.vl (.tup [a,t,b,c]),.ow acc,x]= .nx [.vl (.tup [a,t,b,c]),.ow (acc++js.flatMap λj=>yU (ah (lo+j) ws)),y]
 | [],acc,x,_,_=>⟨x,by simp[ZA]⟩
 | j :: js,acc,x,hj,hb=>by
  have hj1:=hj j ab;rw[aF,dz]at hb;have er:f_f [.lst ((ah (lo+j) ws).map _)]= .ok _:=Q0 _ (by rw[aP];omega) (λl hl=>by rw[bK hl];exact hpos) (by rw[b6,je];omega)
  have hlen:(yU (ah (lo+j) ws)).length=ws.length ^ (lo+j):=by rw[Ju,b6,je]
  have em:Za (.lst [.lst ws]) (.int ((lo)+(j)))= .ok (.lst ((ah (lo+j) ws).map T.lst)):=by
   have e1:(lo:Int)+(j)=((lo+j:Nat)):=by omega
   rw[e1,UI (by omega),jP,b6]
  have eb:uU ca f_f [.vl (.tup [a,t,b,c]),.ow acc,.vl (.int ((lo)+(j)))]= .nx [.vl (.tup [a,t,b,c]),.ow (acc++yU (ah (lo+j) ws)),.vl (.int ((lo)+(j)))]:=by
   have e1:za 1 f_f (z9 (zd Za (j7 (z9 (za 1 ca (z9 (zd ixT (vE 0) (cE (.int 1))) (zj))) (zj))) (vE 2)) (zj)) [.vl (.tup [a,t,b,c]),.ow acc,.vl (.int ((lo)+(j)))]= .ok (.lst (yU (ah (lo+j) ws))):=by
    have e0:za 1 ca (z9 (zd ixT (vE 0) (cE (.int 1))) (zj)) [.vl (.tup [a,t,b,c]),.ow acc,.vl (.int ((lo)+(j)))]= .ok (.lst ws):=by
     rw[zV,Jv,bOk,hw]
    rw[zV,zt,z1g e0,bOk,v2,bOk,em,bOk,er]
   show ((za 1 _ _ _).s λt=>match t with | .lst us=>if acc.length+us.length<=bnd then RS.nx _ else .bad | _=> .bad)=_
   rw[e1];show (if _ then _ else _)=_
   rw[if_pos (by omega)]
   rfl
  obtain⟨y,ih⟩:=u7 (k:=k) hw hpos js (acc++yU (ah (lo+j) ws)) _ (λi hi=>hj i (a8 _ hi)) (by rw[az];omega)
  refine⟨y, ?_⟩;have e:ZA (zI 2) (uU ca f_f) ((j :: js).map λ(j:Nat)=>T.int ((lo)+(j))) [.vl (.tup [a,t,b,c]),.ow acc,x]=match uU ca _ [.vl _,.ow acc,.vl _] with
   | .nx ρ2=>ZA _ _ (js.map λ(j)=>T.int _) ρ2
   | .ct ρ2=>ZA _ _ (js.map λ(j)=>T.int _) ρ2
   | .bk ρ2=> .nx ρ2
   | r=>r:=rfl
  rw[e,eb];dsimp only;rw[ih,bM,ba]
theorem Vq (h1:lo<=hi)(h2:hi<=3){r:RS}
  (el:ZA (zI 2) (uU ca f_f) ((a_ (hi+1 - lo)).map λ(j:Nat)=>T.int ((lo:Int)+(j:Int))) [.vl (.tup [a,t,.int (lo:Int),.int (hi:Int)]),.ow acc,x]=r):
  j0 (Jl (zd ixT (vE 0) (cE (.int 2))) (zd zD (zd ixT (vE 0) (cE (.int 3))) (cE (.int 1)))) (zI 2) (uU ca f_f) [.vl (.tup [a,t,.int (lo:Int),.int (hi:Int)]),.ow acc,x]=r:=by
 have hn:((hi:Int)+1 - (lo)).toNat=hi+1 - lo:=by omega
 have hc: -1000000 < (lo:Int)/\(lo:Int) < 1000000/\ -1000000 < (hi:Int)+1/\(hi:Int)+1 < 1000000:=by omega
 have e:j0 (Jl (zd ixT (vE 0) (cE (.int 2))) (zd zD (zd ixT (vE 0) (cE (.int 3))) (cE (.int 1)))) (zI 2) (uU ca f_f) [.vl (.tup [a,t,.int (lo),.int (hi)]),.ow acc,x]=(Jl _ _ _).s λts=>ZA _ _ ts _:=rfl;rw[e,uT ut (yI K5) hc,hn];exact el
theorem GY (e:L=pw n lo hi)(h:L<=1000000):([]:List T).length+((a_ (hi+1 - lo)).map λj=>n ^ (lo+j)).sum<=bnd:=by
 have h' :pw n lo hi<=bnd:=aA (e ▸ h) (by decide)
 rw[bh,ik];exact h'
theorem Q3 (d:Nat)(lo hi:Int)(h:(Kd.whole lo hi).Ok (d+1))(hl:(Kd.whole lo hi).all.length<=1000000)(H:∀k' :Kd,k'.Ok d->ca [k'.t]= .ok (.lst k'.all)):zy (b_4 ca f_f (en0 3 [(Kd.whole lo hi).t]))= .ok (.lst (Kd.whole lo hi).all):=by
 have e:zy (b_4 ca f_f (en0 3 [(Kd.whole lo hi).t]))=zy (b_4 ca _ [.vl _,.un,.un]):=rfl;rw[e,b_4,Z8,j6];obtain⟨h1,h2,h3⟩:=h;simp only[Kd.t];rw[Zf,jd,W6];unfold z0I;rw[uT Jv (yI ut) ⟨by omega,by omega,by omega,by omega⟩]
 rfl
theorem Vr (d:Nat)(cs:List (Str×Int))(h:(Kd.pick cs).Ok (d+1))(hl:(Kd.pick cs).all.length<=1000000)(H:∀k' :Kd,k'.Ok d->ca [k'.t]= .ok (.lst k'.all)):zy (b_4 ca f_f (en0 3 [(Kd.pick cs).t]))= .ok (.lst (Kd.pick cs).all):=by
 have hb1:bnd=16777216:=rfl;have e:zy (b_4 ca f_f (en0 3 [(Kd.pick cs).t]))=zy (b_4 ca _ [.vl _,.un,.un]):=rfl;rw[e,b_4,Z8,j6];simp only[Kd.t];rw[cs0,ZQ,show (("pick":Str) == "whole")=false from rfl,if_neg aG,wH];dsimp only;rw[Z8,j6,Zf,jd,W6,W6,jC,zY,ZT,Jv];have hc:=h.2.1;have ec:zC (Zq 0 1) Zg (vE 0) 2 [] [.vl (.tup [.str "pick",.tup (cs.map Js)]),.un,.un] (cs.map Js)= .ok (cs.map λc=>T.str c.1):=by
  unfold zC;rw[if_pos (by rw[ac];omega)]
  show quiet (zP _ _ _ _ [.un,.un])=_;rw[Q2];rfl
 show zy (match ((((R.ok _).bind λts=>(zC _ _ _ 2 [] _ ts).bind λvs=> .ok _)).s λt=> .rt t) with | .nx ρ' =>_ | r=>r)=_
 rw[bOk,ec];rfl
theorem kv (d:Nat)(ks:List Kd)(h:(Kd.row ks).Ok (d+1))(hl:(Kd.row ks).all.length<=1000000)(H:∀k' :Kd,k'.Ok d->ca [k'.t]= .ok (.lst k'.all)):zy (b_4 ca f_f (en0 3 [(Kd.row ks).t]))= .ok (.lst (Kd.row ks).all):=by
 have hb1:bnd=16777216:=rfl;have e:zy (b_4 ca f_f (en0 3 [(Kd.row ks).t]))=zy (b_4 ca _ [.vl _,.un,.un]):=rfl;rw[e,b_4,Z8,j6];obtain⟨h1,h2,h3⟩:=h;simp only[Kd.t];rw[cs0,ZQ,show (("row":Str) == "whole")=false from rfl,if_neg aG,wH];dsimp only;rw[Z8,j6,cs0,ZQ,show (("row":Str) == "pick")=false from rfl,if_neg aG,wH];dsimp only;rw[Z8,j6,Zf,jd,W6,W6,jC,zV,Kd.ts_map];have ec:zC (zI 0) Zg (za 1 ca (z9 (vE 0) (zj))) 1 [] [.vl (.tup [.str "row",.tup (ks.map Kd.t)]),.un,.un] (ks.map Kd.t)= .ok ((ks.map Kd.all).map T.lst):=by
  unfold zC;rw[if_pos (by rw[ac];omega)]
  show quiet (zP _ _ _ _ [.un])=_;have:∀(ks:List Kd) (x:Sl),(∀k∈ks,k.Ok d)->zP (zI 0) Zg (za 1 ca (z9 (vE 0) (zj))) (ks.map Kd.t) [x]= .ok ((ks.map Kd.all).map T.lst):=by
   intro ks
   induction ks with
   | nil=>intro _ _;rfl
   | cons k ks ih=>
    intro x hk;have e1:zP (zI 0) Zg (za 1 ca (z9 (vE 0) (zj))) ((k :: ks).map _) [x]=(za 1 ca _ [.vl k.t]).bind λv=>(zP _ _ _ _ [.vl k.t]).bind λvs=> .ok _:=rfl;rw[e1,zV,v0,bOk,H k (hk k ab),ih _ λk' hk' =>hk k' (a8 _ hk')];rfl
  rw[this ks .un h3];rfl
 have hrow:=jZ ks;have er:f_f [.lst ((ks.map Kd.all).map _)]= .ok _:=Q0 _ (by rw[ac];omega) (λl hl=>by
  obtain⟨k,hk,rfl⟩:=aI.mp hl;exact ZM d k (h3 k hk)) (by
  rw[b8];show prd (ks.map λk=>k.all.length)<=bnd;omega)
 show zy (match ((((R.ok _).bind λts=>(zC _ _ _ 1 [] _ ts).bind λvs=> .ok _).bind λx=>f_f [x]).s λt=> .rt t) with | .nx ρ' =>_ | r=>r)=_
 rw[bOk,ec,bOk,bOk,er,Kd.all,Kd.alls_map];rfl
theorem Vs {ca:List T->R T}(d:Nat)(k:Kd)(lo hi:Nat)(h:(Kd.many k lo hi).Ok (d+1))(hl:(Kd.many k lo hi).all.length<=1000000)(H:∀k' :Kd,k'.Ok d->ca [k'.t]= .ok (.lst k'.all)):zy (b_4 ca f_f (en0 3 [(Kd.many k lo hi).t]))= .ok (.lst (Kd.many k lo hi).all):=by
 have hb1:bnd=16777216:=rfl;have e:zy (b_4 ca f_f (en0 3 [(Kd.many k lo hi).t]))=zy (b_4 ca f_f [.vl (Kd.many k lo hi).t,.un,.un]):=rfl;rw[e,b_4,Z8,j6];obtain⟨h1,h2,h3⟩:=h;have hml:=jn k lo hi;simp only[Kd.t];rw[cs0,ZQ,show (("many":Str) == "whole")=false from rfl,if_neg aG,wH];dsimp only;rw[Z8,j6,cs0,ZQ,show (("many":Str) == "pick")=false from rfl,if_neg aG,wH];dsimp only;rw[Z8,j6,cs0,ZQ,show (("many":Str) == "row")=false from rfl,if_neg aG,wH];dsimp only;have e0:yR 1 (zj) [.vl (.tup [.str "many",k.t,.int (lo:Int),.int (hi:Int)]),.un,.un]= .nx [.vl (.tup [.str "many",k.t,.int (lo:Int),.int (hi:Int)]),.ow [],.un]:=rfl;rw[Z8,e0];dsimp only;obtain⟨y,el⟩:=u7 (k:=k) (lo:=lo) (H k h3) (ZM d k h3) (a:= .str "many") (b:= .int (lo:Int)) (c:= .int (hi:Int)) (a_ (hi+1 - lo)) [] .un (λj hj=>by have:=bf.mp hj;omega) (GY hml hl)
 have e1:=Vq (ca:=ca) (t:=k.t) h1 h2 el;rw[bX]at e1;rw[zb e1,Kd.all];rfl
theorem Vt (d:Nat)(k:Kd)(h:k.Ok (d+1))(hl:k.all.length<=1000000)(H:∀k' :Kd,k'.Ok d->ca [k'.t]= .ok (.lst k'.all)):zy (b_4 ca f_f (en0 3 [k.t]))= .ok (.lst k.all):=by
 cases k with
 | whole lo hi=>exact Q3 d lo hi h hl H
 | pick cs=>exact Vr d cs h hl H
 | row ks=>exact kv d ks h hl H
 | many k lo hi=>exact Vs d k lo hi h hl H
theorem Q4:∀(d n:Nat),d<=n->d<=3->∀k:Kd,k.Ok d->k.all.length<=1000000->S_4 n 0 [k.t]= .ok (.lst k.all)
 | 0,_,_,_,_,h,_=>h.elim
 | d+1,0,hn,_,_,_,_=>by omega
 | d+1,n+1,hn,hd,k,h,hl=>by
  have e:S_4 (n+1) 0 [k.t]=zy (b_4 (S_4 n 0) f_f (en0 3 [k.t])):=rfl;rw[e];refine Vt d k h hl λk' hk' =>Q4 d n (by omega) (by omega) k' hk' ?_
  have h1:=jt d k' hk';have:mx d<=1000000:=by
   have:d=0\/d=1\/d=2:=by omega
   rcases this with rfl | rfl | rfl <;> decide
  omega
theorem in2:zE inC (zd ixT (vE 0) (cE (.int 0))) (Zh (z9 (cE (.str a)) (z9 (cE (.str b)) (zj)))) (.vl (.tup (.str x :: r)) :: ρ)=inC (.str x) (.tup [.str a,.str b]):=by
 rw[zJ,zt,v0,bOk,Z1,bOk,at0,bOk,UF Z1 Z1,bOk]
theorem J4 (h:g ρ= .ok true):ifS g f1 f2 ρ=f1 ρ:=by rw[j6,h,ZQ,if_pos rfl]
theorem if_f (h:g ρ= .ok false):ifS g f1 f2 ρ=f2 ρ:=by rw[j6,h,ZQ,if_neg aG]
theorem zx (h:g ρ= .ok false):ifS g f1 nxS ρ= .nx ρ:=by rw[if_f h];rfl
theorem zM (h:f ρ= .ok t):zK i f ρ= .nx (ρ.set i (.vl t)):=by rw[JV,h,ZQ]
theorem zw (h:f (frz ρ)= .ok t):zG f ρ= .rt t:=by rw[Zf,h,ZQ]
theorem jh {g:T->En->R En}(hg:g t ρ= .ok ρ1)(hb:fb ρ1= .nx ρ2):ZA g fb (t :: ts) ρ=ZA g fb ts ρ2:=by
 rw[ZA,hg];dsimp only;rw[hb]
theorem setg (i:Nat)(t:T)(ρ:En):zI i t ρ= .ok (ρ.set i (.vl t)):=rfl
theorem zH (h:f ρ= .rt t):zB f g ρ= .rt t:=by rw[Z8,h]
theorem Q5 {i j:Nat}(h:i < 2 ^ 60):Za (.int (i:Int)) (.int (j:Int))= .ok (.int ((i*j:Nat):Int)):=by
 rw[qY _ _ (.inl ⟨by omega,by omega⟩),dH]
theorem GZ (h:n<=mx d)(hd:d<=3):n < 2 ^ 60:=by
 have:d=0\/d=1\/d=2\/d=3:=by omega
 have h3:mx 3 < 2 ^ 60:=by decide
 have h2:mx 2 < 2 ^ 60:=by decide
 have h1:mx 1 < 2 ^ 60:=by decide
 have h0:mx 0 < 2 ^ 60:=by decide
 rcases this with rfl | rfl | rfl | rfl <;> omega
theorem UJ {a b:Sl}:∀(ns:List Nat) (m:Nat) (x y:Sl),(∀n∈ns,1<=n)->m*prd ns < 2 ^ 60->∃x',ZA (zI 3) (zK 2 (zd Za (vE 2) (vE 3))) (ns.map λ(n:Nat)=>T.int (n:Int)) [a,b,.vl (.int (m:Int)),x,y]= .nx [a,b,.vl (.int ((m*prd ns:Nat):Int)),x',y]
 | [],m,x,y,_,_=>⟨x,by simp[ZA,prd]⟩
 | n :: ns,m,x,y,hp,hb=>by
  have hpr:=JY λk hk=>hp k (a8 _ hk);have hn:=hp n ab;have hmm:m<=m*prd (n :: ns):=cn _ (cq hn hpr);have hb2:=be hmm hb;rw[prd,← cF]at hb;obtain⟨x',ih⟩:=UJ ns _ _ y (λk hk=>hp k (a8 _ hk)) hb;refine⟨x', ?_⟩;have es:zK 2 (zd Za (vE 2) (vE 3)) [a,b,.vl (.int (m)),.vl (.int (n)),y]= .nx [a,b,.vl (.int ((m*n):Int)),.vl (.int (n)),y]:=by
   rw[JV,zt,v2,bOk,v3,bOk,Q5 hb2];rfl
  have s3:zI 3 (T.int (n)) [a,b,.vl (.int (m)),x,y]= .ok _:=rfl;rw[aF,jh s3 es,prd,← cF];exact ih
theorem UK:∀(d:Nat) (lo hi:Int),(Kd.whole lo hi).Ok (d+1)->(Kd.whole lo hi).Ok 1
 | _,_,_,h=>h
theorem Vu:∀(d:Nat) (cs:List (Str×Int)),(Kd.pick cs).Ok (d+1)->(Kd.pick cs).Ok 1
 | _,_,h=>h
theorem u8 (k:Kd)(h:k.Ok 1)(ht:k.t= .tup (.str x :: r))(hx:inC (.str x) (.tup [.str "whole",.str "pick"])= .ok true):zy (b_c (f_4 8) cs (en0 5 [k.t]))= .ok (.int (k.all.length:Int)):=by
 have ha:f_4 8 _= .ok _:=Q4 1 8 (by omega) (by omega) k h (aA (jt 1 k h) (by decide))
 have e:zy (b_c (f_4 8) cs (en0 5 [k.t]))=zy (b_c _ cs [.vl k.t,.un,.un,.un,.un]):=rfl;have e1:zE inC (zd ixT (vE 0) (cE (.int 0))) (Zh (z9 (cE (.str "whole")) (z9 (cE (.str "pick")) (zj)))) [.vl k.t,.un,.un,.un,.un]= .ok true:=by
  rw[ht,in2,hx]
 have e2:zG (ap1 Zj (za 1 (f_4 8) (z9 (vE 0) (zj)))) [.vl k.t,.un,.un,.un,.un]= .rt (.int (k.all.length)):=by
  refine zw ?_;rw[jd,ZS,zV,v0,bOk,ha,bOk,GN]
 rw[e,b_c,zH (by rw[J4 e1,e2])]
 rfl
theorem z2Y (b:Bool):b2 b=(iv b:Int):=by cases b <;> rfl
theorem Vv (hd:d+1<=3)(ks:List Kd)(h:(Kd.row ks).Ok (d+1))(H:∀k:Kd,k.Ok d->cs [k.t]= .ok (.int (k.all.length:Int))):zy (b_c (f_4 8) cs (en0 5 [(Kd.row ks).t]))= .ok (.int ((Kd.row ks).all.length:Int)):=by
 have hlt:=GZ (jt _ _ h) hd;rw[jZ]at hlt ⊢;obtain⟨h1,h2,h3⟩:=h;simp only[Kd.t,Kd.ts_map];have e:zy (b_c (f_4 8) cs (en0 5 [.tup [.str "row",.tup (ks.map Kd.t)]]))=zy (b_c _ cs [.vl _,.un,.un,.un,.un]):=rfl;have e1:zE inC (zd ixT (vE 0) (cE (.int 0))) (Zh (z9 (cE (.str "whole")) (z9 (cE (.str "pick")) (zj)))) [.vl (.tup [.str "row",.tup (ks.map Kd.t)]),.un,.un,.un,.un]= .ok false:=by
  rfl
 have ec:zC (zI 0) Zg (za 1 cs (z9 (vE 0) (zj))) 1 [] [.vl (.tup [.str "row",.tup (ks.map Kd.t)]),.un,.un,.un,.un] (ks.map Kd.t)= .ok ((ks.map λk=>k.all.length).map λ(n:Nat)=>T.int (n)):=by
  unfold zC;rw[if_pos (by rw[ac];exact aA h2 (by decide))]
  have:∀(ks:List Kd) (x:Sl),(∀k∈ks,k.Ok d)->zP (zI 0) Zg (za 1 cs (z9 (vE 0) (zj))) (ks.map Kd.t) [x]= .ok ((ks.map λk=>k.all.length).map λ(n:Nat)=>T.int (n)):=by
   intro ks
   induction ks with
   | nil=>intro _ _;rfl
   | cons k ks ih=>
    intro x hk;have e1:zP (zI 0) Zg (za 1 cs (z9 (vE 0) (zj))) ((k :: ks).map _) [x]=(za 1 cs _ [.vl k.t]).bind λv=>(zP _ _ _ _ [.vl k.t]).bind λvs=> .ok _:=rfl;rw[e1,zV,v0,bOk,H k (hk k ab),ih _ λk' hk' =>hk k' (a8 _ hk')];rfl
  show quiet (zP _ _ _ _ [.un])=_;rw[this ks .un h3];rfl
 have e2:ifE (zE eqC (zd ixT (vE 0) (cE (.int 0))) (cE (.str "row"))) (zU (Zx (zd ixT (vE 0) (cE (.int 1)))) (zI 0) (Zg) (za 1 cs (z9 (vE 0) (zj))) 1 []) (j7 (zj)) [.vl (.tup [.str "row",.tup (ks.map Kd.t)]),.un,.un,.un,.un]= .ok (.lst ((ks.map λk=>k.all.length).map λ(n:Nat)=>T.int (n))):=by
  unfold ifE;rw[cs0,bOk,show (("row":Str) == "row")=true from rfl,if_pos rfl,zY,ZT,Jv];show ((R.ok _).bind _)=_;rw[bOk,ec,bOk]
 obtain⟨x',el⟩:=UJ (a:= .vl _) (ks.map λk=>k.all.length) 1 .un .un (λn hn=>by
  obtain⟨k,hk,rfl⟩:=aI.mp hn;exact ZM d k (h3 k hk)) (by rw[bS];exact hlt)
 rw[bS]at el;have e3:j0 (Zx (vE 1)) _ _ [.vl _,.vl (.lst ((ks.map λk=>k.all.length).map λ(n:Nat)=>T.int (n))),.vl (.int 1),.un,.un]=_:=el;rw[e,b_c,zb (zx e1),zb (zM e2)];have s1:([.vl (.tup [.str "row",.tup (ks.map Kd.t)]),.un,.un,.un,.un]:En).set 1 (.vl (.lst ((ks.map λk=>k.all.length).map λ(n:Nat)=>T.int (n))))=[.vl _,.vl (.lst ((ks.map λk=>k.all.length).map λ(n:Nat)=>T.int (n))),.un,.un,.un]:=rfl;rw[s1,zb (zM Z1)];have s2:([.vl (.tup [.str "row",.tup (ks.map Kd.t)]),.vl (.lst ((ks.map λk=>k.all.length).map λ(n:Nat)=>T.int (n))),.un,.un,.un]:En).set 2 (.vl (.int 1))=[.vl _,.vl (.lst ((ks.map λk=>k.all.length).map λ(n)=>T.int _)),.vl _,.un,.un]:=rfl;rw[s2,zb e3];rfl
theorem z00 (hf:f ρ= .ok (.int i))(hg:g ρ= .ok (.int j)):chE leC leC f (cE (.int c)) g ρ= .ok (.bl (decide (i<=c) && decide (c<=j))):=by
 rw[Vo,hf,bOk,Z1,bOk,WU,hg];cases decide (i<=c) <;> rfl
theorem wI (a b:Nat):decide ((a:Int)<=(b:Int))=decide (a<=b):=by
 by_cases h:a<=b
 ·rw[decide_eq_true h];exact decide_eq_true (by omega)
 ·rw[decide_eq_false h];exact decide_eq_false (by omega)
theorem Q6 (a b:Nat):((a:Int) == (b:Int))=(a == b):=by
 by_cases h:a=b
 ·subst h;simp
 ·rw[beq_eq_false_iff_ne.mpr h,beq_eq_false_iff_ne];omega
theorem z1h (h:f ρ= .ok (.bl b)):ap1 YN f ρ= .ok (.int ((iv b:Nat):Int)):=by
 rw[ZS,h];show R.ok _=_;rw[z2Y]
theorem Q7 (hf:f ρ= .ok (.int (i:Int)))(hg:g ρ= .ok (.int (j:Int))):zd zD f g ρ= .ok (.int ((i+j:Nat):Int)):=by
 rw[zt,hf,bOk,hg,bOk,Z9,Int.natCast_add]
theorem J6 (h:i < 2 ^ 60)(hf:f ρ= .ok (.int (i:Int)))(hg:g ρ= .ok (.int (j:Int))):zd Za f g ρ= .ok (.int ((i*j:Nat):Int)):=by
 rw[zt,hf,bOk,hg,bOk,Q5 h]
theorem kx (h:n<=mx d)(hd:d+1<=3)(h0:1<=d):n*n*n < 2 ^ 60/\n*n < 2 ^ 60/\n < 2 ^ 60:=by
 have h1:n<=70644:=by
  have:d=1\/d=2:=by omega
  have h2:mx 2=70644:=by decide
  have h1:mx 1=41:=by decide
  rcases this with rfl | rfl <;> omega
 have h2:=bb h1 h1;have h3:=bb h2 h1;have h4:70644*70644*70644 < 2 ^ 60:=by decide
 have h5:70644*70644 < 2 ^ 60:=by decide
 have h6:70644 < 2 ^ 60:=by decide
 exact⟨be h3 h4,be h2 h5,be h1 h6⟩
noncomputable abbrev mt (t:T)(lo hi:Nat):T:= .tup [.str "many",t,.int (lo:Int),.int (hi:Int)]
theorem v4' :vE 4 (a :: b :: c :: d :: .vl t :: ρ)= .ok t:=rfl
theorem Q8 {t:T}{a x:Sl}{lo hi n:Nat}(h3:n*n*n < 2 ^ 60)(h2:n*n < 2 ^ 60)(h1:n < 2 ^ 60):
  zB (zK 2 (zd zD (ap1 YN (ZR eqC (zd ixT (vE 0) (cE (.int 2))) (cE (.int 0)))) (zd Za (vE 4) (ap1 YN (chE leC leC (zd ixT (vE 0) (cE (.int 2))) (cE (.int 1)) (zd ixT (vE 0) (cE (.int 3))))))))
  (zB (zK 2 (zd zD (vE 2) (zd Za (zd Za (vE 4) (vE 4)) (ap1 YN (chE leC leC (zd ixT (vE 0) (cE (.int 2))) (cE (.int 2)) (zd ixT (vE 0) (cE (.int 3))))))))
  (zK 2 (zd zD (vE 2) (zd Za (zd Za (zd Za (vE 4) (vE 4)) (vE 4)) (ap1 YN (ZR eqC (zd ixT (vE 0) (cE (.int 3))) (cE (.int 3))))))))
  [.vl (mt t lo hi),a,.vl (.int 1),x,.vl (.int (n:Int))]= .nx [.vl (mt t lo hi),a,.vl (.int ((iv (lo == 0)+n*iv (decide (lo<=1) && decide (1<=hi))+n*n*iv (decide (lo<=2) && decide (2<=hi))+n*n*n*iv (hi == 3):Nat):Int)),x,.vl (.int (n:Int))]:=by
 have le1:∀{p q r s:Sl},ap1 _ (chE leC leC _ _ _) [.vl (mt t lo hi),p,q,r,s]= .ok (.int ((iv (decide (lo<=1) && decide (1<=hi))):Int)):=λ{p q r s}=>z1h (by
  rw[z00 ut K5];rw[show decide ((lo:Int)<=1)=decide _ from wI lo 1,show decide ((1:Int)<=(hi))=decide _ from wI 1 hi])
 have le2:∀{p q r s:Sl},ap1 _ (chE leC leC _ _ _) [.vl (mt t lo hi),p,q,r,s]= .ok (.int ((iv (decide (lo<=2) && decide (2<=hi))):Int)):=λ{p q r s}=>z1h (by
  rw[z00 ut K5];rw[show decide ((lo:Int)<=2)=decide _ from wI lo 2,show decide ((2:Int)<=(hi))=decide _ from wI 2 hi])
 have eq0:∀{p q r s:Sl},ap1 _ (ZR eqC (zd ixT _ _) (cE _)) [.vl (mt t lo hi),p,q,r,s]= .ok _:=λ{p q r s}=>z1h (by
  rw[Zl,ut,bOk,Z1,bOk,eqI,bOk,show ((lo:Int) == 0)=(lo == 0) from Q6 lo 0])
 have eq3:∀{p q r s:Sl},ap1 _ (ZR eqC (zd ixT _ _) (cE _)) [.vl (mt t lo hi),p,q,r,s]= .ok _:=λ{p q r s}=>z1h (by
  rw[Zl,K5,bOk,Z1,bOk,eqI,bOk,show ((hi:Int) == 3)=(hi == 3) from Q6 hi 3])
 have a1:=zM (i:=2) (Q7 (eq0 (p:=a) (q:= .vl (.int 1)) (r:=x)) (J6 h1 v4' le1));have a1:zK 2 _ _= .nx [.vl _,a,.vl _,x,.vl _]:=a1;rw[zb a1];generalize iv _+n*iv _=m1;have a2:=zM (i:=2) (Q7 (v2 (t:= .int (m1)) (b:=a) (ρ:=[x,.vl _])) (J6 h2 (J6 h1 v4' v4') le2));rw[zb a2];generalize m1+n*n*iv _=m2;have a3:=zM (i:=2) (Q7 (v2 (t:= .int (m2)) (b:=a) (ρ:=[x,.vl _])) (J6 h3 (J6 h2 (J6 h1 v4' v4') v4') eq3));exact a3
theorem Q9 {cs:List T->R T}{d:Nat}(hd:d+1<=3)(k:Kd)(lo hi:Nat)(h:(Kd.many k lo hi).Ok (d+1))(H:∀k:Kd,k.Ok d->cs [k.t]= .ok (.int (k.all.length:Int))):zy (b_c (f_4 8) cs (en0 5 [(Kd.many k lo hi).t]))= .ok (.int ((Kd.many k lo hi).all.length:Int)):=by
 obtain⟨h1,h2,h3⟩:=h;have hd0:1<=d:=by
  cases d with
  | zero=>exact h3.elim
  | succ d=>omega
 obtain⟨c3,c2,c1⟩:=kx (jt d k h3) hd hd0;rw[jn,ko _ h1 h2];simp only[Kd.t];have hk:=H k h3;generalize k.all.length=n at*;generalize k.t=t at*;have e:zy (b_c (f_4 8) cs (en0 5 [mt t lo hi]))=zy (b_c _ cs [.vl _,.un,.un,.un,.un]):=rfl;have e1:zE inC (zd ixT (vE 0) (cE (.int 0))) (Zh (z9 (cE (.str "whole")) (z9 (cE (.str "pick")) (zj)))) [.vl (mt t lo hi),.un,.un,.un,.un]= .ok false:=by
  rfl
 have e2:ifE (zE eqC (zd ixT (vE 0) (cE (.int 0))) (cE (.str "row"))) (zU (Zx (zd ixT (vE 0) (cE (.int 1)))) (zI 0) (Zg) (za 1 cs (z9 (vE 0) (zj))) 1 []) (j7 (zj)) [.vl (mt t lo hi),.un,.un,.un,.un]= .ok (.lst []):=by
  rfl
 have s1:([.vl (mt t lo hi),.un,.un,.un,.un]:En).set 1 (.vl (.lst []))=[.vl _,.vl _,.un,.un,.un]:=rfl;have s2:([.vl (mt t lo hi),.vl (.lst []),.un,.un,.un]:En).set 2 (.vl (.int 1))=[.vl _,.vl _,.vl _,.un,.un]:=rfl;have e3:j0 (Zx (vE 1)) (zI 3) (zK 2 (zd Za (vE 2) (vE 3))) [.vl (mt t lo hi),.vl (.lst []),.vl (.int 1),.un,.un]= .nx _:=rfl;have e4:zE eqC (zd ixT (vE 0) (cE (.int 0))) (cE (.str "many")) [.vl (mt t lo hi),.vl (.lst []),.vl (.int 1),.un,.un]= .ok true:=by
  rfl
 have e5:za 1 cs (z9 (zd ixT (vE 0) (cE (.int 1))) (zj)) [.vl (mt t lo hi),.vl (.lst []),.vl (.int 1),.un,.un]= .ok (.int (n)):=by
  rw[zV,Jv,bOk,hk]
 have s5:([.vl (mt t lo hi),.vl (.lst []),.vl (.int 1),.un,.un]:En).set 4 (.vl (.int (n)))=[.vl _,.vl _,.vl _,.un,.vl _]:=rfl;have e6:=Q8 (t:=t) (a:= .vl (.lst [])) (x:= .un) (lo:=lo) (hi:=hi) c3 c2 c1;rw[e,b_c,zb (zx e1),zb (zM e2),s1,zb (zM Z1),s2,zb e3];have e7:∀(P:En->RS),ifS _ (zB _ P) nxS _=P _:=λP=>by
  rw[J4 e4,zb (zM e5),s5]
 rw[zb (Eq.trans (e7 _) e6)];rfl
theorem Qa:∀(d n:Nat),d<=n->d<=3->∀k:Kd,k.Ok d->S_c n 0 [k.t]= .ok (.int (k.all.length:Int))
 | 0,_,_,_,_,h=>h.elim
 | d+1,0,hn,_,_,_=>by omega
 | d+1,n+1,hn,hd,k,h=>by
  have H:=λk' hk' =>Qa d n (by omega) (by omega) k' hk'
  cases k with
  | whole lo hi=>exact u8 _ (UK d lo hi h) (x:="whole") (r:=[.int lo,.int hi]) (by simp only[Kd.t]) rfl
  | pick cs=>exact u8 _ (Vu d cs h) (x:="pick") (r:=[.tup (cs.map Js)]) (by simp only[Kd.t]) rfl
  | row ks=>exact Vv (by omega) ks h H
  | many k lo hi=>exact Q9 (by omega) k lo hi h H
theorem Ok.mono:∀(d:Nat) (k:Kd),k.Ok d->k.Ok (d+1)
 | 0,_,h=>h.elim
 | d+1,.whole _ _,h=>h
 | d+1,.pick _,h=>h
 | d+1,.row ks,h=>⟨h.1,h.2.1,λk hk=>Ok.mono d k (h.2.2 k hk)⟩
 | d+1,.many k _ _,h=>⟨h.1,h.2.1,Ok.mono d k h.2.2⟩
theorem ky (j:Int):Za (.int 700) (.int j)= .ok (.int (700*j)):=qY _ _ (.inl ⟨by decide,by decide⟩)
theorem z01 (ns:List Int)(d:Nat)(h1:1<=d)(h8:d<=8)(k:Int)(h0:0<=k):∃q:Kd,f_e 8 [scr ns,.int k,.int (d:Int)]= .ok q.t/\q.Ok d:=by
 obtain⟨t,ht,hi⟩:=uQ ns d 8 h8 h1 k h0;obtain⟨q,rfl,hq⟩:=uS d t hi;exact⟨q,ht,hq⟩
abbrev smB:En->RS:=zB (ifS (zE leC (za 1 (f_c 8) (z9 (vE 3) (zj))) (vB 2)) (zG (vE 3)) (nxS))
  (zK 3 (za 3 (f_e 8) (z9 (vE 0) (z9 (zd zD (zd zD (vE 1) (cE (.int 500))) (zd Za (cE (.int 700)) (vE 4))) (z9 (cE (.int 2)) (zj))))))
abbrev en5 (ns:List Int)(a:Int)(m:Nat)(k:Kd)(x:Sl):En:=[.vl (scr ns),.vl (.int a),.vl (.int (m:Int)),.vl k.t,x]
theorem Qb (hk:k.Ok 3):zE leC (za 1 (f_c 8) (z9 (vE 3) (zj))) (vB 2) (en5 ns a m k x)= .ok (decide (k.all.length<=m)):=by
 have e:f_c 8 _= .ok _:=Qa 3 8 (by omega) (by omega) k hk
 rw[zJ,zV,v3,bOk,e,bOk,w2,bOk,WU,wI]
theorem kz (ns:List Int)(ha:0<=a)(hk:k.Ok 3)(j:Nat):(k.all.length<=m/\smB (en5 ns a m k (.vl (.int (0+(j:Int)))))= .rt k.t)\/∃k' :Kd,k'.Ok 3/\smB (en5 ns a m k (.vl (.int (0+(j:Int)))))= .nx (en5 ns a m k' (.vl (.int (0+(j:Int))))):=by
 by_cases h:k.all.length<=m
 ·refine .inl ⟨h, ?_⟩;refine zH ?_;rw[J4 (by rw[Qb hk,decide_eq_true h])]
  exact zw rfl
 ·obtain⟨q,hq,ho⟩:=z01 ns 2 (by omega) (by omega) (a+500+700*(0+(j))) (by omega)
  refine .inr ⟨q,Ok.mono 2 q ho, ?_⟩;unfold smB;rw[zb (zx (by rw[Qb hk,decide_eq_false h]))]
  have hq:f_e 8 [scr ns,.int _,.int 2]= .ok q.t:=hq;have e:za 3 (f_e 8) (z9 (vE 0) (z9 (zd zD (zd zD (vE 1) (cE (.int 500))) (zd Za (cE (.int 700)) (vE 4))) (z9 (cE (.int 2)) (zj)))) (en5 ns a m k (.vl (.int (0+(j)))))= .ok q.t:=by
   rw[ZB,v0,bOk,zt,zt,v1,bOk,Z1,bOk,Z9,bOk,zt,Z1,bOk,v4,bOk,ky,bOk,Z9,bOk,Z1,bOk,hq]
  rw[zM e];rfl
theorem z02 {g:T->En->R En}(hg:g t ρ= .ok ρ1)(hb:fb ρ1= .rt r):ZA g fb (t :: ts) ρ= .rt r:=by
 rw[ZA,hg];dsimp only;rw[hb]
theorem Qc (ns:List Int)(ha:0<=a):∀(js:List Nat) (k:Kd) (x:Sl),k.Ok 3->(∃k' :Kd,k'.Ok 3/\k'.all.length<=m/\ZA (zI 4) smB (js.map λ(j:Nat)=>T.int (0+(j:Int))) (en5 ns a m k x)= .rt k'.t)\/
  ∃(k' :Kd) (x' :Sl),k'.Ok 3/\ZA (zI 4) smB (js.map λ(j:Nat)=>T.int (0+(j:Int))) (en5 ns a m k x)= .nx (en5 ns a m k' x')
 | [],k,x,hk=> .inr ⟨k,x,hk,rfl⟩
 | j :: js,k,x,hk=>by
  have s3:zI 4 (T.int (0+(j))) (en5 ns a m k x)= .ok _:=rfl;rw[aF];rcases kz ns ha hk j with ⟨h1,h2⟩ | ⟨k',h1,h2⟩
  ·exact .inl ⟨k,hk,h1,z02 s3 h2⟩
  ·rw[jh s3 h2];exact Qc ns ha js k' _ h1
theorem Vw (ns:List Int)(a:Int)(ha:0<=a)(m:Nat)(hm:4<=m):∃k:Kd,k.Ok 3/\k.all.length<=m/\GE [scr ns,.int a,.int (m:Int)]= .ok k.t:=by
 obtain⟨q,hq,ho⟩:=z01 ns 3 (by omega) (by omega) a ha
 have hq:f_e 8 [scr ns,.int a,.int 3]= .ok q.t:=hq;have e:GE [scr ns,.int a,.int (m)]=zy (z0P _ _ [.vl _,.vl _,.vl _,.un,.un]):=rfl;have e1:za 3 (f_e 8) (z9 (vE 0) (z9 (vE 1) (z9 (cE (.int 3)) (zj)))) [.vl (scr ns),.vl (.int a),.vl (.int (m)),.un,.un]= .ok q.t:=by
  rw[ZB,v0,bOk,v1,bOk,Z1,bOk,hq]
 have s1:([.vl _,.vl _,.vl _,.un,.un]:En).set 3 _=en5 ns a m q .un:=rfl;rw[e,z0P,zb (zM e1),s1];rcases Qc ns ha _ q .un ho with ⟨k,h1,h2,h3⟩ | ⟨k,x,h1,h3⟩
 ·refine⟨k,h1,h2, ?_⟩;have e2:j0 (Zv (cE (.int 3))) (zI 4) smB _= .rt k.t:=h3;rw[zH e2];rfl
 ·have e2:j0 (Zv (cE (.int 3))) (zI 4) smB _= .nx _:=h3;rw[zb e2];have ec:zE leC _ _ (frz (en5 ns a m k x))= .ok _:=Qb h1
  by_cases h:k.all.length<=m
  ·refine⟨k,h1,h, ?_⟩;rw[zw]
   ·rfl
   ·unfold ifE;rw[ec,decide_eq_true h];rfl
  ·refine⟨.whole (-1) 2,⟨by omega,by omega,by omega⟩,by exact hm, ?_⟩
   rw[zw]
   ·rfl
   ·unfold ifE;rw[ec,bOk,decide_eq_false h,if_neg aG];rfl
mutual
noncomputable def Kd.has:Kd->T->Bool
 | .whole lo hi=>λt=>inR lo hi t
 | .pick cs=>λt=>match t with | .str x=>cs.any λc=>c.1 == x | _=>false
 | .row ks=>λt=>match t with | .tup xs=>xs.length == ks.length && Kd.hass ks xs | _=>false
 | .many k lo hi=>λt=>match t with | .tup xs=>decide (lo<=xs.length) && decide (xs.length<=hi) && xs.all k.has | _=>false
noncomputable def Kd.hass:List Kd->List T->Bool
 | []=>λ_=>true
 | k :: ks=>λxs=>match xs with | []=>true | x :: xs=>k.has x && Kd.hass ks xs
end
theorem UL:∀(ks:List Kd) (xs:List T),Kd.hass ks xs=(ks.zip xs).all λq=>q.1.has q.2
 | [],_=>by simp[Kd.hass]
 | k :: ks,[]=>by simp[Kd.hass]
 | k :: ks,x :: xs=>by simp[Kd.hass,UL ks xs]
noncomputable def yJ:List (List T)->List T->Prop
 | [],[]=>True
 | l :: ls,x :: xs=>x∈l/\yJ ls xs
 | _,_=>False
theorem w8:∀(ls made:List (List T)) (xs:List T),xs∈ZC made ls↔∃a∈made,∃b,yJ ls b/\xs=a++b
 | [],made,xs=>by
  rw[ZC];constructor
  ·exact λh=>⟨xs,h,[],trivial,by simp⟩
  ·rintro⟨a,ha,b,hb,rfl⟩
   cases b with
   | nil=>simpa using ha
   | cons=>exact hb.elim
 | l :: ls,made,xs=>by
  rw[ZC,w8 ls];constructor
  ·rintro⟨a',ha',b,hb,rfl⟩
   obtain⟨a,ha,hx⟩:=cO.mp ha';obtain⟨x,hl,e⟩:=aI.mp hx;exact⟨a,ha,x :: b,⟨hl,hb⟩,by rw[← e];simp⟩
  ·rintro⟨a,ha,b,hb,rfl⟩
   cases b with
   | nil=>exact hb.elim
   | cons x b=>exact⟨a++[x],cO.mpr ⟨a,ha,aI.mpr ⟨x,hb.1,rfl⟩⟩,b,hb.2,by simp⟩
theorem Wb (ls:List (List T))(t:T):t∈yU ls↔∃xs,yJ ls xs/\t= .tup xs:=by
 rw[aI];constructor
 ·rintro⟨xs,h,rfl⟩
  obtain⟨a,ha,b,hb,rfl⟩:=(w8 ls _ xs).mp h;rw[aM.mp ha];exact⟨b,hb,rfl⟩
 ·rintro⟨xs,h,rfl⟩
  exact⟨xs,(w8 ls _ xs).mpr ⟨[],aM.mpr rfl,xs,h,rfl⟩,rfl⟩
theorem Wc (l:List T):∀(m:Nat) (xs:List T),yJ (ah m l) xs↔xs.length=m/\∀x∈xs,x∈l
 | 0,[]=>by simp[yJ]
 | 0,x :: xs=>by simp[yJ]
 | m+1,[]=>by simp[yJ,bG]
 | m+1,x :: xs=>by
  show x∈l/\yJ _ xs↔_;rw[Wc l m xs];simp;constructor
  ·rintro⟨a,b,c⟩;exact⟨b,a,c⟩
  ·rintro⟨a,b,c⟩;exact⟨b,a,c⟩
theorem u9:∀(ks:List Kd),(∀k∈ks,∀x,x∈k.all↔k.has x=true)->∀xs,yJ (ks.map Kd.all) xs↔(xs.length == ks.length && Kd.hass ks xs)=true
 | [],_,[]=>by simp[yJ,Kd.hass]
 | [],_,x :: xs=>by simp[yJ]
 | k :: ks,h,[]=>by simp[yJ]
 | k :: ks,h,x :: xs=>by
  show x∈k.all/\yJ _ xs↔_;rw[u9 ks (λk' hk' =>h k' (a8 _ hk')) xs,h k ab x];simp[Kd.hass];constructor
  ·rintro⟨a,b,c⟩;exact⟨b,a,c⟩
  ·rintro⟨a,b,c⟩;exact⟨b,a,c⟩
mutual
theorem J7:∀(k:Kd) (x:T),x∈k.all↔k.has x=true
 | .whole lo hi,x=>by
  rw[Kd.all,Kd.has,aI];constructor
  ·rintro⟨i,hi',rfl⟩
   rw[bf]at hi';simp[inR];omega
  ·intro h;obtain⟨i,rfl⟩:=km h;simp[inR]at h;exact⟨(i - lo).toNat,by rw[bf];omega,by congr 1;omega⟩
 | .pick cs,x=>by
  rw[Kd.all,Kd.has,aI];constructor
  ·rintro⟨c,hc,rfl⟩
   simp only[eY];exact⟨c,hc,by simp⟩
  ·intro h;dsimp only at h;split at h
   ·rw[eY]at h;obtain⟨c,hc,e⟩:=h;exact⟨c,hc,by rw[eq_of_beq e]⟩
   ·cases h
 | .row ks,x=>by
  rw[Kd.all,Kd.has,Wb,Kd.alls_map];have:=u9 ks (UM ks);constructor
  ·rintro⟨xs,h,rfl⟩
   exact(this xs).mp h
  ·intro h;dsimp only at h;split at h
   ·rename_i xs;exact⟨xs,(this xs).mpr h,rfl⟩
   ·cases h
 | .many k lo hi,x=>by
  rw[Kd.all,Kd.has,cO];constructor
  ·rintro⟨i,hi',h⟩
   rw[Wb]at h;obtain⟨xs,h,rfl⟩:=h;rw[Wc]at h;rw[bf]at hi';simp only[ag,decide_eq_true_eq,aR];exact⟨⟨by omega,by omega⟩,λy hy=>(J7 k y).mp (h.2 y hy)⟩
  ·intro h;dsimp only at h;split at h
   ·rename_i xs;simp only[ag,decide_eq_true_eq,aR]at h;refine⟨xs.length - lo,by rw[bf];omega, ?_⟩
    rw[Wb];exact⟨xs,(Wc _ _ _).mpr ⟨by omega,λy hy=>(J7 k y).mpr (h.2 y hy)⟩,rfl⟩
   ·cases h
theorem UM:∀(ks:List Kd),∀k∈ks,∀x,x∈k.all↔k.has x=true
 | [],_,h=>nomatch h
 | k :: ks,k',h=>by
  rcases ak.mp h with e | h
  ·intro x;rw[e];exact J7 k x
  ·exact UM ks k' h
end
theorem UN {α:Type}(p:α->Bool):∀qs:List α,ur (qs.map λq=>T.bl (p q))=some (qs.all p)
 | []=>rfl
 | q :: qs=>by
  have e:ur ((q :: qs).map λq=>T.bl (p q))=match ur (qs.map λq=>T.bl _) with | some j=>some _ | none=>none:=rfl
  rw[e,UN p qs];rfl
theorem z2Z (ks:List Kd)(xs:List T):ve (ks.map Kd.t) xs=(ks.zip xs).map λq=>T.tup [q.1.t,q.2]:=by
 unfold ve;rw[List.zip_map_left,b8];rfl
theorem Vx (cs:List (Str×Int))(h:cs.length<=4):GH [(Kd.pick cs).t]= .ok (.lst (cs.map λc=>T.str c.1)):=by
 have e:GH [(Kd.pick cs).t]=zy (z0Y [.vl (.tup [.str "pick",.tup (cs.map Js)])]):=by rfl
 have hb:(cs.map Js).length<=bnd:=by rw[ac];exact aA h (by decide)
 have ec:zC _ _ (zd ixT (vE 0) (cE (.int 0))) 1 [] [.vl (.tup [.str "pick",.tup (cs.map Js)])] _= .ok ((cs.map Js).map λc=>match c with | .tup (w :: _)=>w | _=>c):=
  Z3 _ hb λt ht=>by
   obtain⟨c,_,rfl⟩:=aI.mp ht;rfl
 rw[e,z0Y,zw]
 ·rfl
 ·show zU _ _ _ _ _ _ [.vl _]=_;show ((zC _ _ _ _ _ _ _).bind _)=_;rw[ec,b8];rfl
abbrev en2 (a b:T):En:=[.vl a,.vl b]
theorem K6 (h:(x == w)=false):ifS (zE eqC (zd ixT (vE 0) (cE (.int 0))) (cE (.str w))) f nxS (en2 (.tup (.str x :: r)) b)= .nx (en2 (.tup (.str x :: r)) b):=
 zx (by rw[cs0,h])
theorem cs0t:ifS (zE eqC (zd ixT (vE 0) (cE (.int 0))) (cE (.str x))) f nxS (en2 (.tup (.str x :: r)) b)=f (en2 (.tup (.str x :: r)) b):=
 J4 (by rw[cs0,beq_self_eq_true])
theorem Qd:∀(d:Nat) (k:Kd),k.Ok d->isK d k.t=true
 | 0,_,h=>h.elim
 | d+1,.whole lo hi,h=>by
  have e:isK (d+1) (Kd.whole lo hi).t=(decide (-20<=lo) && decide (lo<=hi) && decide (hi<=20)):=by rfl
  obtain⟨h1,h2,h3⟩:=h;rw[e];simp;omega
 | d+1,.pick cs,h=>by
  have e:isK (d+1) (Kd.pick cs).t=(decide (1<=(cs.map Js).length) && decide ((cs.map Js).length<=4) && (cs.map Js).all Z0 && decide ((dd [] ((cs.map Js).map ZU)).length=(cs.map Js).length)):=by rfl
  obtain⟨h1,h2,h3,h4⟩:=h;have e1:(cs.map Js).map ZU=cs.map (·.1):=by rw[b8];rfl
  have e2:=(W8 _ []).mpr λk w hw=>by simpa using h4 k w hw
  rw[e,e1,e2,ac];simp only[ag,decide_eq_true_eq,aR];refine⟨⟨⟨h1,h2⟩,λc hc=> ?_⟩,by simp⟩
  obtain⟨p,hp,rfl⟩:=aI.mp hc;obtain⟨a,b,c⟩:=h3 p hp;show (Zr _ && decide _ && decide _)=true;rw[a];simp;omega
 | d+1,.row ks,h=>by
  have e:isK (d+1) (Kd.row ks).t=(decide (1<=(ks.map Kd.t).length) && decide ((ks.map Kd.t).length<=3) && (ks.map Kd.t).all (isK d)):=by rw[Kd.t,Kd.ts_map];rfl
  obtain⟨h1,h2,h3⟩:=h;rw[e,ac];simp only[ag,decide_eq_true_eq,aR];refine⟨⟨h1,h2⟩,λc hc=> ?_⟩;obtain⟨k,hk,rfl⟩:=aI.mp hc;exact Qd d k (h3 k hk)
 | d+1,.many k lo hi,h=>by
  have e:isK (d+1) (Kd.many k lo hi).t=((decide ((0)<=(lo)) && decide ((lo:Int)<=(hi)) && decide ((hi:Int)<=3)) && isK d k.t):=by rfl
  obtain⟨h1,h2,h3⟩:=h;rw[e,Qd d k h3];simp;omega
theorem UO:∀(ks:List Kd) (xs:List T),xs.length=ks.length->Kd.hass ks xs=true->∀x∈xs,∃k∈ks,k.has x=true
 | [],[],_,_,_,h=>nomatch h
 | k :: ks,[],h,_,_,_=>by cases h
 | [],x :: xs,h,_,_,_=>by cases h
 | k :: ks,x :: xs,hl,h,y,hy=>by
  rw[Kd.hass]at h;rw[ag]at h;rcases ak.mp hy with rfl | hy
  ·exact⟨k,ab,h.1⟩
  ·obtain⟨k',hk,hh⟩:=UO ks xs (by simpa using hl) h.2 y hy
   exact⟨k',a8 _ hk,hh⟩
theorem UP {α β:Type}(f:α->List β)(m:Nat):∀(as:List α) (i j:Nat),(∀a∈as,(f a).length=m)->j < m->(as.flatMap f)[i*m+j]? =(as[i]?).bind λa=>(f a)[j]?
 | [],i,j,_,_=>by simp
 | a :: as,0,j,h,hj=>by
  have ha:=h a ab;rw[bM,Nat.zero_mul,ik,ax (by omega)]
  rfl
 | a :: as,i+1,j,h,hj=>by
  have ha:=h a ab;have e:(i+1)*m=i*m+m:=by rw[dD,bS]
  rw[bM,av (by omega),ha,e,show i*m+m+j - m=i*m+j by omega,UP f m as i j (λb hb=>h b (a8 _ hb)) hj]
  rfl
theorem ua {α β:Type}(f:α->List β):∀(as:List α) (q j:Nat) (a:α),as[q]? =some a->j < (f a).length->(as.flatMap f)[((as.take q).map λb=>(f b).length).sum+j]? =(f a)[j]?
 | [],q,j,a,h,_=>by simp at h
 | b :: as,0,j,a,h,hj=>by
  have e:=by simpa using h
  subst e;rw[bM,List.take_zero,cy,List.sum_nil,ik,ax hj]
 | b :: as,q+1,j,a,h,hj=>by
  rw[bM,List.take_succ_cons,aF,dz,Nat.add_assoc,av (by omega),eZ]
  exact ua f as q j a (by simpa using h) hj
theorem wJ:∀(ls made:List (List T)) (l:List T),ZC made (ls++[l])=(ZC made ls).flatMap λa=>l.map λx=>a++[x]
 | [],made,l=>rfl
 | _ :: ls,made,l=>by
  rw[dv,ZC,ZC,wJ ls]
theorem Vy {ls:List (List T)}(h:(ZC [[]] ls)[i]? =some xs)(hx:l[j]? =some x):(ZC [[]] (ls++[l]))[i*l.length+j]? =some (xs++[x]):=by
 have hj:=(ai.mp hx).1;rw[wJ,UP _ _ _ i j (λa _=>ac ..) hj,h];show (l.map λx=>xs++[x])[j]? =_;rw[ar,hx];rfl
theorem UQ:∀(ns:List Nat) (n:Nat),prd (ns++[n])=prd ns*n
 | [],n=>by simp[prd]
 | m :: ns,n=>by rw[dv,prd,prd,UQ ns n,cF]
theorem wK (ls:List (List T)):(ZC [[]] ls).length=prd (ls.map (·.length)):=by rw[JZ,aK,bS]
theorem ub {α:Type}{xs:List α}(h:i < xs.length):∃x,xs[i]? =some x:=⟨_,ae h⟩
theorem z03 {xs:List T}{j:Nat}{v:T}(h:xs[j]? =some v):atT xs (j:Int)= .ok v:=by unfold atT;rw[ZZ h]
noncomputable def shr (c lo q:Nat):Nat:=((a_ q).map λi=>c ^ (lo+i)).sum
theorem Vz (c lo q:Nat):shr c lo (q+1)=shr c lo q+c ^ (lo+q):=by
 unfold shr;rw[fw,bj];simp
theorem kA (hq:q < hi+1 - lo)(h:(ZC [[]] (ah (lo+q) k.all))[j]? =some xs):(Kd.many k lo hi).all[shr k.all.length lo q+j]? =some (.tup xs):=by
 have hj:=(ai.mp h).1;have e:=ua (λi=>yU (ah _ _)) _ q j q (by rw[cS hq]) (by rw[ac];exact hj)
 have e2:(((a_ (hi+1 - lo)).take q).map λb=>(yU (ah (lo+b) k.all)).length).sum=shr k.all.length lo q:=by
  rw[List.take_range,iP (f6 hq),shr];congr 1
  refine cf λi _=> ?_;rw[Ju,b6,je]
 rw[e2]at e;rw[Kd.all,e];rw[ar,h];rfl
abbrev cpB (c:List T->R T):En->RS:=zK 1 (zd Za (vE 1) (za 1 c (z9 (vE 2) (zj))))
theorem Qe:∀(ks:List Kd) (m:Nat) (x:Sl),(∀k∈ks,c [k.t]= .ok (.int (k.all.length:Int))/\1<=k.all.length)->m*prd (ks.map λk=>k.all.length) < 2 ^ 60->
  ∃y,ZA (zI 2) (cpB c) (ks.map Kd.t) [S,.vl (.int (m:Int)),x]= .nx [S,.vl (.int ((m*prd (ks.map λk=>k.all.length):Nat):Int)),y]
 | [],m,x,_,_=>⟨x,by simp[ZA,prd]⟩
 | k :: ks,m,x,H,hb=>by
  obtain⟨hc,h1⟩:=H k ab;have hp:=JY λn hn=>by
   obtain⟨k',hk',rfl⟩:=aI.mp hn;exact(H k' (a8 _ hk')).2
  rw[aF,prd,← cF]at hb;have hm:m < 2 ^ 60:=by
   have h2:m<=m*k.all.length:=cn _ h1;have h3:m*k.all.length<=m*k.all.length*prd (ks.map λk=>k.all.length):=cn _ hp;omega
  have eb:cpB c [S,.vl (.int (m)),.vl k.t]= .nx [S,.vl (.int ((m*k.all.length:Nat))),.vl k.t]:=by
   rw[cpB,zM]
   ·rfl
   ·rw[zt,v1,bOk,zV,v2,bOk,hc,bOk,Q5 hm]
  obtain⟨y,ih⟩:=Qe (S:=S) ks _ _ (λk' hk' =>H k' (a8 _ hk')) hb;refine⟨y, ?_⟩;rw[aF,jh rfl eb,ih,aF,prd,cF]
theorem wa (ks:List Kd)(hs:Jd s= .ok (ks.map Kd.t))(H:∀k∈ks,c [k.t]= .ok (.int (k.all.length:Int))/\1<=k.all.length)(hb:prd (ks.map λk=>k.all.length) < 2 ^ 60):
  zy (b_w c (en0 3 [s]))= .ok (.int ((prd (ks.map λk=>k.all.length):Nat):Int)):=by
 obtain⟨y,e⟩:=Qe ks 1 .un H (by rw[bS];exact hb)
 rw[bS]at e;have e0:zK 1 (cE (.int 1)) [.vl s,.un,.un]= .nx [.vl s,.vl _,.un]:=rfl;have e1:j0 (Zx (vE 0)) (zI 2) (cpB c) [.vl s,.vl (.int 1),.un]= .nx [.vl s,.vl (.int ((prd (ks.map λk=>k.all.length)):Int)),y]:=by
  show ((Jd s).s λts=>ZA _ _ ts _)=_;rw[hs];exact e
 show zy (b_w c [.vl s,.un,.un])=_;rw[b_w,zb e0,zb e1];rfl
theorem Qf {α:Type}(g:α->Nat):∀l:List α,Z2 (l.map λa=>T.int ((g a:Nat):Int))=some (l.map λa=>((g a:Nat):Int))
 | []=>rfl
 | a :: l=>by
  show (match Z2 (l.map λa=>T.int _) with | some l=>some _ | none=>none)=_
  rw[Qf g l];rfl
theorem UR {α:Type}(g:α->Nat):∀l:List α,(l.map λa=>((g a:Nat):Int)).sum=(((l.map g).sum:Nat):Int)
 | []=>rfl
 | a :: l=>by rw[aF,dz,aF,dz,UR g l];omega
theorem z04 {α:Type}(g:α->Nat)(l:List α):XH (.lst (l.map λa=>T.int ((g a:Nat):Int)))= .ok (.int (((l.map g).sum:Nat):Int)):=by
 unfold XH;dsimp only;rw[Qf,← UR]
theorem jS (k:Kd)(m:Nat):((ah m k).map λk=>k.all.length)=ah m k.all.length:=by rw[b6]
theorem Qg (h4:lo+q<=4)(H:∀m,m<=3->c [.lst (ah m t)]= .ok (.int ((n ^ m:Nat):Int))):
  zy (b_q c (en0 2 [mt t lo hi,.int ((lo+q:Nat):Int)]))= .ok (.int ((shr n lo q:Nat):Int)):=by
 have er:Jl (zd ixT (vE 0) (cE (.int 2))) (vE 1) [.vl (mt t lo hi),.vl (.int ((lo+q:Nat)))]= .ok (rng (lo) q):=by
  rw[uT rfl rfl ⟨by omega,by omega,by omega,by omega⟩]
  congr 2;omega
 have ec:zC _ _ (za 1 c (z9 (zd _ _ _) _)) 1 [0] [.vl _,.vl (.int ((lo+q:Nat)))] _= .ok ((rng (lo) q).map λx=>match x with | .int i=>T.int ((n ^ i.toNat:Nat)) | y=>y):=
  Z3 _ (by unfold rng;rw[ac,bA];have:bnd=16777216:=rfl;omega) λx hx=>by
   obtain⟨i,hi',rfl⟩:=aI.mp hx;have hi2:=bf.mp hi';show za 1 c _ [.vl _,.vl _]=_;have e1:zd Za (j7 (z9 (zd ixT (vE 1) (cE (.int 1))) (zj))) (vE 0) [.vl (.int ((lo)+(i))),.vl (mt t lo hi)]= .ok (.lst (ah (lo+i) t)):=by
    have e0:zd ixT (vE 1) (cE (.int 1)) [.vl (.int ((lo)+(i))),.vl (mt t lo hi)]= .ok t:=rfl;rw[zt,z1g e0,bOk,v0,bOk,show (lo:Int)+(i)=((lo+i:Nat)) by omega,UI (by omega),jP]
   rw[zV,e1,bOk,H _ (by omega)]
   show _=R.ok (T.int _);rw[show ((lo:Int)+(i)).toNat=lo+i by omega]
 rw[b_q,zw]
 ·rfl
 ·show ap1 _ _ [.vl _,.vl _]=_;rw[ZS,zY,er,bOk,ec,bOk,bOk];have e2:((rng (lo) q).map λx=>match x with | .int i=>T.int ((n ^ i.toNat:Nat)) | y=>y)=(a_ q).map λi=>T.int ((n ^ (lo+i):Nat)):=by
   unfold rng;rw[b8];refine cf λi _=> ?_;show T.int _=_;rw[show ((lo:Int)+(i)).toNat=lo+i by omega]
  rw[e2,z04 (λi=>n ^ (lo+i))];rfl
theorem xq (h:n<=mx d)(hd:d<=2)(hm:m<=3):n ^ m < 2 ^ 60:=by
 have h2:mx d<=70644:=by
  have:d=0\/d=1\/d=2:=by omega
  rcases this with rfl | rfl | rfl <;> decide
 have h3:=aA (Nat.pow_le_pow_left (aA h h2) m) (bB (by omega) hm)
 omega
theorem US:∀(d n:Nat),3*d<=n->d<=3->∀k:Kd,k.Ok d->S_1 n 0 [k.t]= .ok (.int (k.all.length:Int))
 | 0,_,_,_,_,h=>h.elim
 | d+1,n+3,hn,hd,k,h=>by
  have ih:=US d n (by omega) (by omega)
  have ih1:=US d (n+1) (by omega) (by omega)
  have e:S_1 (n+3) 0 [k.t]=zy (b_1 _ _ [.vl k.t]):=rfl;have e2:∀s u,S_1 (n+2) 2 [s,u]=zy _:=λs u=>rfl;rw[e,b_1];cases k with
  | whole lo hi=>
   obtain⟨h1,h2,h3⟩:=h;rw[jg];simp only[Kd.t];rw[zH (t:= .int _)]
   ·rfl
   ·rw[J4 (by rw[cs0,beq_self_eq_true]),zw]
    show R.ok _=_;congr 2;omega
  | pick cs=>
   rw[Wa];simp only[Kd.t];rw[zb (zx (by rfl)),zH]
   ·rfl
   ·rw[J4 (by rw[cs0,beq_self_eq_true]),zw]
    show R.ok _=_;rw[ac]
  | row ks=>
   obtain⟨h1,h2,h3⟩:=h;rw[jZ];simp only[Kd.t];rw[Kd.ts_map,zb (zx (by rfl)),zb (zx (by rfl)),zH]
   ·rfl
   ·rw[J4 (by rw[cs0,beq_self_eq_true]),zw]
    have hl:=jt (d+1) (.row ks) ⟨h1,h2,h3⟩;rw[jZ]at hl;exact wa ks rfl (λk hk=>⟨ih1 k (h3 k hk),ZM d k (h3 k hk)⟩) (GZ hl hd)
  | many k lo hi=>
   obtain⟨h1,h2,h3⟩:=h;rw[jn];simp only[Kd.t];rw[zb (zx (by rfl)),zb (zx (by rfl)),zb (zx (by rfl)),zw]
   ·rfl
   ·show za 2 _ _ [.vl _]=_;rw[zN,v0,bOk,yI K5,bOk,e2,show (hi:Int)+1=((lo+(hi+1 - lo):Nat)) by omega]
    refine Qg (by omega) λm hm=> ?_
    have hp:prd ((ah m k).map λk=>k.all.length)=k.all.length ^ m:=by rw[jS,je]
    rw[← hp];refine wa _ (by rw[b6];rfl) (λk' hk' => ?_) (by rw[hp];exact xq (jt d k h3) (by omega) hm)
    rw[bK hk'];exact⟨ih k h3,ZM d k h3⟩
theorem jm {d:Nat}(hd:d<=3){k:Kd}(h:k.Ok d):f_1 20 [k.t]= .ok (.int (k.all.length:Int)):=US d 20 (by omega) hd k h
theorem UT {d:Nat}(hd:d<=2){k:Kd}(h:k.Ok d){lo hi q:Nat}(h4:lo+q<=4):f_q 20 [mt k.t lo hi,.int ((lo+q:Nat):Int)]= .ok (.int ((shr k.all.length lo q:Nat):Int)):=by
 have e:f_q 20 [mt k.t lo hi,.int ((lo+q:Nat))]=zy (b_q (S_1 19 1) (en0 2 [mt k.t lo hi,.int ((lo+q):Int)])):=rfl;rw[e];refine Qg h4 λm hm=> ?_;have hp:prd ((ah m k).map λk=>k.all.length)=k.all.length ^ m:=by rw[jS,je]
 rw[← hp];refine wa _ (by rw[b6];rfl) (λk' hk' => ?_) (by rw[hp];exact xq (jt d k h) hd hm)
 rw[bK hk'];exact⟨US d 18 (by omega) (by omega) k h,ZM d k h⟩
abbrev paB (cc cw:List T->R T):En->RS:=zB (zK 5 (za 1 cc (z9 (vE 4) (zj))))
  (zB (Uc 2 (za 2 cw (z9 (vE 4) (z9 (zd jw (vE 3) (vE 5)) (zj)))))
  (zK 3 (zd wT (vE 3) (vE 5))))
structure AtOk (cc cw:List T->R T) (k:Kd):Prop where
 cnt:cc [k.t]= .ok (.int (k.all.length:Int))
 at_:∀(i:Nat) x,k.all[i]? =some x->cw [k.t,.int (i:Int)]= .ok x
 pos:1<=k.all.length
 le:k.all.length < 1000000
theorem v5' :vE 5 (a :: b :: c :: d :: e :: .vl t :: ρ)= .ok t:=rfl
theorem Qh {n c:Nat}(h:1<=c):jw (.int (n:Int)) (.int (c:Int))= .ok (.int ((n % c:Nat):Int)):=by
 unfold jw;dsimp only;rw[if_pos (by omega)];rfl
theorem kB {n c:Nat}(h:1<=c)(h' :c < 1000000):wT (.int (n:Int)) (.int (c:Int))= .ok (.int ((n / c:Nat):Int)):=by
 unfold wT;dsimp only;rw[if_pos (by omega)];rfl
theorem Qi (hi:ρ[i]? =some (.ow ts))(hl:ts.length < bnd)(h:f ρ= .ok t):Uc i f ρ= .nx (ρ.set i (.ow (ts++[t]))):=by
 unfold Uc;rw[hi];dsimp only;rw[h,ZQ,if_pos hl]
theorem Qj {cc cw:List T->R T}{S N:Sl}:∀(rs:List Kd) (acc:List T) (n:Nat) (x y:Sl),(∀k∈rs,AtOk cc cw k)->n < prd (rs.map λk=>k.all.length)->acc.length+rs.length<=1000->
  ∃xs r x' y',(ZC [[]] (rs.reverse.map Kd.all))[n]? =some xs/\ZA (zI 4) (paB cc cw) (rs.map Kd.t) [S,N,.ow acc,.vl (.int (n:Int)),x,y]= .nx [S,N,.ow (acc++xs.reverse),r,x',y']
 | [],acc,n,x,y,_,hn,_=>⟨[],.vl (.int (n)),x,y,by
   have:=by simp[prd]at hn;exact hn
   subst this;rfl,by simp[ZA]⟩
 | k :: rs,acc,n,x,y,H,hn,hl=>by
  obtain⟨hc,hw,h1,hle⟩:=H k ab;rw[am]at hl;have hb:bnd=16777216:=rfl;have hmod:n % k.all.length < k.all.length:=iW _ h1;obtain⟨v,hv⟩:=ub hmod;have hdiv:=Nat.div_lt_of_lt_mul hn;obtain⟨xs,r,x',y',e1,e2⟩:=Qj rs (acc++[v]) _ _ _ (λk' hk' =>H k' (a8 _ hk')) hdiv (by rw[az,aK];omega)
  have b1:zK 5 (za 1 cc (z9 (vE 4) (zj))) [S,N,.ow acc,.vl (.int (n)),.vl k.t,y]= .nx [S,N,.ow acc,.vl (.int (n)),.vl k.t,.vl (.int (k.all.length))]:=by
   rw[zM]
   ·rfl
   ·rw[zV,v4,bOk,hc]
  have b2:Uc 2 (za 2 cw (z9 (vE 4) (z9 (zd jw (vE 3) (vE 5)) (zj)))) [S,N,.ow acc,.vl (.int (n)),.vl k.t,.vl (.int (k.all.length))]= .nx [S,N,.ow (acc++[v]),.vl (.int (n)),.vl k.t,.vl (.int (k.all.length))]:=by
   rw[Qi rfl (by omega)]
   ·rfl
   ·rw[zN,v4,bOk,zt,v3,bOk,v5',bOk,Qh h1,bOk,hw _ v hv]
  have b3:zK 3 (zd wT (vE 3) (vE 5)) [S,N,.ow (acc++[v]),.vl (.int (n)),.vl k.t,.vl (.int (k.all.length))]= .nx [S,N,.ow (acc++[v]),.vl (.int ((n / k.all.length:Nat))),.vl k.t,.vl (.int (k.all.length))]:=by
   rw[zM]
   ·rfl
   ·rw[zt,v3,bOk,v5',bOk,kB h1 hle]
  have eb:paB cc cw [S,N,.ow acc,.vl (.int (n)),.vl k.t,y]= .nx [S,N,.ow (acc++[v]),.vl (.int ((n / k.all.length:Nat))),.vl k.t,.vl (.int (k.all.length))]:=by
   rw[paB,zb b1,zb b2,b3]
  refine⟨xs++[v],r,x',y', ?_, ?_⟩
  ·have:=Vy e1 hv;rw[cu,Nat.div_add_mod]at this;rw[c9,bj];exact this
  ·rw[aF,jh rfl eb,e2];simp
theorem Qk:∀ns:List Nat,prd ns.reverse=prd ns
 | []=>rfl
 | n :: ns=>by rw[c9,UQ,Qk ns,prd,cu]
theorem wb {cc cw:List T->R T}{s:T}(ks:List Kd)(hs:JO s= .ok (ks.map Kd.t))(hl:ks.length<=3)(H:∀k∈ks,AtOk cc cw k){n:Nat}{xs:List T}(hx:(ZC [[]] (ks.map Kd.all))[n]? =some xs):
  zy (GJ cc cw (en0 6 [s,.int (n:Int)]))= .ok (.tup xs):=by
 have hn:=(ai.mp hx).1;rw[wK,b8]at hn;have hr:(ks.reverse.map λk=>k.all.length)=(ks.map λk=>k.all.length).reverse:=by rw[iE]
 obtain⟨ys,r,x',y',e1,e2⟩:=Qj _ [] n .un .un (λk hk=>H k (List.mem_reverse.mp hk)) (by rw[hr,Qk];exact hn) (by rw[bO,bh];omega)
 rw[fO,hx]at e1;cases e1;have e0:yR 2 (zj) [.vl s,.vl (.int (n)),.un,.un,.un,.un]= .nx [.vl s,.vl _,.ow [],.un,.un,.un]:=rfl;have e3:zK 3 (vE 1) [.vl s,.vl (.int (n)),.ow [],.un,.un,.un]= .nx [.vl s,.vl _,.ow [],.vl _,.un,.un]:=rfl;have e4:j0 (z2k (vE 0)) (zI 4) (paB cc cw) [.vl s,.vl (.int (n)),.ow [],.vl (.int (n)),.un,.un]= .nx [.vl s,.vl (.int (n)),.ow xs.reverse,r,x',y']:=by
  show (((JO s).bind λxs=>R.ok _).s λts=>ZA _ _ ts _)=_;rw[hs,bOk,← iE];exact e2
 have hlen:xs.reverse.length<=bnd:=by
  have:∀(ls made:List _) (m:Nat),(∀a∈made,a.length<=m)->∀a∈ZC made ls,a.length<=m+ls.length:=by
   intro ls
   induction ls with
   | nil=>intro made m h a ha;exact h a ha
   | cons l ls ih=>
    intro made m h a ha;have:=ih (made.flatMap λa=>l.map λx=>a++[x]) (m+1) (λb hb=>by
     obtain⟨c,hc,hb⟩:=cO.mp hb;obtain⟨z,_,rfl⟩:=aI.mp hb;have:=h c hc;rw[az,aK];omega) a ha
    rw[am];omega
  have h1:=this _ _ 0 (λa ha=>by rw[aM.mp ha];exact aj _) xs (b_ hx)
  rw[ac]at h1;rw[bO];have hb:bnd=16777216:=rfl;omega
 show zy (GJ cc cw [.vl s,.vl _,.un,.un,.un,.un])=_;rw[GJ,zb e0,zb e3,zb e4,zw]
 ·rfl
 ·show V7 (.lst _)=_;unfold V7;dsimp only;rw[if_pos hlen,fO]
abbrev mtT:En->R Bool:=zE leC (za 2 (f_q 20) (z9 (vE 0) (z9 (zd zD (vE 2) (cE (.int 1))) (zj)))) (vB 1)
abbrev mtB:En->RS:=zK 2 (zd zD (vE 2) (cE (.int 1)))
theorem w1n:vB 1 (a :: .vl t :: ρ)= .ok t:=rfl
theorem Ql {d:Nat}(hd:d<=2){k:Kd}(h:k.Ok d){lo hi n:Nat}(h1:lo<=hi)(h3:hi<=3)(hn:n < shr k.all.length lo (hi+1 - lo)):∀(f q:Nat),q<=hi - lo->hi - lo - q < f->shr k.all.length lo q<=n->
  ∃q',q' <=hi - lo/\shr k.all.length lo q' <=n/\n < shr k.all.length lo (q' +1)/\ZI mtT mtB f [.vl (mt k.t lo hi),.vl (.int (n:Int)),.vl (.int ((lo+q:Nat):Int))]= .nx [.vl (mt k.t lo hi),.vl (.int (n:Int)),.vl (.int ((lo+q' :Nat):Int))]
 | 0,q,_,hf,_=>by omega
 | f+1,q,hq,hf,hs=>by
  have et:mtT [.vl (mt k.t lo hi),.vl (.int (n)),.vl (.int ((lo+q:Nat)))]= .ok (decide (shr k.all.length lo (q+1)<=n)):=by
   rw[mtT,zJ,zN,v0,bOk,yI v2,bOk,show ((lo+q:Nat):Int)+1=((lo+(q+1):Nat)) by omega,UT hd h (by omega),bOk,w1n,bOk,WU,wI]
  have eu:ZI mtT mtB (f+1) [.vl (mt k.t lo hi),.vl (.int (n)),.vl (.int ((lo+q:Nat)))]=(mtT _).s λk' =>if k' =true then match mtB [.vl _,.vl _,.vl (.int _)] with
    | .nx ρ2=>ZI mtT mtB f ρ2
    | .ct ρ2=>ZI mtT mtB f ρ2
    | .bk ρ2=> .nx ρ2
    | r=>r
   else .nx _:=rfl
  rw[eu,et,ZQ]
  by_cases hc:shr k.all.length lo (q+1)<=n
  ·rw[if_pos (decide_eq_true hc)];have hq2:q+1<=hi - lo:=by
    rcases Nat.lt_or_ge q _ with z | z
    ·exact z
    ·have:q=hi - lo:=by omega
     rw[this,show hi - lo+1=hi+1 - lo by omega]at hc
     omega
   have eb:mtB [.vl (mt k.t lo hi),.vl (.int (n)),.vl (.int ((lo+q:Nat)))]= .nx [.vl (mt k.t lo hi),.vl (.int (n)),.vl (.int ((lo+(q+1):Nat)))]:=by
    rw[mtB,zM]
    ·rfl
    ·rw[yI v2,show ((lo+q:Nat):Int)+1=((lo+(q+1):Nat)) by omega]
   exact Ql hd h h1 h3 hn f _ hq2 (by omega) hc
  ·rw[if_neg (by simpa using hc)]
   exact⟨q,hq,hs,by omega,rfl⟩
theorem z05 {i j:Nat}(h:j<=i):jv (.int (i:Int)) (.int (j:Int))= .ok (.int ((i - j:Nat):Int)):=by
 rw[Zi];congr 2;omega
theorem yK {d:Nat}(hd:d<=2){k:Kd}(h:k.Ok d){cp:List T->R T}{lo hi n:Nat}(h1:lo<=hi)(h3:hi<=3)(hn:n < shr k.all.length lo (hi+1 - lo))
  (H:∀(m:Nat),m<=3->∀(j:Nat) (xs:List T),(ZC [[]] (ah m k.all))[j]? =some xs->cp [.lst (ah m k.t),.int (j:Int)]= .ok (.tup xs)):
  ∃x,(Kd.many k lo hi).all[n]? =some x/\zy (GI (f_q 20) cp (en0 3 [mt k.t lo hi,.int (n:Int)]))= .ok x:=by
 obtain⟨q,hq,hs,hs',e⟩:=Ql hd h h1 h3 hn 8 0 (by omega) (by omega) (by unfold shr;simp)
 rw[Vz]at hs';have hj:n - shr k.all.length lo q < (ZC [[]] (ah (lo+q) k.all)).length:=by
  rw[wK,b6,je];omega
 obtain⟨xs,hx⟩:=ub hj;have ha:=kA (hi:=hi) (by omega) hx
 rw[show shr _ lo q+(n - shr _ lo q)=n by omega]at ha
 refine⟨_,ha, ?_⟩;have e0:zK 2 (zd ixT (vE 0) (cE (.int 2))) [.vl (mt k.t lo hi),.vl (.int (n:Int)),.un]= .nx [.vl _,.vl _,.vl (.int ((lo+0:Nat)))]:=rfl;show zy (GI _ cp [.vl _,.vl _,.un])=_;rw[GI,zb e0,zb e,zw]
 ·rfl
 ·show za 2 cp _ [.vl _,.vl _,.vl _]=_;have em:zd Za (j7 (z9 (zd ixT (vE 0) (cE (.int 1))) (zj))) (vE 2) [.vl (mt k.t lo hi),.vl (.int (n)),.vl (.int ((lo+q:Nat)))]= .ok (.lst (ah (lo+q) k.t)):=by
   rw[zt,z1g Jv,bOk,v2,bOk,UI (by omega),jP]
  rw[zN,em,bOk,zt,v1,bOk,zN,v0,bOk,v2,bOk,UT hd h (by omega),bOk,z05 hs,bOk,H _ (by omega) _ xs hx]
theorem Qm {d:Nat}(hd:d<=2){k:Kd}(h:k.Ok d):k.all.length < 1000000:=by
 have h1:=jt d k h;have h2:mx d<=70644:=by
  have:d=0\/d=1\/d=2:=by omega
  rcases this with rfl | rfl | rfl <;> decide
 omega
theorem jD:∀(d n:Nat),3*d<=n->d<=3->∀k:Kd,k.Ok d->∀(i:Nat) (x:T),k.all[i]? =some x->S_d n 0 [k.t,.int (i:Int)]= .ok x
 | 0,_,_,_,_,h=>h.elim
 | d+1,n+3,hn,hd,k,h=>by
  intro i x hx;have ih:=jD d n (by omega) (by omega)
  have ih1:=jD d (n+1) (by omega) (by omega)
  have e:S_d (n+3) 0 [k.t,.int (i:Int)]=zy (b_d GH _ _ (en2 k.t (.int (i:Int)))):=rfl;have hi' :=(ai.mp hx).1;rw[e,b_d];cases k with
  | whole lo hi=>
   rw[Kd.all,ar]at hx;rw[jg]at hi';rw[cS hi']at hx;cases hx;rw[zH]
   ·rfl
   ·rfl
  | pick cs=>
   have hw:=Vx cs h.2.1;simp only[Kd.t]at hw ⊢;rw[zb (K6 (by decide)),zH]
   ·rfl
   ·rw[cs0t,zw];show zd ixT _ _ (en2 _ _)=_;rw[zt,zV,v0,bOk,hw,v1];exact z03 hx
  | row ks=>
   obtain⟨h1,h2,h3⟩:=h;rw[Kd.all,Kd.alls_map,ar]at hx;cases hr:(ZC _ _)[i]? with
   | none=>rw[hr]at hx;cases hx
   | some xs=>
    rw[hr]at hx;cases hx;simp only[Kd.t];rw[Kd.ts_map,zb (K6 (by decide)),zb (K6 (by decide)),zH]
    ·rfl
    ·rw[cs0t,zw];refine wb ks rfl h2 (λk hk=>⟨jm (by omega) (h3 k hk),ih1 k (h3 k hk),ZM d k (h3 k hk),Qm (by omega) (h3 k hk)⟩) hr
  | many k lo hi=>
   obtain⟨h1,h2,h3⟩:=h;rw[jn]at hi';obtain⟨x',hx',hv⟩:=yK (cp:=S_d (n+1) 2) (by omega) h3 h1 h2 hi' (λm hm j xs hr=>by
    refine wb _ (by rw[b6];rfl) (by rw[aP];exact hm) (λk' hk' => ?_) (by rw[b6];exact hr)
    rw[bK hk'];exact⟨jm (by omega) h3,ih k h3,ZM d k h3,Qm (by omega) h3⟩)
   rw[hx]at hx';cases hx';simp only[Kd.t];rw[zb (K6 (by decide)),zb (K6 (by decide)),zb (K6 (by decide)),zw]
   ·rfl
   ·show za 2 _ _ (en2 _ _)=_;rw[zN,v0,bOk,v1,bOk];exact hv
theorem z06 {k:Kd}(h:k.Ok 3){i:Nat}{x:T}(hx:k.all[i]? =some x):f_d 20 [k.t,.int (i:Int)]= .ok x:=jD 3 20 (by omega) (by omega) k h i x hx
theorem uc:∀(bs:List Bool) (i:Nat),bs[i]? =some true->(∀j,j < i->bs[j]? =some false)->bs.idxOf true=i
 | [],i,h,_=>by simp at h
 | b :: bs,0,h,_=>by
  have:b=true:=by simpa using h
  subst this;rfl
 | b :: bs,i+1,h,hj=>by
  have h0:b=false:=by simpa using hj 0 (by omega)
  subst h0;have:=uc bs i (by simpa using h) λj h' =>by simpa using hj (j+1) (by omega)
  rw[List.idxOf_cons,this];rfl
noncomputable def Pl:Nat->T->Prop
 | 0,_=>False
 | n+1,.tup xs=>∀x∈xs,Pl n x
 | n+1,.lst xs=>∀x∈xs,Pl n x
 | _+1,.fz _=>False
 | _+1,_=>True
theorem Jw {f:T->T->Option Bool}:∀(xs ys:List T),(∀x∈xs,∀y,∃b,f x y=some b)->∃b,eqL f xs ys=some b
 | [],[],_=>⟨_,rfl⟩
 | [],_ :: _,_=>⟨_,rfl⟩
 | _ :: _,[],_=>⟨_,rfl⟩
 | x :: xs,y :: ys,h=>by
  obtain⟨b,hb⟩:=h x ab y;obtain⟨c,hc⟩:=Jw xs ys λz hz=>h z (a8 _ hz);exact⟨b && c,by unfold eqL;rw[hb,hc]⟩
theorem Zn {f:T->T->Option Bool}:∀(xs:List T),(∀x∈xs,f x x=some true)->eqL f xs xs=some true
 | [],_=>rfl
 | x :: xs,h=>by
  unfold eqL;rw[h x ab,Zn xs λz hz=>h z (a8 _ hz)];rfl
theorem Jx:∀(n:Nat) (y x:T),Pl n y->∃b,eqF n y x=some b
 | 0,_,_,h=>h.elim
 | n+1,y,x,h=>by
  cases y with
  | tup xs=>
   cases x with
   | tup ys=>exact Jw xs ys λz hz u=>Jx n z u (h z hz)
   | _=>exact⟨false,by rw[eqF] <;> intros <;> first | rfl | contradiction | (intro z)⟩
  | lst xs=>
   cases x with
   | lst ys=>exact Jw xs ys λz hz u=>Jx n z u (h z hz)
   | fz ys=>exact Jw xs ys λz hz u=>Jx n z u (h z hz)
   | _=>exact⟨false,by rw[eqF] <;> intros <;> first | rfl | contradiction | (intro z)⟩
  | fz xs=>exact h.elim
  | non=>cases x <;> exact⟨_,rfl⟩
  | bl b=>cases x <;> exact⟨_,rfl⟩
  | int i=>cases x <;> exact⟨_,rfl⟩
  | str i=>cases x <;> exact⟨_,rfl⟩
theorem Zb:∀(n:Nat) (y:T),Pl n y->eqF n y y=some true
 | 0,_,h=>h.elim
 | n+1,y,h=>by
  cases y with
  | tup xs=>exact Zn xs λz hz=>Zb n z ((h) z hz)
  | lst xs=>exact Zn xs λz hz=>Zb n z ((h) z hz)
  | fz xs=>exact h.elim
  | non=>rfl
  | bl b=>show some _=_;simp
  | int i=>show some _=_;simp
  | str i=>show some _=_;simp
theorem Pl.up:∀(n:Nat) (y:T),Pl n y->Pl (n+1) y
 | 0,_,h=>h.elim
 | n+1,y,h=>by
  cases y with
  | tup xs=>exact λz hz=>Pl.up n z ((h) z hz)
  | lst xs=>exact λz hz=>Pl.up n z ((h) z hz)
  | fz xs=>exact h.elim
  | _=>exact trivial
theorem Pl.le (hm:n<=m)(h:Pl n y):Pl m y:=by
 obtain⟨j,rfl⟩:∃j,m=n+j:=⟨m - n,by omega⟩
 clear hm
 induction j with
 | zero=>exact h
 | succ j ih=>exact Pl.up _ _ ih
theorem uV (h:Pl 30 t):neC t t= .ok false:=by unfold neC;rw[Zb 30 t h];rfl
theorem ud {f:T->Option Bool}:∀(ts:List T),(∀t∈ts,∃b,f t=some b)->∃b,Wk f ts=some b/\(b=false->∀t∈ts,f t=some false)
 | [],_=>⟨false,rfl,λ_ _ h=>nomatch h⟩
 | t :: ts,h=>by
  obtain⟨b,hb⟩:=h t ab;obtain⟨c,hc,h'⟩:=ud ts λu hu=>h u (a8 _ hu);refine⟨b || c,by unfold Wk;rw[hb,hc],λe u hu=> ?_⟩
  rw[fP]at e;rcases ak.mp hu with rfl | hu
  ·rw[hb,e.1]
  ·exact h' e.2 u hu
theorem wc (h:f ρ= .ok t):JK f ρ= .nx ρ:=by unfold JK;rw[h,ZQ]
theorem all_map (k:Kd):((rng 0 k.all.length).map λt=>match t with | .int i=>(k.all[i.toNat]?).getD .non | y=>y)=k.all:=by
 unfold rng;rw[b8];refine cI λi=> ?_;rw[ar]
 by_cases hi:i < k.all.length
 ·rw[cS hi];show some ((k.all[((0:Int)+(i)).toNat]?).getD _)=_;rw[show ((0:Int)+(i)).toNat=i by omega]
  obtain⟨x,hx⟩:=ub hi;rw[hx];rfl
 ·rw[aU (by simpa using hi),aU (by omega)];rfl
theorem uW (hf:f ρ= .ok (.int j))(h: -1000000 < j/\j < 1000000):Zv f ρ= .ok (rng 0 j.toNat):=by
 unfold Zv;rw[hf];exact if_pos h
theorem kC:gtC (.int i) (.int j)= .ok (decide (j < i)):=rfl
theorem z30 (h:g ρ= .ok true):ifE g f f' ρ=f ρ:=by unfold ifE;rw[h];rfl
theorem Qn:neC (.int i) (.int i)= .ok false:=by show R.ok (!(i == i))=_;simp
inductive W:Nat->T->Prop where
 | int (d:Nat) (i:Int):W d (.int i)
 | str (d:Nat) (s:Str):W d (.str s)
 | tup {d:Nat} {xs:List T} (h:xs.length<=3) (r:∀x∈xs,W d x):W (d+1) (.tup xs)
theorem z31:∀(d:Nat) (k:Kd) (x:T),k.Ok (d+1)->k.has x=true->W d x
 | d,.whole lo hi,x,_,h=>by
  cases x <;> first | exact .int _ _ | (simp[Kd.has,inR]at h)
 | d,.pick cs,x,_,h=>by
  cases x <;> first | exact .str _ _ | (simp[Kd.has]at h)
 | 0,.row ks,x,hk,h=>by
  obtain⟨h1,h3,hk⟩:=hk
  match ks,h1,hk with
  | k :: _,_,hk=>exact(hk k ab).elim
 | 0,.many k lo hi,x,hk,h=>hk.2.2.elim
 | d+1,.row ks,x,hk,h=>by
  obtain⟨h1,h3,hk⟩:=hk;cases x with
  | tup xs=>
   rw[Kd.has]at h;simp only[ag,beq_iff_eq]at h;obtain⟨hl,hh⟩:=h;refine .tup (by omega) λx hx=> ?_
   obtain⟨k,hm,hx'⟩:=UO ks xs hl hh x hx;exact z31 d k x (hk k hm) hx'
  | _=>simp[Kd.has]at h
 | d+1,.many k lo hi,x,hk,h=>by
  obtain⟨h1,h3,hk⟩:=hk;cases x with
  | tup xs=>
   rw[Kd.has]at h;simp only[ag,decide_eq_true_eq,aR]at h;obtain⟨⟨hl,hl'⟩,hh⟩:=h;refine .tup (by omega) λx hx=> ?_
   exact z31 d k x hk (hh x hx)
  | _=>simp[Kd.has]at h
mutual
noncomputable def lv:T->List T
 | .tup xs=>lvs xs
 | .non=>[.non]
 | .bl b=>[.bl b]
 | .int b=>[.int b]
 | .str b=>[.str b]
 | .lst b=>[.lst b]
 | .fz b=>[.fz b]
noncomputable def lvs:List T->List T
 | []=>[]
 | x :: xs=>lv x++lvs xs
end
theorem z07 (xs:List T):lv (.tup xs)=lvs xs:=by rw[lv]
theorem Wd (x:T)(xs:List T):lvs (x :: xs)=lv x++lvs xs:=by rw[lvs]
theorem Qo:lvs []=[]:=by rw[lvs]
theorem Qp:∀xs:List T,(∀x∈xs,(lv x).length<=n)->(lvs xs).length<=xs.length*n
 | [],_=>by exact aQ _
 | x :: xs,h=>by
  rw[Wd,az,am,ff];have h1:=h x ab;have h2:=Qp xs λy hy=>h y (a8 _ hy);omega
theorem pow3 (d:Nat):1<=3 ^ d:=Nat.one_le_pow _ _ (by omega)
theorem Qq (h:W d x):(lv x).length<=3 ^ d:=by
 induction h with
 | int d i=>exact pow3 d
 | str d i=>exact pow3 d
 | @tup d xs h r ih=>
  rw[z07];have:=Qp xs ih;have h3:=dE (3 ^ d) h;omega
inductive Lf:T->Prop where
 | int (i:Int):Lf (.int i)
 | str (i:Str):Lf (.str i)
theorem xr:∀(xs:List T),(∀x∈xs,∀y∈lv x,Lf y)->∀y∈lvs xs,Lf y
 | [],_,y,hy=>by cases hy
 | x :: xs,h,y,hy=>by
  rcases cW.mp hy with hy | hy
  ·exact h x ab y hy
  ·exact xr xs (λz hz=>h z (a8 _ hz)) y hy
theorem z32 (h:W d x):∀y∈lv x,Lf y:=by
 induction h with
 | int d i=>intro y hy;rw[aM.mp hy];exact .int _
 | str d i=>intro y hy;rw[aM.mp hy];exact .str _
 | @tup d xs h r ih=>intro y hy;exact xr xs ih y hy
theorem z08 (hi:ρ[i]? =some (.ow ts))(h:f ρ= .ok (.lst us))(hl:ts.length+us.length<=bnd):vd i f ρ= .nx (ρ.set i (.ow (ts++us))):=by
 unfold vd;rw[hi];dsimp only;rw[h,ZQ];dsimp only;rw[if_pos hl]
abbrev loB (c:List T->R T):En->RS:=vd 1 (za 1 c (z9 (vE 2) (zj)))
theorem Qr (hn:n<=1000):∀(xs:List T) (acc:List T) (x:Sl),(∀x∈xs,c [x]= .ok (.lst (lv x))/\(lv x).length<=n)->acc.length+xs.length*n<=1000000->
  ∃x',ZA (zI 2) (loB c) xs [a,.ow acc,x]= .nx [a,.ow (acc++lvs xs),x']
 | [],acc,x,_,_=>⟨x,by rw[Qo,aW];rfl⟩
 | y :: xs,acc,x,H,hb=>by
  obtain⟨e,hl⟩:=H y ab;rw[am,ff]at hb;have hB:bnd=16777216:=rfl;obtain⟨x',h⟩:=Qr hn xs (acc++lv y) _ (λz hz=>H z (a8 _ hz)) (by rw[az];omega)
  refine⟨x', ?_⟩;have s2:zI 2 y [a,.ow acc,x]= .ok _:=rfl;have b2:loB c [a,.ow acc,.vl y]= .nx [a,.ow (acc++lv y),.vl y]:=by
   have z:za 1 c (z9 (vE 2) (zj)) [a,.ow acc,.vl y]= .ok (.lst (lv y)):=by rw[zV,v2,bOk,e]
   exact z08 rfl z (by omega)
  rw[jh s2 b2,h,Wd,ba]
theorem xt:uD (jG (ap1 (Wl "tuple") (vB 0))) (.vl x :: r)= .ok (!(match x with | .tup _=>true | _=>false)):=by
 all_goals (cases x <;> rfl)
theorem wd:∀(n d:Nat),d < n->d<=3->∀x:T,W d x->S_h n 0 [x]= .ok (.lst (lv x))
 | 0,d,h,_,_,_=>absurd h (fx _)
 | n+1,d,h,h3,x,hx=>by
  show zy (b_h _ [.vl x,.un,.un])=_;rw[b_h];cases hx with
  | int d i=>
   rfl
  | str d i=>
   rfl
  | @tup d xs hl r=>
   have hp:3 ^ d<=27:=bB (by omega) (show d<=3 by omega)
   obtain⟨x',el⟩:=Qr (by omega) xs [] .un (λy hy=>⟨wd n d (by omega) (by omega) y (r y hy),Qq (r y hy)⟩) (by have:=bb hl hp;simp;omega)
   have e1:yR 1 zj [.vl (.tup xs),.un,.un]= .nx [.vl _,.ow [],.un]:=rfl;have e2:j0 (Zx (vE 0)) (zI 2) (loB (S_h n 0)) [.vl (.tup xs),.ow [],.un]= .nx [.vl (.tup xs),.ow ([]++lvs xs),x']:=by
    exact el
   rw[zb (zx xt),zb e1,zb e2,bX];rfl
abbrev llB (c:List T->R T):En->RS:=zK 1 (zd zD (vE 1) (za 1 c (z9 (vE 2) (zj))))
theorem z09 (h:xs.length+ys.length<=1000000):zD (.lst xs) (.lst ys)= .ok (.lst (xs++ys)):=by
 unfold zD;dsimp only;rw[if_pos (by have hB:bnd=16777216:=rfl;omega)]
theorem Qs (hn:n<=1000):∀(xs:List T) (acc:List T) (x:Sl),(∀x∈xs,c [x]= .ok (.lst (lv x))/\(lv x).length<=n)->acc.length+xs.length*n<=1000000->
  ∃x',ZA (zI 2) (llB c) xs [a,.vl (.lst acc),x]= .nx [a,.vl (.lst (acc++lvs xs)),x']
 | [],acc,x,_,_=>⟨x,by rw[Qo,aW];rfl⟩
 | y :: xs,acc,x,H,hb=>by
  obtain⟨e,hl⟩:=H y ab;rw[am,ff]at hb;obtain⟨x',h⟩:=Qs hn xs (acc++lv y) _ (λz hz=>H z (a8 _ hz)) (by rw[az];omega)
  refine⟨x', ?_⟩;have s2:zI 2 y [a,.vl (.lst acc),x]= .ok _:=rfl;have b2:llB c [a,.vl (.lst acc),.vl y]= .nx [a,.vl (.lst (acc++lv y)),.vl y]:=by
   have z:zd zD (vE 1) (za 1 c (z9 (vE 2) (zj))) [a,.vl (.lst acc),.vl y]= .ok (.lst (acc++lv y)):=by rw[zt,v1,bOk,zV,v2,bOk,e,bOk,z09 (by omega)]
   exact zM z
  rw[jh s2 b2,h,Wd,ba]
theorem UU:∀(n d:Nat),d < n->d<=3->∀x:T,W d x->S_k n 0 [x]= .ok (.lst (lv x))
 | 0,d,h,_,_,_=>absurd h (fx _)
 | n+1,d,h,h3,x,hx=>by
  show zy (b_k _ [.vl x,.un,.un])=_;rw[b_k];cases hx with
  | int d i=>
   rfl
  | str d i=>
   rfl
  | @tup d xs hl r=>
   have hp:3 ^ d<=27:=bB (by omega) (show d<=3 by omega)
   obtain⟨x',el⟩:=Qs (by omega) xs [] .un (λy hy=>⟨UU n d (by omega) (by omega) y (r y hy),Qq (r y hy)⟩) (by have:=bb hl hp;simp;omega)
   have e1:zK 1 (j7 zj) [.vl (.tup xs),.un,.un]= .nx [.vl _,.vl _,.un]:=rfl;have e2:j0 (Zx (vE 0)) (zI 2) (llB (S_k n 0)) [.vl (.tup xs),.vl (.lst []),.un]= .nx [.vl (.tup xs),.vl (.lst ([]++lvs xs)),x']:=by
    exact el
   rw[zb (zx xt),zb e1,zb e2,bX];rfl
theorem Ze {p:T->Bool}{js:List Nat}(ts:List T)(hl:ts.length<=bnd)(H:∀t∈ts,ft ((wy k js ρ).set 0 (.vl t))= .ok (p t)/\fe ((wy k js ρ).set 0 (.vl t))= .ok t):zC (zI 0) ft fe k js ρ ts= .ok (ts.filter p):=by
 unfold zC;rw[if_pos hl,jc (h:=id) ts _ λt ht=>⟨(H t ht).1,λ_=>(H t ht).2⟩,List.map_id];rfl
noncomputable def ZN:List T->List Int
 | []=>[]
 | .int i :: r=>i :: ZN r
 | .non :: r=>ZN r
 | .bl _ :: r=>ZN r
 | .str _ :: r=>ZN r
 | .tup _ :: r=>ZN r
 | .lst _ :: r=>ZN r
 | .fz _ :: r=>ZN r
theorem we:∀ts:List T,ts.filter isW=(ZN ts).map T.int
 | []=>rfl
 | t :: ts=>by
  have ih:=we ts;rw[dy,ih];cases t <;> rfl
theorem We:∀is:List Int,Z2 (is.map T.int)=some is
 | []=>rfl
 | i :: is=>by
  have e:Z2 ((i :: is).map T.int)=match Z2 _ with | some l=>some _ | none=>none:=rfl
  rw[e,We is]
theorem Wf:∀ts:List T,(ZN ts).length<=ts.length
 | []=>aj _
 | t :: ts=>by
  have ih:=Wf ts;cases t <;> simp only[ZN,am] <;> omega
theorem w9 (hd:d<=2)(h:W d x):(lv x).length<=9:=aA (Qq h) (bB (by omega) hd)
theorem yL (hd:d<=2)(h:W d x):z0Z [x]= .ok (.lst ((ZN (lv x)).map T.int)):=by
 show zy _=_;have hl:=w9 hd h;have ec:zC _ (jG (za 1 f_i (z9 (vE 0) _))) (vE 0) 1 [] [.vl x] (lv x)= .ok _:=
  Ze _ (by have hB:bnd=16777216:=rfl;omega) λt _=>⟨by
   show jG _ [.vl t]=_;rw[Jh,zV,v0,bOk,UA,bOk,qU],rfl⟩
 rw[z2N,zw]
 ·rfl
 ·show zU _ _ _ _ _ _ [.vl x]=_;have hv:f_h 8 [x]= .ok _:=wd 8 d (by omega) (by omega) x h
  rw[zY,ZT,zV,v0,bOk,hv];show ((zC _ _ _ _ _ _ _).bind _)=_;rw[ec,bOk,we]
noncomputable def asc (is:List Int):Bool:=(is.zip (is.drop 1)).all λq=>decide (q.1<=q.2)
theorem Qt:∀(qs:List (Int×Int)) (x y:Sl),zP (Zq 0 1) Zg (ZR leC (vB 0) (vB 1)) (qs.map λq=>T.tup [.int q.1,.int q.2]) [x,y]= .ok (qs.map λq=>T.bl (decide (q.1<=q.2)))
 | [],_,_=>rfl
 | q :: qs,x,y=>by
  have ih:=Qt qs (.vl (.int q.1)) (.vl (.int q.2));have e0:zP (Zq 0 1) Zg (ZR leC (vB 0) (vB 1)) ((q :: qs).map λq=>T.tup [.int q.1,.int q.2]) [x,y]=
   (R.ok (T.bl _)).bind λv=>(zP _ _ _ (qs.map λq=>T.tup [.int q.1,.int q.2]) [.vl _,.vl _]).bind λvs=> .ok _:=rfl
  rw[e0,bOk,ih,bOk,aF]
theorem kD (xs:List T):cut xs (some ((1:Nat):Int)) none=xs.drop 1:=by
 unfold cut;rw[HT.sIx_nat,HT.sIx_none]
 by_cases h:1<=xs.length
 ·rw[iP h,fk (by rw[eO];omega)]
 ·have:xs=[]:=eQ.mp (by omega)
  subst this;rfl
theorem Qu (is:List Int)(hl:is.length<=100):z2P [.lst (is.map T.int)]= .ok (.bl (asc is)):=by
 show zy _=_;have hz:kX (vE 0) (slE (vE 0) (Jk (cE (.int 1))) (noO)) [.vl (.lst (is.map T.int))]= .ok ((is.zip (is.drop 1)).map λq=>T.tup [.int q.1,.int q.2]):=by
  show R.ok (ve _ (cut _ (some ((1:Nat))) _))=_;rw[kD,← List.map_drop];unfold ve;rw[List.zip_map,b8];rfl
 have ec:zC (Zq 0 1) Zg (ZR leC (vB 0) (vB 1)) 2 [] [.vl (.lst (is.map T.int))] ((is.zip (is.drop 1)).map λq=>T.tup [.int q.1,.int q.2])= .ok ((is.zip (is.drop 1)).map λq=>T.bl (decide (q.1<=q.2))):=by
  unfold zC;rw[if_pos (by rw[ac,fy];have hB:bnd=16777216:=rfl;omega)]
  show quiet (zP _ _ _ _ [.un,.un])=_;rw[Qt];rfl
 rw[z2O,zw]
 ·rfl
 ·show ap1 _ _ [.vl _]=_;rw[ZS,zY,hz,bOk,ec,bOk];show (match ur _ with | some k=>R.ok _ | none=> .bad)=_
  rw[UN (λq=>decide _)];rfl
theorem Zs (x y:Int)(r:List Int):asc (x :: y :: r)=(decide (x<=y) && asc (y :: r)):=by
 unfold asc;rw[fW,dg,d3,cV,fW,dg]
theorem Qv (x:Int):∀l:List Int,asc l=true->asc (Uo x l)=true/\∀y,(∀z∈l,y<=z)->y<=x->∀z∈Uo x l,y<=z
 | [],_=>⟨rfl,λy _ h z hz=>by rw[aM.mp hz];exact h⟩
 | [a],_=>by
  rw[Uo];split
  ·rename_i h;exact⟨by rw[Zs,decide_eq_true h];rfl,λy h1 h2 z hz=>by
    rcases ak.mp hz with rfl | hz
    ·exact h2
    ·exact h1 z hz⟩
  ·rw[Uo];exact⟨by rw[Zs,decide_eq_true (by omega)];rfl,λy h1 h2 z hz=>by
    rcases ak.mp hz with rfl | hz
    ·exact h1 _ ab
    ·rw[aM.mp hz];exact h2⟩
 | a :: b :: r,h=>by
  rw[Zs,ag,decide_eq_true_eq]at h;obtain⟨ih1,ih2⟩:=Qv x _ h.2;rw[Uo];split
  ·rename_i hx;exact⟨by rw[Zs,decide_eq_true hx,Zs,decide_eq_true h.1,h.2];rfl,λy h1 h2 z hz=>by
    rcases ak.mp hz with rfl | hz
    ·exact h2
    ·exact h1 z hz⟩
  ·refine⟨?_,λy h1 h2 z hz=>by
    rcases ak.mp hz with rfl | hz
    ·exact h1 _ ab
    ·exact ih2 y (λw hw=>h1 w (a8 _ hw)) h2 z hz⟩
   rw[Uo]at ih1 ⊢;split
   ·rename_i hb;rw[if_pos hb]at ih1;rw[Zs,decide_eq_true (by omega),ih1];rfl
   ·rename_i hb;rw[if_neg hb]at ih1;rw[Zs,decide_eq_true h.1,ih1];rfl
theorem Qw:∀l:List Int,asc (YY l)=true
 | []=>rfl
 | x :: l=>by rw[YY];exact(Qv x _ (Qw l)).1
theorem Qx:∀l:List Int,asc l=true->YY l=l
 | [],_=>rfl
 | [x],_=>rfl
 | x :: y :: r,h=>by
  rw[Zs,ag,decide_eq_true_eq]at h;rw[YY,Qx _ h.2,Uo,if_pos h.1]
theorem UV:∀xs ys:List Int,∃b,eqL (eqF n) (xs.map T.int) (ys.map T.int)=some b/\(b=true↔xs=ys)
 | [],[]=>⟨true,rfl,by simp⟩
 | [],y :: ys=>⟨false,rfl,by simp⟩
 | x :: xs,[]=>⟨false,rfl,by simp⟩
 | x :: xs,y :: ys=>by
  obtain⟨b,e,h⟩:=UV xs ys;have e0:eqL _ ((x :: xs).map T.int) ((y :: ys).map T.int)=match eqF n _ _ with
   | none=>none
   | some b=>match eqL _ _ _ with
    | none=>none
    | some c=>some _:=rfl
  have e1:eqF n (.int x) (.int y)=some (x == y):=by cases n <;> rfl
  refine⟨(x == y) && b,by rw[e0,e1,e], ?_⟩
  rw[ag,beq_iff_eq,h,List.cons.injEq]
theorem Qy (is:List Int):eqC (.lst (is.map T.int)) (.lst ((YY is).map T.int))= .ok (asc is):=by
 obtain⟨b,e,h⟩:=UV is _;have e0:eqF 30 (.lst _) (.lst _)=some b:=e;unfold eqC;rw[e0];show R.ok b=_;congr 1
 cases hb:b with
 | true=>
  have:=h.mp hb;rw[this];exact(Qw is).symm
 | false=>
  cases ha:asc is with
  | false=>rfl
  | true=>rw[hb]at h;exact absurd (h.mpr (Qx is ha).symm) aG
theorem qv (is:List Int)(hl:is.length<=60):V8 (.lst (is.map T.int))= .ok (.lst ((YY is).map T.int)):=by
 unfold V8;dsimp only;rw[We];dsimp only;rw[if_pos (by rw[ac];omega)]
theorem z0a (is:List Int):XH (.lst (is.map T.int))= .ok (.int is.sum):=by
 unfold XH;dsimp only;rw[We]
def inB (xs:List T)(x:T):Bool:=(Wk (λy=>eqF 30 y x) xs).getD false
theorem z0b (x:T)(h:∀y∈xs,Pl 30 y):Wk (λy=>eqF 30 y x) xs=some (inB xs x):=by
 obtain⟨b,e,_⟩:=ud xs λt ht=>Jx 30 t x (h t ht);unfold inB;rw[e];rfl
theorem W.pl (h:W d x):Pl (d+1) x:=by
 induction h with
 | int d i=>exact trivial
 | str d i=>exact trivial
 | @tup d xs h r ih=>exact ih
theorem W.pl30 (h:W d x)(hd:d<=2):Pl 30 x:=h.pl.le (by omega)
noncomputable def Zd:T->List T
 | .tup xs=>xs
 | .non=>[.non]
 | .bl b=>[.bl b]
 | .int b=>[.int b]
 | .str b=>[.str b]
 | .lst b=>[.lst b]
 | .fz b=>[.fz b]
theorem kE (h:W d x):z10 [x]= .ok (.tup (Zd x)):=by cases h <;> rfl
theorem ue (h:W d x):(Zd x).length<=3:=by
 cases h with
 | int=>exact(by decide:1<=3)
 | str=>exact(by decide:1<=3)
 | tup h _=>exact h
theorem UW (h:W d x)(hd:d<=2):∀y∈Zd x,Pl 30 y:=by
 cases h with
 | int=>intro y hy;rw[aM.mp hy];exact trivial
 | str=>intro y hy;rw[aM.mp hy];exact trivial
 | @tup d xs h r=>intro y hy;exact(r y hy).pl30 (by omega)
def un (ps:List T):Bool:= !(ps.zipIdx.any λp=>inB (ps.take p.2) p.1)
theorem uf {xs:List T}{k:Nat}:slT (.tup xs) none (some (k:Int))= .ok (.tup (xs.take k)):=by
 show R.ok _=_;have:cut xs none (some (k))=xs.take k:=by
  unfold cut;rw[HT.sIx_none,HT.sIx_nat];simp only[dg,Nat.sub_zero];rw[List.take_eq_take_iff];omega
 rw[this]
theorem Qz {ps:List T}(h:∀y∈ps,Pl 30 y)(k:Nat)(x:T):inC x (.tup (ps.take k))= .ok (inB (ps.take k) x):=by
 show (match Wk (λy=>eqF 30 y x) _ with | some b=>R.ok b | none=> .bad)=_
 rw[z0b x λy hy=>h y (List.mem_of_mem_take hy)]
abbrev ulE:En->R T:=ZR inC (vB 1) (slE (vE 2) (noO) (Jk (vE 0)))
theorem QA {ps:List T}(h:∀y∈ps,Pl 30 y):∀(qs:List (T×Nat)) (x y:Sl),zP (Zq 0 1) Zg ulE (qs.map λp=>T.tup [.int (p.2:Nat),p.1]) [x,y,.vl (.tup ps)]= .ok (qs.map λp=>T.bl (inB (ps.take p.2) p.1))
 | [],_,_=>rfl
 | q :: qs,x,y=>by
  have ih:=QA h qs (.vl (.int (q.2))) (.vl q.1);have e:ulE [.vl (.int (q.2)),.vl q.1,.vl (.tup ps)]= .ok (.bl (inB (ps.take q.2) q.1)):=by
   have e2:slE (vE 2) noO (Jk (vE 0)) [.vl (.int (q.2)),.vl q.1,.vl (.tup ps)]=slT (.tup ps) _ _:=rfl;unfold ulE;rw[Zl,w1,bOk,e2,uf,bOk,Qz h,bOk]
  have e0:zP (Zq 0 1) Zg ulE ((q :: qs).map λp=>T.tup [.int (p.2),p.1]) [x,y,.vl (.tup ps)]=
   (ulE [.vl _,.vl q.1,.vl _]).bind λv=>(zP _ _ ulE (qs.map λp=>T.tup _) [.vl _,.vl q.1,.vl _]).bind λvs=> .ok _:=rfl
  rw[e0,e,bOk,ih,bOk,aF]
theorem ug {α:Type}(p:α->Bool):∀qs:List α,wo (qs.map λq=>T.bl (p q))=some (qs.any p)
 | []=>rfl
 | q :: qs=>by
  have e:wo ((q :: qs).map λq=>T.bl (p q))=match wo (qs.map λq=>T.bl _) with | some j=>some _ | none=>none:=rfl
  rw[e,ug p qs];rfl
theorem QB (h:∀y∈ps,Pl 30 y)(hl:ps.length<=100):z2R [.tup ps]= .ok (.bl (un ps)):=by
 show zy _=_;have ec:zC (Zq 0 1) Zg ulE 2 [0] [.vl (.tup ps)] (jM ps)= .ok (ps.zipIdx.map λp=>T.bl (inB (ps.take p.2) p.1)):=by
  unfold zC;rw[if_pos (by unfold jM;rw[ac,hJ];have hB:bnd=16777216:=rfl;omega)]
  show quiet (zP _ _ _ _ [.un,.un,.vl _])=_;unfold jM;rw[QA h];rfl
 rw[z2Q,zw]
 ·rfl
 ·have e1:zU (Uq (vE 0)) (Zq 0 1) Zg ulE 2 [0] [.vl (.tup ps)]= .ok (.lst (ps.zipIdx.map λp=>T.bl (inB (ps.take p.2) p.1))):=by
   show ((R.ok _).bind _)=_;rw[bOk,ec,bOk]
  have e2:ap1 z2m (zU (Uq (vE 0)) (Zq 0 1) Zg ulE 2 [0]) [.vl (.tup ps)]= .ok (.bl (ps.zipIdx.any λp=>inB (ps.take p.2) p.1)):=by
   rw[ZS,e1];show (match wo _ with | some k=>R.ok _ | none=> .bad)=_
   rw[ug (λp:T×Nat=>inB _ p.1)]
  show vc _ [.vl _]=_;unfold vc;rw[e2];rfl
theorem VA {ps:List T}(h:∀y∈ps,Pl 30 y)(hl:ps.length<=100){a b c:Sl}{ρ:En}:∃r,zC (zI 0) (zE inC (zd ixT (vE 1) (vE 0)) (slE (vE 1) (noO) (Jk (vE 0)))) (vE 0) 1 [3] (a :: b :: c :: .vl (.tup ps) :: ρ) (rng 0 ps.length)= .ok r/\r.isEmpty=un ps:=by
 let p:T->Bool:=λt=>match t with
  | .int i=>match ps[i.toNat]? with | some w=>inB (ps.take i.toNat) w | none=>false
  | _=>false
 refine⟨(rng 0 _).filter p,Ze _ (by unfold rng;rw[ac,bA];have hB:bnd=16777216:=rfl;omega) λt ht=> ?_, ?_⟩
 ·obtain⟨k,hk,rfl⟩:=aI.mp ht;have hk' :=bf.mp hk;refine⟨?_,rfl⟩;show zE inC _ _ [.vl _,.vl _]=_;rw[show (0:Int)+(k)=(k) by omega]
  have e1:ixT (.tup ps) (.int k)= .ok ps[k]:=by
   show atT ps k=_;unfold atT;rw[ZZ (ae hk')]
  have e2:slE (vE 1) noO (Jk (vE 0)) [.vl (.int (k)),.vl (.tup ps)]=slT (.tup ps) _ _:=rfl;rw[zJ,zt,v1,bOk,v0,bOk,e1,bOk,e2,uf,bOk,Qz h];show _=R.ok (match ps[((k:Int)).toNat]? with | some w=>inB _ w | none=>false)
  rw[bm,ae hk']
 ·rw[fA,List.isEmpty_iff,fr];unfold un;rw[Bool.not_eq_true',hW];constructor
  ·intro H q hq;obtain⟨x,k⟩:=q;have hk:=List.mem_zipIdx' hq;have:=H _ (by exact aI.mpr ⟨k,bf.mpr hk.1,rfl⟩)
   intro hb;apply this
   show (match ps[((0:Int)+(k)).toNat]? with | some w=>inB _ w | none=>false)=true
   rw[show ((0:Int)+(k)).toNat=k by omega,ae hk.1,← hk.2]
   exact hb
  ·intro H t ht hb;obtain⟨k,hk,rfl⟩:=aI.mp ht;have hk' :=bf.mp hk;have hb:(match ps[((0:Int)+(k)).toNat]? with | some w=>inB _ w | none=>false)=true:=hb
   rw[show ((0:Int)+(k)).toNat=k by omega,ae hk']at hb
   exact H _ (List.mk_mem_zipIdx_iff_getElem?.mpr (ae hk')) hb
noncomputable def vj (w:Str):T->Bool
 | .str x=>x == w
 | _=>false
theorem z0c (w:Str)(n:Nat):∀t:T,eqF n t (.str w)=some (vj w t)
 | .str x=>by cases n <;> rfl
 | .non=>by cases n <;> rfl
 | .bl _=>by cases n <;> rfl
 | .int _=>by cases n <;> rfl
 | .tup _=>by cases n <;> rfl
 | .lst _=>by cases n <;> rfl
 | .fz _=>by cases n <;> rfl
theorem QC (w:Str):∀ts:List T,Wk (λy=>eqF 30 y (.str w)) ts=some (ts.any (vj w))
 | []=>rfl
 | t :: ts=>by
  have e:Wk (λy=>eqF 30 y (.str w)) (t :: ts)=match eqF 30 t _ with
   | none=>none
   | some b=>match Wk (λy=>eqF 30 y _) ts with
    | none=>none
    | some d=>some _:=rfl
  rw[e,z0c,QC w ts];rfl
theorem kF (w:Str)(ts:List T):(ts.filter (vj w)).isEmpty= !(ts.any (vj w)):=by
 induction ts with
 | nil=>rfl
 | cons t ts ih=>
  rw[dy,eD];cases vj w t with
  | true=>rfl
  | false=>rw[if_neg aG,ih,Bool.false_or]
inductive Ru where
 | sum (a b:Int) | size (a b:Int) | word (w:Str) | rising | unlike | no (r:Ru) | all (r s:Ru) | some (r s:Ru)
def Ru.t:Ru->T
 | .sum a b=> .tup [.str "sum",.int a,.int b]
 | .size a b=> .tup [.str "size",.int a,.int b]
 | .word w=> .tup [.str "word",.str w]
 | .rising=> .tup [.str "rising"]
 | .unlike=> .tup [.str "unlike"]
 | .no r=> .tup [.str "no",r.t]
 | .all r s=> .tup [.str "all",r.t,s.t]
 | .some r s=> .tup [.str "some",r.t,s.t]
inductive ZV:Nat->Ru->Prop where
 | sum {d:Nat} {a b:Int} (ha: -50<=a/\a<=50) (hb: -50<=b/\b<=50):ZV (d+1) (.sum a b)
 | size {d:Nat} {a b:Int} (ha: -50<=a/\a<=50) (hb: -50<=b/\b<=50):ZV (d+1) (.size a b)
 | word {d:Nat} {w:Str} (h:Zr (.str w)=true):ZV (d+1) (.word w)
 | rising {d:Nat}:ZV (d+1) .rising
 | unlike {d:Nat}:ZV (d+1) .unlike
 | no {d:Nat} {r:Ru} (h:ZV d r):ZV (d+1) (.no r)
 | all {d:Nat} {r s:Ru} (h:ZV d r) (h' :ZV d s):ZV (d+1) (.all r s)
 | some {d:Nat} {r s:Ru} (h:ZV d r) (h' :ZV d s):ZV (d+1) (.some r s)
theorem ZV.up (h:ZV d r):ZV (d+1) r:=by
 induction h with
 | sum ha hb=>exact .sum ha hb
 | size ha hb=>exact .size ha hb
 | word h=>exact .word h
 | rising=>exact .rising
 | unlike=>exact .unlike
 | no h ih=>exact .no ih
 | all h h' ih ih' =>exact .all ih ih'
 | some h h' ih ih' =>exact .some ih ih'
def kp:Ru->T->Bool
 | .sum a b,x=>decide (a<=(ZN (lv x)).sum) && decide ((ZN (lv x)).sum<=b)
 | .size a b,x=>decide (a<=((Zd x).length:Int)) && decide (((Zd x).length:Int)<=b)
 | .word w,x=>(lv x).any (vj w)
 | .rising,x=>asc (ZN (lv x))
 | .unlike,x=>un (Zd x)
 | .no r,x=> !kp r x
 | .all r s,x=>kp r x && kp s x
 | .some r s,x=>kp r x || kp s x
theorem Jy (h: -50<=i/\i<=50):z0Q [.int i]= .ok (.bl true):=by
 show zy _=_;rw[z2L,zw]
 ·rfl
 ·show jx _ _ [.vl _]=_;rw[wF,zV,v0,bOk,Vo,xm,Z1,bOk];rw[bOk,w0,bOk,WU,decide_eq_true h.1,bOk,bOk,WU,decide_eq_true h.2];rfl
theorem Zw (b:Bool)(h:(x == w)=b):zE eqC (zd ixT (vE 0) (cE (.int 0))) (cE (.str w)) (.vl (.tup (.str x :: r)) :: ρ)= .ok b:=by rw[cs0,h]
theorem uu (h:f ρ= .ok false)(h' :g ρ= .ok b):orT f g ρ= .ok b:=by rw[qT,h,bOk,if_neg aG,h']
theorem or_t (h:f ρ= .ok true):orT f g ρ= .ok true:=by rw[qT,h,bOk,if_pos rfl]
theorem wt (h:f ρ= .ok (.bl true))(h' :g ρ=r):jx f g ρ=r:=by rw[wF,h,ZL,if_pos rfl,h']
theorem xu (h:((xs.length:Int) == n)=true):ZR eqC (ap1 Zj (vB 0)) (cE (.int n)) (.vl (.tup xs) :: ρ)= .ok (.bl true):=by
 rw[Zl,ZS,w0,bOk,WV,bOk,Z1,bOk,eqI,h,bOk]
theorem ji:orT (zE eqC (vB 1) (cE (.int 0))) (orT (uD (jG (ap1 (Wl "tuple") (vB 0)))) (zE eqC (ap1 Zj (vB 0)) (cE (.int 0)))) (en2 (.tup (x :: xs)) (.int ((d+1:Nat):Int)))= .ok false:=by
 refine uu ?_ (uu ?_ ?_)
 ·rw[zJ,w1,bOk,Z1,bOk,eqI,beq_eq_false_iff_ne.mpr (by omega)]
 ·rfl
 ·rw[zJ,ZS,w0,bOk,WV,bOk,Z1,bOk,eqI,beq_eq_false_iff_ne.mpr (by rw[am];omega)]
theorem VB (h:Zr (.str w)=true):kg (.str w):=by
 have h:(decide _ && decide _ && w.cps.toList.all _)=true:=h;simp only[ag,decide_eq_true_eq]at h;exact aA h.1.2 (by decide)
theorem J8:∀(n d:Nat),d<=n->∀r:Ru,ZV d r->S_m n 0 [r.t,.int (d:Int)]= .ok (.bl true)
 | 0,d,h,r,hr=>by
  have:d=0:=by omega
  subst this;cases hr
 | n+1,d,h,r,hr=>by
  show zy (b_m f_u (S_m n 0) z0Q (en2 r.t (.int (d:Int))))=_;rw[b_m];cases hr with
  | @sum d a b ha hb=>
   rw[Ru.t,zb (zx ji),zH (t:= .bl true)]
   ·rfl
   ·exact zw (wt (xu rfl) (wt (by show za 1 _ _ (en2 _ _)=_;rw[zV,Jv,bOk,Jy ha]) (by show za 1 _ _ (en2 _ _)=_;rw[zV,ut,bOk,Jy hb])))
  | @size d a b ha hb=>
   rw[Ru.t,zb (zx ji),zH (t:= .bl true)]
   ·rfl
   ·exact zw (wt (xu rfl) (wt (by show za 1 _ _ (en2 _ _)=_;rw[zV,Jv,bOk,Jy ha]) (by show za 1 _ _ (en2 _ _)=_;rw[zV,ut,bOk,Jy hb])))
  | @word d w hw=>
   rw[Ru.t,zb (zx ji),zb (zx (uu (Zw false (by decide)) (Zw false (by decide)))),zH (t:= .bl true)]
   ·rfl
   ·exact zw (wt (xu rfl) (by show za 1 _ _ (en2 _ _)=_;rw[zV,Jv,bOk,qR _ (VB hw),hw]))
  | rising=>
   rw[Ru.t,zb (zx ji),zb (zx (uu (Zw false (by decide)) (Zw false (by decide)))),zb (zx (Zw false (by decide))),zH (t:= .bl true)]
   ·rfl
   ·rw[J4 (or_t (Zw true (by decide)))]
    exact zw (xu rfl)
  | unlike=>
   rw[Ru.t,zb (zx ji),zb (zx (uu (Zw false (by decide)) (Zw false (by decide)))),zb (zx (Zw false (by decide))),zH (t:= .bl true)]
   ·rfl
   ·rw[J4 (uu (Zw false (by decide)) (Zw true (by decide)))]
    exact zw (xu rfl)
  | @no d r hr=>
   have ih:=J8 n d (by omega) r hr
   rw[Ru.t,zb (zx ji),zb (zx (uu (Zw false (by decide)) (Zw false (by decide)))),zb (zx (Zw false (by decide))),zb (zx (uu (Zw false (by decide)) (Zw false (by decide)))),zH (t:= .bl true)]
   ·rfl
   ·rw[J4 (Zw true (by decide))]
    exact zw (wt (xu rfl) (by show za 2 _ _ (en2 _ _)=_;rw[zN,Jv,bOk,zt,v1,bOk,Z1,bOk,Zi,bOk,show ((d+1:Nat)) - 1=(d:Int) by omega,ih]))
  | @all d r s hr hs=>
   have ih:=J8 n d (by omega) r hr
   have ih' :=J8 n d (by omega) s hs
   rw[Ru.t,zb (zx ji),zb (zx (uu (Zw false (by decide)) (Zw false (by decide)))),zb (zx (Zw false (by decide))),zb (zx (uu (Zw false (by decide)) (Zw false (by decide)))),zb (zx (Zw false (by decide))),zH (t:= .bl true)]
   ·rfl
   ·exact zw (wt (xu rfl) (wt (by show za 2 _ _ (en2 _ _)=_;rw[zN,Jv,bOk,zt,v1,bOk,Z1,bOk,Zi,bOk,show ((d+1:Nat):Int) - 1=(d) by omega,ih]) (by show za 2 _ _ (en2 _ _)=_;rw[zN,ut,bOk,zt,v1,bOk,Z1,bOk,Zi,bOk,show ((d+1:Nat):Int) - 1=(d) by omega,ih'])))
  | @some d r s hr hs=>
   have ih:=J8 n d (by omega) r hr
   have ih' :=J8 n d (by omega) s hs
   rw[Ru.t,zb (zx ji),zb (zx (uu (Zw _ (by decide)) (Zw _ (by decide)))),zb (zx (Zw _ (by decide))),zb (zx (uu (Zw _ (by decide)) (Zw _ (by decide)))),zb (zx (Zw _ (by decide))),zH]
   ·rfl
   ·exact zw (wt (xu rfl) (wt (by show za 2 _ _ (en2 _ _)=_;rw[zN,Jv,bOk,zt,v1,bOk,Z1,bOk,Zi,bOk,show ((d+1:Nat):Int) - 1=(d) by omega,ih]) (by show za 2 _ _ (en2 _ _)=_;rw[zN,ut,bOk,zt,v1,bOk,Z1,bOk,Zi,bOk,show ((d+1:Nat):Int) - 1=(d) by omega,ih'])))
theorem z0d (hf:f ρ= .ok (.int i))(hg:g ρ= .ok (.int j))(hh:h ρ= .ok (.int k)):chE leC leC f g h ρ= .ok (.bl (decide (i<=j) && decide (j<=k))):=by
 rw[Vo,hf,bOk,hg,bOk,WU,bOk];cases decide (i<=j) with
 | true=>rw[if_pos rfl,hh,bOk,WU,bOk,fY]
 | false=>rw[if_neg aG,Bool.false_and]
theorem QD (hd:d<=2)(h:W d x)(b:Bool)(hr:(match r with | .no _=>False | .all _ _=>False | .some _ _=>False | _=>True)):GK [r.t,x]= .ok (.bl (kp r x)):=by
 have hn:=yL hd h;have hp:=kE h;have hv:f_h 8 [x]= .ok (.lst (lv x)):=wd 8 d (by omega) (by omega) x h
 have hi:=aA (Wf _) (w9 hd h);show zy (z11 z10 (f_h 8) z0Z _ _ (en2 r.t x))=_;rw[z11];cases r with
 | sum a b=>
  rw[zH]
  ·rfl
  ·refine zw ?_;show chE _ _ _ _ _ (en2 _ x)=_;exact z0d Jv (by rw[ZS,zV,v1,bOk,hn,bOk,z0a]) ut
 | size a b=>
  rw[Ru.t,zb (zx (Zw _ (by decide))),zH]
  ·rfl
  ·rw[J4 (Zw _ (by decide))]
   refine zw ?_;show chE _ _ _ _ _ (en2 _ x)=_;exact z0d Jv (by rw[ZS,zV,v1,bOk,hp,bOk,WV]) ut
 | word w=>
  rw[Ru.t,zb (zx (Zw false (by decide))),zb (zx (Zw false (by decide))),zH]
  ·rfl
  ·rw[J4 (Zw true (by decide))]
   refine zw ?_;show ZR _ _ _ (en2 _ x)=_;rw[Zl,Jv,bOk,zV,v1,bOk,hv];show ((match Wk (λy=>eqF 30 y (.str w)) (lv x) with | some b=>R.ok b | none=> .bad).bind _)=_
   rw[QC];rfl
 | rising=>
  rw[Ru.t,zb (zx (Zw false (by decide))),zb (zx (Zw _ (by decide))),zb (zx (Zw _ (by decide))),zH (t:= .bl (kp _ x))]
  ·rfl
  ·rw[J4 (Zw true (by decide))]
   refine zw ?_;show za 1 _ _ (en2 _ x)=_;rw[zV,zV,v1,bOk,hn,bOk,Qu _ (by omega)]
   rfl
 | unlike=>
  rw[Ru.t,zb (zx (Zw false (by decide))),zb (zx (Zw _ (by decide))),zb (zx (Zw false (by decide))),zb (zx (Zw _ (by decide))),zw]
  ·rfl
  ·show za 1 _ _ (en2 _ x)=_;rw[zV,zV,v1,bOk,hp,bOk,QB (UW h hd) (aA (ue h) (by omega))]
   rfl
 | no=>exact hr.elim
 | all=>exact hr.elim
 | some=>exact hr.elim
theorem QE (h:f ρ= .ok (.bl b)):vc f ρ= .ok (.bl (!b)):=by unfold vc;rw[h];rfl
theorem Wg (h:f ρ= .ok (.bl a))(h' :g ρ= .ok (.bl b)):jx f g ρ= .ok (.bl (a && b)):=by
 rw[wF,h,h'];cases a <;> rfl
theorem xv (h:f ρ= .ok (.bl a))(h' :g ρ= .ok (.bl b)):orE f g ρ= .ok (.bl (a || b)):=by
 unfold orE;rw[h];cases a with
 | true=>rfl
 | false=>exact h'
theorem J9 (he:e<=2)(hx:W e x):∀(n d:Nat),d<=n->∀r:Ru,ZV d r->S_6 n 0 [r.t,x]= .ok (.bl (kp r x))
 | 0,d,h,r,hr=>by
  have:d=0:=by omega
  subst this;cases hr
 | n+1,d,h,r,hr=>by
  show zy (b_6 (S_6 n 0) GK (en2 r.t x))=_;rw[b_6];have fin:∀(r:Ru) (s:Str) (q:List T),r.t= .tup (.str s :: q)->(s == "no")=false->(s == "all")=false->(s == "some")=false->(match r with | .no _=>False | .all _ _=>False | .some _ _=>False | _=>True)->
    zy (zB (ifS (zE eqC (zd ixT (vE 0) (cE (.int 0))) (cE (.str "no"))) (zG (vc (za 2 (S_6 n 0) (z9 (zd ixT (vE 0) (cE (.int 1))) (z9 (vE 1) (zj)))))) (nxS))
  (zB (ifS (zE eqC (zd ixT (vE 0) (cE (.int 0))) (cE (.str "all"))) (zG (jx (za 2 (S_6 n 0) (z9 (zd ixT (vE 0) (cE (.int 1))) (z9 (vE 1) (zj)))) (za 2 (S_6 n 0) (z9 (zd ixT (vE 0) (cE (.int 2))) (z9 (vE 1) (zj)))))) (nxS))
  (zB (ifS (zE eqC (zd ixT (vE 0) (cE (.int 0))) (cE (.str "some"))) (zG (orE (za 2 (S_6 n 0) (z9 (zd ixT (vE 0) (cE (.int 1))) (z9 (vE 1) (zj)))) (za 2 (S_6 n 0) (z9 (zd ixT (vE 0) (cE (.int 2))) (z9 (vE 1) (zj)))))) (nxS))
  (zG (za 2 GK (z9 (vE 0) (z9 (vE 1) (zj))))))) (en2 r.t x))= .ok (.bl (kp r x)):=by
   intro r s q e h1 h2 h3 hm;have hs:=QD he hx true hm;rw[e]at hs ⊢;rw[zb (zx (Zw _ h1)),zb (zx (Zw false h2)),zb (zx (Zw _ h3)),zw]
   ·rfl
   ·show za 2 _ _ (en2 _ x)=_;rw[zN,v0,bOk,v1,bOk,hs]
  cases hr with
  | @sum d a b ha hb=>exact fin (.sum a b) "sum" _ rfl (by decide) (by decide) (by decide) trivial
  | @size d a b ha hb=>exact fin _ "size" _ rfl (by decide) (by decide) (by decide) trivial
  | @word d w hw=>exact fin _ _ _ rfl (by decide) (by decide) (by decide) trivial
  | rising=>exact fin .rising _ _ rfl (by decide) (by decide) (by decide) trivial
  | unlike=>exact fin .unlike _ _ rfl (by decide) (by decide) (by decide) trivial
  | @no d r hr=>
   have ih:=J9 he hx n d (by omega) r hr
   rw[Ru.t,zH]
   ·rfl
   ·exact zw (QE (by show za 2 _ _ (en2 _ x)=_;rw[zN,Jv,bOk,v1,bOk,ih]))
  | @all d r s hr hs=>
   have ih:=J9 he hx n d (by omega) r hr
   have ih' :=J9 he hx n d (by omega) s hs
   rw[Ru.t,zb (zx (Zw _ (by decide))),zH]
   ·rfl
   ·exact zw (Wg (by show za 2 _ _ (en2 _ x)=_;rw[zN,Jv,bOk,v1,bOk,ih]) (by show za 2 _ _ (en2 _ x)=_;rw[zN,ut,bOk,v1,bOk,ih']))
  | @some d r s hr hs=>
   have ih:=J9 he hx n d (by omega) r hr
   have ih' :=J9 he hx n d (by omega) s hs
   rw[Ru.t,zb (zx (Zw _ (by decide))),zb (zx (Zw _ (by decide))),zH]
   ·rfl
   ·exact zw (xv (by show za 2 _ _ (en2 _ x)=_;rw[zN,Jv,bOk,v1,bOk,ih]) (by show za 2 _ _ (en2 _ x)=_;rw[zN,ut,bOk,v1,bOk,ih']))
abbrev lk (r x a b:T):En:=[.vl r,.vl x,.vl a,.vl b,.un,.un,.un]
theorem lk0 (c:Bool)(h:(x == w)=c):zE eqC (zd ixT (vE 0) (cE (.int 0))) (cE (.str w)) (lk (.tup (.str x :: r)) y a b)= .ok c:=Zw c h
theorem UX:∀(is:List Int) (m:Int) (y:Sl),∃y',ZA (zI 5) (zK 4 (zd zD (vE 4) (vE 5))) (is.map T.int) [.vl r,.vl x,.vl a,.vl b,.vl (.int m),y,z]= .nx [.vl r,.vl x,.vl a,.vl b,.vl (.int (m+is.sum)),y',z]
 | [],m,y=>⟨y,by rw[List.sum_nil,Int.add_zero];rfl⟩
 | i :: is,m,y=>by
  obtain⟨y',h⟩:=UX (r:=r) (x:=x) (a:=a) (b:=b) (z:=z) is (m+i) (.vl (.int i));refine⟨y', ?_⟩;have s2:zI 5 (.int i) [.vl r,.vl x,.vl a,.vl b,.vl (.int m),y,z]= .ok [.vl r,.vl x,.vl a,.vl b,.vl (.int m),.vl (.int i),z]:=rfl;have b2:zK 4 (zd zD (vE 4) (vE 5)) [.vl r,.vl x,.vl a,.vl b,.vl (.int m),.vl (.int i),z]= .nx [.vl r,.vl x,.vl a,.vl b,.vl (.int (m+i)),.vl (.int i),z]:=rfl;rw[aF,jh s2 b2,h,dz,Int.add_assoc]
theorem z33 (hf:f ρ= .ok (.int i))(hg:g ρ= .ok (.int j)):ZR leC f g ρ= .ok (.bl (decide (i<=j))):=by rw[Zl,hf,bOk,hg,bOk,WU,bOk]
theorem ge_E (hf:f ρ= .ok (.int i))(hg:g ρ= .ok (.int j)):ZR geC f g ρ= .ok (.bl (decide (j<=i))):=by
 rw[Zl,hf,bOk,hg,bOk];rfl
theorem uh:frz (lk r x a b)=lk r x a b:=rfl
theorem jo (he:e<=2)(hx:W e x):∀(n d:Nat),d<=n->∀r:Ru,ZV d r->S_9 n 0 [r.t,x]= .ok (.bl (kp r x))
 | 0,d,h,r,hr=>by
  have:d=0:=by omega
  subst this;cases hr
 | n+1,d,h,r,hr=>by
  show zy (b_9 (f_k 8) (S_9 n 0) [.vl r.t,.vl x,.un,.un,.un,.un,.un])=_;have hv:f_k 8 [x]= .ok (.lst (lv x)):=UU 8 e (by omega) (by omega) x hx
  have hl:=w9 he hx;have hB:bnd=16777216:=rfl;have hi:(ZN (lv x)).length<=9:=aA (Wf _) hl;have e1:zK 2 (zU (Zx (za 1 (f_k 8) (z9 (vE 1) (zj)))) (zI 0) (jG (ap1 (Wl "int") (vB 0))) (vE 0) 1 []) [.vl r.t,.vl x,.un,.un,.un,.un,.un]= .nx [.vl r.t,.vl x,.vl (.lst ((ZN (lv x)).map T.int)),.un,.un,.un,.un]:=by
   have ec:zC (zI 0) (jG (ap1 (Wl "int") (vB 0))) (vE 0) 1 [] [.vl r.t,.vl x,.un,.un,.un,.un,.un] (lv x)= .ok ((lv x).filter isW):=
    Ze _ (by omega) λt ht=>⟨by cases z32 hx t ht <;> rfl,rfl⟩
   rw[zM (t:= .lst ((ZN (lv x)).map T.int))]
   ·rfl
   ·rw[zY,ZT,zV,v1,bOk,hv,bOk];show ((zC _ _ _ _ _ _ (lv x)).bind _)=_;rw[ec,bOk,we]
  have e2:zK 3 (ifE (jG (ap1 (Wl "tuple") (vB 1))) (vE 1) (Zh (z9 (vE 1) (zj)))) [.vl r.t,.vl x,.vl (.lst ((ZN (lv x)).map T.int)),.un,.un,.un,.un]= .nx (lk r.t x (.lst ((ZN (lv x)).map T.int)) (.tup (Zd x))):=by
   cases hx <;> rfl
  rw[b_9,zb e1,zb e2];cases hr with
  | @sum d a b ha hb=>
   obtain⟨y',el⟩:=UX (r:=(Ru.sum a b).t) (x:=x) (a:= .lst ((ZN (lv x)).map T.int)) (b:= .tup (Zd x)) (z:= .un) (ZN (lv x)) 0 .un;rw[ii]at el;have e3:zK 4 (cE (.int 0)) (lk (Ru.sum a b).t x (.lst ((ZN (lv x)).map T.int)) (.tup (Zd x)))= .nx [.vl (Ru.sum a b).t,.vl x,.vl (.lst ((ZN (lv x)).map T.int)),.vl (.tup (Zd x)),.vl (.int 0),.un,.un]:=rfl;have e4:j0 (Zx (vE 2)) (zI 5) (zK 4 (zd zD (vE 4) (vE 5))) [.vl (Ru.sum a b).t,.vl x,.vl (.lst ((ZN (lv x)).map T.int)),.vl (.tup (Zd x)),.vl (.int 0),.un,.un]= .nx [.vl (Ru.sum a b).t,.vl x,.vl (.lst ((ZN (lv x)).map T.int)),.vl (.tup (Zd x)),.vl (.int (ZN (lv x)).sum),y',.un]:=by
    unfold j0;rw[ZT,v2,bOk];exact el
   rw[zH (t:= .bl (kp (.sum a b) x))]
   ·rfl
   ·rw[J4 (by rw[Ru.t];exact lk0 true (by decide)),zb e3,zb e4,zw (t:= .bl (kp (.sum a b) x))]
    show jx _ _ [.vl (Ru.sum a b).t,.vl x,.vl (.lst ((ZN (lv x)).map T.int)),.vl (.tup (Zd x)),.vl (.int (ZN (lv x)).sum),frz1 y',.un]=_;rw[Ru.t];exact Wg (z33 Jv rfl) (z33 rfl ut)
  | @size d a b ha hb=>
   rw[Ru.t,zb (zx (lk0 false (by decide))),zH (t:= .bl (kp (.size a b) x))]
   ·rfl
   ·rw[J4 (lk0 true (by decide)),zw (t:= .bl (kp (.size a b) x))]
    rw[uh];exact Wg (ge_E (i:=((Zd x).length:Int)) rfl Jv) (z33 (i:=((Zd x).length:Int)) rfl ut)
  | @word d w hw=>
   rw[Ru.t,zb (zx (lk0 false (by decide))),zb (zx (lk0 false (by decide))),zH (t:= .bl (kp (.word w) x))]
   ·rfl
   ·rw[J4 (lk0 true (by decide)),zw (t:= .bl (kp (.word w) x))]
    rw[uh];have ec:zC (zI 0) (zE eqC (vB 0) (zd ixT (vE 1) (cE (.int 1)))) (vE 0) 1 [0] (lk (.tup [.str "word",.str w]) x (.lst ((ZN (lv x)).map T.int)) (.tup (Zd x))) (lv x)= .ok ((lv x).filter (vj w)):=
     Ze _ (by omega) λt ht=>⟨by
      show zE eqC (vB 0) (zd ixT (vE 1) (cE (.int 1))) [.vl t,.vl (.tup [.str "word",.str w])]=_;rw[zJ,w0,bOk,zt,v1,bOk,Z1,bOk,at1,bOk];unfold eqC;rw[z0c],rfl⟩
    rw[Zl,zY,ZT,zV,v1,bOk,hv,bOk];show (((zC _ _ _ _ _ _ (lv x)).bind _).bind _)=_;rw[ec,bOk,bOk,show j7 zj (lk (.tup [.str "word",.str w]) x (.lst ((ZN (lv x)).map T.int)) (.tup (Zd x)))= .ok (.lst []) from rfl,bOk];have en:neC (.lst ((lv x).filter (vj w))) (.lst [])= .ok (!((lv x).filter (vj w)).isEmpty):=by cases (lv x).filter (vj w) <;> rfl
    rw[en,bOk,kF,Bool.not_not];rfl
  | rising=>
   rw[Ru.t,zb (zx (lk0 false (by decide))),zb (zx (lk0 false (by decide))),zb (zx (lk0 false (by decide))),zH (t:= .bl (kp .rising x))]
   ·rfl
   ·rw[J4 (lk0 true (by decide)),zw (t:= .bl (kp .rising x))]
    rw[uh,Zl,ZS,w2,bOk,bOk,qv _ (by omega),bOk,Qy,bOk]
    rfl
  | unlike=>
   rw[Ru.t,zb (zx (lk0 false (by decide))),zb (zx (lk0 false (by decide))),zb (zx (lk0 false (by decide))),zb (zx (lk0 false (by decide))),zH (t:= .bl (kp .unlike x))]
   ·rfl
   ·rw[J4 (lk0 true (by decide)),zw (t:= .bl (kp .unlike x))]
    rw[uh];have hp3:=ue hx;obtain⟨q,eq,hq⟩:=VA (UW hx he) (by omega) (a:= .vl (.tup [.str "unlike"])) (b:= .vl x) (c:= .vl (.lst ((ZN (lv x)).map T.int))) (ρ:=[.un,.un,.un])
    have er:Zv (ap1 Zj (vB 3)) (lk (.tup [.str "unlike"]) x (.lst ((ZN (lv x)).map T.int)) (.tup (Zd x)))= .ok (rng 0 (Zd x).length):=by
     rw[uW (j:=((Zd x).length:Int)) rfl ⟨by omega,by omega⟩,bm]
    rw[Zl,zY,er,bOk,eq,bOk,bOk,show j7 zj (lk (.tup [.str "unlike"]) x (.lst ((ZN (lv x)).map T.int)) (.tup (Zd x)))= .ok (.lst []) from rfl,bOk,GQ,bOk,hq];rfl
  | @no d r hr=>
   have ih:=jo he hx n d (by omega) r hr
   rw[Ru.t,zb (zx (lk0 false (by decide))),zb (zx (lk0 false (by decide))),zb (zx (lk0 false (by decide))),zb (zx (lk0 false (by decide))),zb (zx (lk0 false (by decide))),zH (t:= .bl (kp (.no r) x))]
   ·rfl
   ·rw[J4 (lk0 true (by decide)),zw (t:= .bl (kp (.no r) x))]
    rw[uh];exact QE (by rw[zN,Jv,bOk,v1,bOk,ih])
  | @all d r s hr hs=>
   have ih:=jo he hx n d (by omega) r hr
   have ih' :=jo he hx n d (by omega) s hs
   have e3:zK 6 (zU (Zx (slE (vE 0) (Jk (cE (.int 1))) (noO))) (zI 0) (Zg) (za 2 (S_9 n 0) (z9 (vE 0) (z9 (vE 1) (zj)))) 1 [1]) (lk (.tup [.str "all",r.t,s.t]) x (.lst ((ZN (lv x)).map T.int)) (.tup (Zd x)))= .nx [.vl (.tup [.str "all",r.t,s.t]),.vl x,.vl (.lst ((ZN (lv x)).map T.int)),.vl (.tup (Zd x)),.un,.un,.vl (.lst [.bl (kp r x),.bl (kp s x)])]:=by
    rw[zM (t:= .lst [.bl (kp r x),.bl (kp s x)])]
    ·rfl
    ·rw[zY];show ((zC (zI 0) Zg (za 2 (S_9 n 0) (z9 (vE 0) (z9 (vE 1) (zj)))) 1 [1] (lk (.tup [.str "all",r.t,s.t]) x (.lst ((ZN (lv x)).map T.int)) (.tup (Zd x))) [r.t,s.t]).bind _)=_;have ec:zC (zI 0) Zg (za 2 (S_9 n 0) (z9 (vE 0) (z9 (vE 1) (zj)))) 1 [1] (lk (.tup [.str "all",r.t,s.t]) x (.lst ((ZN (lv x)).map T.int)) (.tup (Zd x))) [r.t,s.t]= .ok [.bl (kp r x),.bl (kp s x)]:=by
      unfold zC;rw[if_pos (by show 2<=bnd;omega)]
      have c1:za 2 (S_9 n 0) (z9 (vE 0) (z9 (vE 1) (zj))) [.vl r.t,.vl x]= .ok (.bl (kp r x)):=by rw[zN,v0,bOk,v1,bOk,ih]
      have c2:za 2 (S_9 n 0) (z9 (vE 0) (z9 (vE 1) (zj))) [.vl s.t,.vl x]= .ok (.bl (kp s x)):=by rw[zN,v0,bOk,v1,bOk,ih']
      show quiet ((za 2 (S_9 n 0) (z9 (vE 0) (z9 (vE 1) (zj))) [.vl r.t,.vl x]).bind λv=>((za 2 (S_9 n 0) (z9 (vE 0) (z9 (vE 1) (zj))) [.vl s.t,.vl x]).bind λv=>(R.ok []).bind λvs=> .ok (v :: vs)).bind λvs=> .ok (v :: vs))=_;rw[c1,c2];rfl
     rw[ec,bOk]
   rw[Ru.t,zb (zx (lk0 false (by decide))),zb (zx (lk0 false (by decide))),zb (zx (lk0 false (by decide))),zb (zx (lk0 false (by decide))),zb (zx (lk0 false (by decide))),zb (zx (lk0 false (by decide))),zb e3,zw (t:= .bl (kp (.all r s) x))]
   ·rfl
   ·show ifE _ _ _ [.vl (.tup [.str "all",r.t,s.t]),.vl x,.vl (.lst ((ZN (lv x)).map T.int)),.vl (.tup (Zd x)),.un,.un,.vl (.lst [.bl (kp r x),.bl (kp s x)])]=_;unfold ifE;rw[Zw true (by decide),bOk,if_pos rfl]
    exact Wg rfl rfl
  | @some d r s hr hs=>
   have ih:=jo he hx n d (by omega) r hr
   have ih' :=jo he hx n d (by omega) s hs
   have e3:zK 6 (zU (Zx (slE (vE 0) (Jk (cE (.int 1))) (noO))) (zI 0) (Zg) (za 2 (S_9 n 0) (z9 (vE 0) (z9 (vE 1) (zj)))) 1 [1]) (lk (.tup [.str "some",r.t,s.t]) x (.lst ((ZN (lv x)).map T.int)) (.tup (Zd x)))= .nx [.vl (.tup [.str "some",r.t,s.t]),.vl x,.vl (.lst ((ZN (lv x)).map T.int)),.vl (.tup (Zd x)),.un,.un,.vl (.lst [.bl (kp r x),.bl (kp s x)])]:=by
    rw[zM (t:= .lst [.bl (kp r x),.bl (kp s x)])]
    ·rfl
    ·rw[zY];show ((zC (zI 0) Zg (za 2 (S_9 n 0) (z9 (vE 0) (z9 (vE 1) (zj)))) 1 [1] (lk (.tup [.str "some",r.t,s.t]) x (.lst ((ZN (lv x)).map T.int)) (.tup (Zd x))) [r.t,s.t]).bind _)=_;have ec:zC (zI 0) Zg (za 2 (S_9 n 0) (z9 (vE 0) (z9 (vE 1) (zj)))) 1 [1] (lk (.tup [.str "some",r.t,s.t]) x (.lst ((ZN (lv x)).map T.int)) (.tup (Zd x))) [r.t,s.t]= .ok [.bl (kp r x),.bl (kp s x)]:=by
      unfold zC;rw[if_pos (by show 2<=bnd;omega)]
      have c1:za 2 (S_9 n 0) (z9 (vE 0) (z9 (vE 1) (zj))) [.vl r.t,.vl x]= .ok (.bl (kp r x)):=by rw[zN,v0,bOk,v1,bOk,ih]
      have c2:za 2 (S_9 n 0) (z9 (vE 0) (z9 (vE 1) (zj))) [.vl s.t,.vl x]= .ok (.bl (kp s x)):=by rw[zN,v0,bOk,v1,bOk,ih']
      show quiet ((za 2 (S_9 n 0) (z9 (vE 0) (z9 (vE 1) (zj))) [.vl r.t,.vl x]).bind λv=>((za 2 (S_9 n 0) (z9 (vE 0) (z9 (vE 1) (zj))) [.vl s.t,.vl x]).bind λv=>(R.ok []).bind λvs=> .ok (v :: vs)).bind λvs=> .ok (v :: vs))=_;rw[c1,c2];rfl
     rw[ec,bOk]
   rw[Ru.t,zb (zx (lk0 false (by decide))),zb (zx (lk0 false (by decide))),zb (zx (lk0 false (by decide))),zb (zx (lk0 false (by decide))),zb (zx (lk0 false (by decide))),zb (zx (lk0 false (by decide))),zb e3,zw (t:= .bl (kp (.some r s) x))]
   ·rfl
   ·show ifE _ _ _ [.vl (.tup [.str "some",r.t,s.t]),.vl x,.vl (.lst ((ZN (lv x)).map T.int)),.vl (.tup (Zd x)),.un,.un,.vl (.lst [.bl (kp r x),.bl (kp s x)])]=_;unfold ifE;rw[Zw false (by decide),bOk,if_neg aG]
    exact xv rfl rfl
abbrev lr (ns:List Int)(k:Int)(d:Nat)(p:Int)(a b:Sl):En:=[.vl (scr ns),.vl (.int k),.vl (.int (d:Int)),.vl (.int p),a,b]
theorem QF (h:f_2 [scr ns,.int (k+j),.int m]= .ok (.int q)):za 3 f_2 (z9 (vE 0) (z9 (zd zD (vE 1) (cE (.int j))) (z9 (cE (.int m)) (zj)))) (lr ns k d p a b)= .ok (.int q):=by
 rw[ZB,v0,bOk,zt,v1,bOk,Z1,bOk,Z9,bOk,Z1,bOk,h]
theorem Wh (ns:List Int):∀(n d:Nat),d<=n->1<=d->∀k:Int,0<=k->∃r:Ru,S_j n 0 [scr ns,.int k,.int (d:Int)]= .ok r.t/\ZV d r
 | 0,d,h,h1,k,hk=>by omega
 | n+1,d,h,h1,k,hk=>by
  obtain⟨p,hp,p0,p9⟩:=zW ns k 9 hk (by omega)
  have e1:zK 3 (za 3 f_2 (z9 (vE 0) (z9 (vE 1) (z9 (cE (.int 9)) (zj))))) [.vl (scr ns),.vl (.int k),.vl (.int (d:Int)),.un,.un,.un]= .nx (lr ns k d p .un .un):=by
   rw[zM (t:= .int p)]
   ·rfl
   ·rw[ZB,v0,bOk,v1,bOk,Z1,bOk,hp]
  have e:S_j (n+1) 0 [scr ns,.int k,.int (d:Int)]=zy (b_j f_2 (S_j n 0) [.vl (scr ns),.vl (.int k),.vl (.int (d:Int)),.un,.un,.un]):=rfl;rw[e,b_j,zb e1];have et:KS (zE gtC (vB 2) (cE (.int 1))) (zE gtC (vB 3) (cE (.int 5))) (lr ns k d p .un .un)= .ok (decide (1 < d) && decide (5 < p)):=by
   rw[ki,zJ,w2,bOk,Z1,bOk,kC,bOk,show decide ((1:Int) < (d:Int))=decide (1 < d) by rw[fA,decide_eq_true_eq,decide_eq_true_eq];omega]
   cases decide (1 < d) with
   | true=>rw[if_pos rfl,zJ,w3,bOk,Z1,bOk,kC,fY]
   | false=>rfl
  by_cases hb:1 < d/\5 < p
  ·rw[decide_eq_true hb.1,decide_eq_true hb.2]at et;obtain⟨d,rfl⟩:∃d',d=d' +1:=⟨d - 1,by omega⟩
   obtain⟨r1,hr1,o1⟩:=Wh ns n d (by omega) (by omega) (2*k+11) (by omega)
   obtain⟨r2,hr2,o2⟩:=Wh ns n d (by omega) (by omega) (2*k+24) (by omega)
   have m2:Za (.int 2) (.int k)= .ok (.int (2*k)):=qY _ _ (.inl ⟨by decide,by decide⟩)
   have e2:zK 4 (za 3 (S_j n 0) (z9 (vE 0) (z9 (zd zD (zd Za (cE (.int 2)) (vE 1)) (cE (.int 11))) (z9 (zd jv (vE 2) (cE (.int 1))) (zj))))) (lr ns k (d+1) p .un .un)= .nx (lr ns k (d+1) p (.vl r1.t) .un):=by
    rw[zM (t:=r1.t)]
    ·rfl
    ·rw[ZB,v0,bOk,zt,zt,Z1,bOk,v1,bOk,m2,bOk,Z1,bOk,Z9,bOk,zt,v2,bOk,Z1,bOk,Zi,bOk,show ((d+1:Nat):Int) - 1=(d:Int) by omega,hr1]
   have c2:za 3 (S_j n 0) (z9 (vE 0) (z9 (zd zD (zd Za (cE (.int 2)) (vE 1)) (cE (.int 24))) (z9 (zd jv (vE 2) (cE (.int 1))) (zj)))) (lr ns k (d+1) p (.vl r1.t) .un)= .ok r2.t:=by
    rw[ZB,v0,bOk,zt,zt,Z1,bOk,v1,bOk,m2,bOk,Z1,bOk,Z9,bOk,zt,v2,bOk,Z1,bOk,Zi,bOk,show ((d+1:Nat):Int) - 1=(d:Int) by omega,hr2]
   by_cases h6:p=6
   ·subst h6;refine⟨.no r1, ?_,.no o1⟩;rw[zH (t:=(Ru.no r1).t)]
    ·rfl
    ·rw[J4 et,zb e2,zH (t:=(Ru.no r1).t)];rw[J4 rfl,Ru.t];exact zw (UF rfl rfl)
   ·have h6' :zE eqC (vB 3) (cE (.int 6)) (lr ns k (d+1) p (.vl r1.t) .un)= .ok false:=by
     rw[zJ,w3,bOk,Z1,bOk,eqI,beq_eq_false_iff_ne.mpr h6]
    by_cases h7:p=7
    ·subst h7;refine⟨.all r1 r2, ?_,.all o1 o2⟩;rw[zH (t:=(Ru.all r1 r2).t)]
     ·rfl
     ·rw[J4 et,zb e2,zb (zx h6'),Ru.t];exact zw (GT rfl rfl c2)
    ·have h8:p=8:=by omega
     subst h8;refine⟨.some r1 r2, ?_,.some o1 o2⟩;rw[zH (t:=(Ru.some r1 r2).t)]
     ·rfl
     ·rw[J4 et,zb e2,zb (zx h6'),Ru.t];exact zw (GT rfl rfl c2)
  ·have et:KS (zE gtC (vB 2) (cE (.int 1))) (zE gtC (vB 3) (cE (.int 5))) (lr ns k d p .un .un)= .ok false:=by
    rw[et];congr 1
    rw[Bool.and_eq_false_iff,decide_eq_false_iff_not,decide_eq_false_iff_not];omega
   obtain⟨d,rfl⟩:∃d',d=d' +1:=⟨d - 1,by omega⟩
   obtain⟨q,hq,q0,q9⟩:=zW ns (k+1) 9 (by omega) (by omega)
   have e2:zK 5 (zd jv (za 3 f_2 (z9 (vE 0) (z9 (zd zD (vE 1) (cE (.int 1))) (z9 (cE (.int 9)) (zj))))) (cE (.int 4))) (lr ns k (d+1) p .un .un)= .nx (lr ns k (d+1) p .un (.vl (.int (q - 4)))):=by
    rw[zM (t:= .int (q - 4))]
    ·rfl
    ·rw[zt,QF hq,bOk,Z1,bOk,Zi]
   rw[zb (zx et),zb e2];have hm:∃m:Nat,m < 6/\zd jw (vE 3) (cE (.int 6)) (lr ns k (d+1) p .un (.vl (.int (q - 4))))= .ok (.int (m:Int)):=by
    obtain⟨w,rfl⟩:=bL p0;exact⟨w % 6,iW _ (by omega),by rw[zt,v3,bOk,Z1,bOk];exact Qh (c:=6) (by omega)⟩
   obtain⟨m,m6,hm⟩:=hm;have t2:zE ltC (zd jw (vE 3) (cE (.int 6))) (cE (.int 2)) (lr ns k (d+1) p .un (.vl (.int (q - 4))))= .ok (decide (m < 2)):=by
    rw[zJ,hm,bOk,Z1,bOk,ltI];congr 1;rw[fA,decide_eq_true_eq,decide_eq_true_eq];omega
   have tk:∀j:Nat,zE eqC (zd jw (vE 3) (cE (.int 6))) (cE (.int (j:Int))) (lr ns k (d+1) p .un (.vl (.int (q - 4))))= .ok (m == j):=λj=>by
    rw[zJ,hm,bOk,Z1,bOk,eqI,Q6]
   have tk2:zE eqC (zd jw (vE 3) (cE (.int 6))) (cE (.int 2)) (lr ns k (d+1) p .un (.vl (.int (q - 4))))= .ok (m == 2):=tk 2;have tk3:zE eqC (zd jw (vE 3) (cE (.int 6))) (cE (.int 3)) (lr ns k (d+1) p .un (.vl (.int (q - 4))))= .ok (m == 3):=tk 3;have tk4:zE eqC (zd jw (vE 3) (cE (.int 6))) (cE (.int 4)) (lr ns k (d+1) p .un (.vl (.int (q - 4))))= .ok (m == 4):=tk 4
   by_cases h2:m < 2
   ·obtain⟨u,hu,u0,u5⟩:=zW ns (k+2) 5 (by omega) (by omega)
    refine⟨.sum (q - 4) (q - 4+u - 1), ?_,.sum ⟨by omega,by omega⟩ ⟨by omega,by omega⟩⟩
    rw[zH (t:=(Ru.sum (q - 4) (q - 4+u - 1)).t)]
    ·rfl
    ·rw[J4 (by rw[t2,decide_eq_true h2]),Ru.t]
     refine zw (GT rfl rfl ?_);show zd jv _ _ (lr ns k (d+1) p .un (.vl (.int (q - 4))))=_;rw[zt,zt,QF hu,show vE 5 (lr ns k (d+1) p .un (.vl (.int (q - 4))))= .ok (.int (q - 4)) from rfl,bOk,bOk,Z9,bOk,Z1,bOk,Zi]
   rw[zb (zx (by rw[t2,decide_eq_false h2]))]
   by_cases h3:m=2
   ·subst h3;obtain⟨q',hq',q'0,q'3⟩:=zW ns (k+1) 3 (by omega) (by omega)
    obtain⟨u,hu,u0,u4⟩:=zW ns (k+2) 4 (by omega) (by omega)
    refine⟨.size q' u, ?_,.size ⟨by omega,by omega⟩ ⟨by omega,by omega⟩⟩
    rw[zH (t:=(Ru.size q' u).t)]
    ·rfl
    ·rw[J4 tk2,Ru.t];exact zw (GT rfl (QF hq') (QF hu))
   rw[zb (zx (by rw[tk2,beq_eq_false_iff_ne.mpr h3]))]
   by_cases h4:m=3
   ·subst h4;obtain⟨q',hq',q'0,q'3⟩:=zW ns (k+1) 4 (by omega) (by omega)
    have hw:∃w:Str,Zr (.str w)=true/\ixT (.lst [.str "a",.str "b",.str "ab",.str "zz"]) (.int q')= .ok (.str w):=by
     have hq4:q' =0\/q' =1\/q' =2\/q' =3:=by omega
     rcases hq4 with rfl | rfl | rfl | rfl
     ·exact⟨"a",by decide,rfl⟩
     ·exact⟨"b",by decide,rfl⟩
     ·exact⟨"ab",by decide,rfl⟩
     ·exact⟨"zz",by decide,rfl⟩
    obtain⟨w,hw,hx⟩:=hw;refine⟨.word w, ?_,.word hw⟩;rw[zH (t:=(Ru.word w).t)]
    ·rfl
    ·rw[J4 tk3,Ru.t];refine zw (UF rfl ?_);show zd ixT _ _ (lr ns k (d+1) p .un (.vl (.int (q - 4))))=_;rw[zt,QF hq'];exact hx
   rw[zb (zx (by rw[tk3,beq_eq_false_iff_ne.mpr h4]))]
   by_cases h5:m=4
   ·subst h5;refine⟨.rising, ?_,.rising⟩;rw[zw (t:=Ru.rising.t)]
    ·rfl
    ·show ifE _ _ _ (lr ns k (d+1) p .un (.vl (.int (q - 4))))=_;unfold ifE;rw[tk4,bOk];rfl
   ·refine⟨.unlike, ?_,.unlike⟩;rw[zw (t:=Ru.unlike.t)]
    ·rfl
    ·show ifE _ _ _ (lr ns k (d+1) p .un (.vl (.int (q - 4))))=_;unfold ifE;rw[tk4,bOk,beq_eq_false_iff_ne.mpr h5];rfl
theorem yM {k:Kd}(hk:k.Ok 3){x:T}(hx:x∈k.all):W 2 x:=z31 2 k x hk ((J7 k x).mp hx)
theorem Ja (hx:W 2 x)(hr:ZV 3 r):f_6 8 [r.t,x]= .ok (.bl (kp r x)):=J9 (by omega) hx 8 3 (by omega) r hr
noncomputable def frT (q:Rat):T:= .tup [.int q.num,.int q.den]
theorem z34 {b:Nat}:neC (.int (b:Int)) (.int 0)= .ok (!(b == 0)):=by
 show R.ok _=_;congr 2
 cases b with
 | zero=>rfl
 | succ n=>
  rw[show ((n+1 == 0)=false) from rfl,beq_eq_false_iff_ne];omega
theorem VC (h:g ρ= .ok true)(hb:fb ρ= .nx ρ'):ZI g fb (n+1) ρ=ZI g fb n ρ' :=by
 show (g ρ).s _=_;rw[h,ZQ,if_pos rfl,hb]
theorem modn {a b:Nat}(h:1<=b):jw (.int (a:Int)) (.int (b:Int))= .ok (.int ((a % b:Nat):Int)):=Qh h
abbrev gdB:En->RS:=zB (zK 2 (zd jw (vE 0) (vE 1))) (zB (zK 0 (vE 1)) (zK 1 (vE 2)))
theorem QG:∀(n b a:Nat) (x:Sl),b < n->∃x',ZI (zE neC (vB 1) (cE (.int 0))) gdB n [.vl (.int (a:Int)),.vl (.int (b:Int)),x]= .nx [.vl (.int ((fS a b:Nat):Int)),.vl (.int 0),x']
 | 0,b,a,x,h=>by omega
 | n+1,0,a,x,h=>⟨x,by
  rw[Nat.gcd_zero_right];rfl⟩
 | n+1,b+1,a,x,h=>by
  have e:gdB [.vl (.int (a)),.vl (.int ((b+1:Nat))),x]= .nx [.vl (.int ((b+1:Nat))),.vl (.int ((a % (b+1):Nat))),.vl (.int ((a % (b+1)):Int))]:=by
   have e1:zK 2 (zd jw (vE 0) (vE 1)) [.vl (.int (a)),.vl (.int ((b+1:Nat))),x]= .nx [.vl (.int (a)),.vl (.int ((b+1):Int)),.vl (.int ((a % (b+1):Nat)))]:=by
    rw[zM]
    ·rfl
    ·rw[zt,v0,bOk,v1,bOk,modn (by omega)]
   show zB _ _ _=_;rw[zb e1];rfl
  have hlt:a % (b+1) < n:=by have:=iW a (show b+1 > 0 by omega);omega
  obtain⟨x',hx⟩:=QG n _ _ _ hlt;refine⟨x', ?_⟩;rw[VC (show zE neC (vB 1) (cE (.int 0)) [.vl _,.vl (.int ((b+1:Nat))),x]= .ok _ from z34) e,hx,il _,← Nat.gcd_rec,il]
theorem kG {a b:Nat}(h:b < 2 ^ 9000):z15 [.int (a:Int),.int (b:Int)]= .ok (.int ((fS a b:Nat):Int)):=by
 obtain⟨x',hx⟩:=QG _ b a .un h;show zy (z14 [.vl _,.vl _,.un])=_;unfold z14;rw[zb hx];rfl
theorem z0e (u:Int):z0K (.int u)= .ok (.int (u.natAbs:Int)):=by
 show R.ok _=_;congr 2
 split <;> omega
theorem xw {u:Int}{g:Nat}(h0:1<=g)(h:g < 2 ^ 9000):kY (.int u) (.int (g:Int))= .ok (.int (u / (g:Int))):=by
 show (if _ then _ else _)=_
 rw[if_pos];refine⟨by omega, ?_⟩
 exact(Nat.log2_lt (by omega)).mpr h
theorem z35 (u:Int)(d:Nat)(h:1<=d):(mkRat u d).num=u / ((fS u.natAbs d:Nat):Int)/\(((mkRat u d).den:Nat):Int)=(d:Int) / ((fS u.natAbs d:Nat):Int):=by
 rw[eL,eM,if_neg (by omega),if_neg (by omega),il d]
 exact⟨rfl,Int.natCast_ediv _ _⟩
theorem kH {u:Int}{d:Nat}(h:1<=d):1<=fS u.natAbs d/\fS u.natAbs d<=d:=⟨Nat.gcd_pos_of_pos_right _ h,Nat.gcd_le_right _ h⟩
theorem jE {u:Int}{d:Nat}(h:1<=d)(hd:d < 2 ^ 9000):f_o [.int u,.int (d:Int)]= .ok (frT (mkRat u d)):=by
 obtain⟨g1,g2⟩:=kH h;have hg:=be g2 hd;obtain⟨m1,m2⟩:=z35 u d h;show zy (b_o _ [.vl _,.vl _,.un])=_;unfold b_o;have e1:zK 2 (za 2 z15 (z9 (ap1 z0K (vB 0)) (z9 (vE 1) (zj)))) [.vl (.int u),.vl (.int (d)),.un]= .nx [.vl (.int u),.vl (.int (d)),.vl (.int ((fS u.natAbs d):Int))]:=by
  rw[zM]
  ·rfl
  ·rw[zN,ZS,w0,bOk,z0e,bOk,v1,bOk,kG hd]
 rw[zb e1,zw]
 ·rfl
 ·unfold frT;rw[m1,m2];exact UF (xw g1 hg) (xw g1 hg)
structure Bd (q:Rat) (m:Nat):Prop where
 num:q.num.natAbs<=2 ^ m
 den:q.den<=2 ^ m
theorem Bd.le (h:Bd q m)(hm:m<=n):Bd q n:=⟨aA h.num (bB (by decide) hm),aA h.den (bB (by decide) hm)⟩
theorem Bd.mk' (h:1<=d)(h1:u.natAbs<=2 ^ m)(h2:d<=2 ^ m):Bd (mkRat u d) m:=by
 constructor
 ·rw[eL,if_neg (by omega),Int.natAbs_ediv_of_dvd]
  ·exact aA (iQ _ _) h1
  ·exact Int.natAbs_dvd_natAbs.mp (by simpa using Nat.gcd_dvd_right d _)
 ·rw[eM,if_neg (by omega)]
  exact aA (iQ _ _) h2
theorem xx (q:Rat):1<=q.den:=Nat.pos_of_ne_zero q.den_nz
theorem Bd.mul (h:Bd p m)(k:Bd q n):Bd (p*q) (m+n):=by
 rw[Rat.mul_def'];refine Bd.mk' (cq (xx p) (xx q)) ?_ ?_
 ·rw[fQ,dF];exact bb h.num k.num
 ·rw[dF];exact bb h.den k.den
theorem kI (h:Bd p m)(k:Bd q n):(p.num*(q.den:Int)+q.num*(p.den:Int)).natAbs<=2 ^ (m+n+1):=by
 refine aA (Int.natAbs_add_le _ _) ?_;rw[fQ,fQ,hU,hU];have e1:=bb h.num k.den;have e2:=bb k.num h.den;rw[fq,dF];have e3:2 ^ n*2 ^ m=2 ^ m*2 ^ n:=cu _ _;omega
theorem Bd.add (h:Bd p m)(k:Bd q n):Bd (p+q) (m+n+1):=by
 rw[Rat.add_def'];refine Bd.mk' (cq (xx p) (xx q)) (kI h k) ?_;refine aA (bb h.den k.den) ?_;rw[← dF];exact bB (by decide) (by omega)
theorem lt9 (h:n<=2 ^ m)(hm:m < 9000):n < 2 ^ 9000:=be h (fR (by decide) hm)
theorem ltb (h:n<=2 ^ m)(hm:m < 8000):n < big:=by
 exact be h (fR (by decide) hm)
theorem z36 (h:i.natAbs<=2 ^ m)(k:j.natAbs<=2 ^ n)(hm:m < 8000)(hn:n < 8000):mlT (.int i) (.int j)= .ok (.int (i*j)):=by
 show (if _ then _ else _)=_
 rw[if_pos ⟨ltb h hm,ltb k hn⟩]
theorem nd (d:Nat)(h:d<=2 ^ m):((d:Int)).natAbs<=2 ^ m:=by exact h
theorem ix0 (h:vE i ρ= .ok (.tup [a,b])):zd ixT (vE i) (cE (.int 0)) ρ= .ok a:=by rw[zt,h,bOk,Z1,bOk,at0]
theorem ix1 (h:vE i ρ= .ok (.tup [a,b])):zd ixT (vE i) (cE (.int 1)) ρ= .ok b:=by rw[zt,h,bOk,Z1,bOk,at1]
theorem QH (hf:f ρ= .ok (.int i))(hg:g ρ= .ok (.int j))(h:i.natAbs<=2 ^ m)(k:j.natAbs<=2 ^ n)(hm:m < 8000)(hn:n < 8000):zd mlT f g ρ= .ok (.int (i*j)):=by
 rw[zt,hf,bOk,hg,bOk,z36 h k hm hn]
theorem z37 (hf:f ρ= .ok (.int i))(hg:g ρ= .ok (.int j)):zd zD f g ρ= .ok (.int (i+j)):=by
 rw[zt,hf,bOk,hg,bOk,Z9]
theorem UY (h:Bd p m)(k:Bd q n)(hm:m+n < 8000):f_r [frT p,frT q]= .ok (frT (p*q)):=by
 show zy (b_r _ [.vl _,.vl _])=_;unfold b_r;rw[zw]
 ·rfl
 ·rw[zN];have e0:vE 0 (frz [.vl (frT p),.vl (frT q)])= .ok _:=rfl;have e1:vE 1 (frz [.vl (frT p),.vl (frT q)])= .ok _:=rfl;rw[QH (ix0 e0) (ix0 e1) h.num k.num (by omega) (by omega),bOk,QH (ix1 e0) (ix1 e1) (nd _ h.den) (nd _ k.den) (by omega) (by omega),bOk,← dH,
   jE (cq (xx p) (xx q)) (lt9 (by rw[dF];exact bb h.den k.den) (by omega)),← Rat.mul_def']
theorem kJ (h:Bd p m)(k:Bd q n)(hm:m+n < 8000):z17 [frT p,frT q]= .ok (frT (p+q)):=by
 show zy (z16 _ [.vl _,.vl _])=_;unfold z16;rw[zw]
 ·rfl
 ·rw[zN];have e0:vE 0 (frz [.vl (frT p),.vl (frT q)])= .ok _:=rfl;have e1:vE 1 (frz [.vl (frT p),.vl (frT q)])= .ok _:=rfl;rw[z37 (QH (ix0 e0) (ix1 e1) h.num (nd _ k.den) (by omega) (by omega)) (QH (ix0 e1) (ix1 e0) k.num (nd _ h.den) (by omega) (by omega)),bOk,QH (ix1 e0) (ix1 e1) (nd _ h.den) (nd _ k.den) (by omega) (by omega),bOk,← dH,
   jE (cq (xx p) (xx q)) (lt9 (by rw[dF];exact bb h.den k.den) (by omega)),← Rat.add_def']
noncomputable def VD:List Rat->Rat
 | []=>0
 | q :: r=>q+VD r
abbrev tgB:En->RS:=zK 1 (za 2 z17 (z9 (vE 1) (z9 (vE 2) (zj))))
theorem QJ:∀(qs:List Rat) (p:Rat) (n:Nat) (x:Sl),(∀q∈qs,Bd q m)->Bd p n->n+qs.length*(m+1) < 8000->
  ∃x',ZA (zI 2) tgB (qs.map frT) [s,.vl (frT p),x]= .nx [s,.vl (frT (p+VD qs)),x']
 | [],p,n,x,_,_,_=>⟨x,by rw[VD,Rat.add_zero];rfl⟩
 | q :: r,p,n,x,hq,hp,hl=>by
  rw[am,dD]at hl;have kq:=hq q ab;obtain⟨x',e⟩:=QJ r _ _ _ (λa ha=>hq a (a8 _ ha)) (hp.add kq) (by omega)
  refine⟨x', ?_⟩;rw[aF,jh (setg 2 _ _),e,VD,Rat.add_assoc];show zK 1 _ [s,.vl _,.vl _]=_;rw[zM]
  ·rfl
  ·rw[zN,v1,bOk,show vE 2 _= .ok _ from rfl,bOk,kJ hp kq (by omega)]
theorem bd0:Bd 0 0:=⟨by decide,by decide⟩
theorem bd1:Bd 1 0:=⟨by decide,by decide⟩
theorem uX {qs:List Rat}(h:∀q∈qs,Bd q m)(hl:qs.length*(m+1) < 8000):f_a [.lst (qs.map frT)]= .ok (frT (VD qs)):=by
 show zy (b_a _ [.vl _,.un,.un])=_;unfold b_a;have e1:zK 1 (Zh (z9 (cE (.int 0)) (z9 (cE (.int 1)) (zj)))) [.vl (.lst (qs.map frT)),.un,.un]= .nx [.vl (.lst (qs.map frT)),.vl (frT 0),.un]:=by
  rfl
 obtain⟨x',e⟩:=QJ qs 0 0 .un h bd0 (by omega)
 have e2:j0 (Zx (vE 0)) (zI 2) tgB [.vl (.lst (qs.map frT)),.vl (frT 0),.un]= .nx [.vl (.lst (qs.map frT)),.vl (frT (VD qs)),x']:=by
  rw[Rat.zero_add]at e;exact e
 rw[zb e1,zb e2];rfl
noncomputable def j3:List Rat->Rat
 | []=>1
 | q :: r=>q*j3 r
noncomputable def yN (cs:List (Str×Int)):Int:=(cs.map (·.2)).sum
mutual
noncomputable def Kd.sh:Kd->T->Rat
 | .whole lo hi=>λ_=>mkRat 1 (hi+1 - lo).toNat
 | .pick cs=>λt=>match t with | .str x=>mkRat ((cs.lookup x).getD 0) (yN cs).toNat | _=>0
 | .row ks=>λt=>match t with | .tup xs=>Kd.shs ks xs | _=>0
 | .many k lo hi=>λt=>match t with | .tup xs=>mkRat 1 (hi+1 - lo)*j3 (xs.map k.sh) | _=>0
noncomputable def Kd.shs:List Kd->List T->Rat
 | []=>λ_=>1
 | k :: ks=>λxs=>match xs with | []=>1 | x :: xs=>k.sh x*Kd.shs ks xs
end
theorem QK:∀(ks:List Kd) (xs:List T),Kd.shs ks xs=j3 ((ks.zip xs).map λq=>q.1.sh q.2)
 | [],_=>by simp[Kd.shs,j3]
 | k :: ks,[]=>by simp[Kd.shs,j3]
 | k :: ks,x :: xs=>by simp[Kd.shs,j3,QK ks xs]
theorem QL (k:Kd):∀xs:List T,((ah xs.length k).zip xs).map (λq=>q.1.sh q.2)=xs.map k.sh
 | []=>rfl
 | x :: xs=>by rw[am,bG,d3,aF,aF,QL k xs]
theorem Bd.prod:∀{qs:List Rat},(∀q∈qs,Bd q m)->Bd (j3 qs) (qs.length*m)
 | [],_=>by rw[j3];exact bd1.le (aQ _)
 | q :: r,h=>by
  rw[j3,am,dD,bS,i9];exact(h q ab).mul (Bd.prod λa ha=>h a (a8 _ ha))
theorem QN:∀cs:List (Str×Int),jW (cs.map Js)=some cs
 | []=>rfl
 | c :: cs=>by
  show (match jW (cs.map Js) with | some l=>some ((c.1,c.2) :: l) | none=>none)=_
  rw[QN cs]
theorem Dst.nd (h:Dst ws):ws.Nodup:=by
 rw[List.Nodup,d_];intro i j hi hj hij e;refine h j _ (ae hj) ?_;rw[← e];rw[List.mem_take_iff_getElem];exact⟨i,by omega,rfl⟩
theorem wL:∀(cs:List (Str×Int)) (x:Str),(cs.any λc=>c.1 == x)=true->∃i,cs.lookup x=some i/\(x,i)∈cs
 | [],x,h=>by simp at h
 | c :: cs,x,h=>by
  rw[eD,iL]at h
  by_cases e:c.1=x
  ·refine⟨c.2, ?_, ?_⟩
   ·rw[aw];simp[e]
   ·rw[← e];exact ab
  ·have h:(cs.any λc=>c.1 == x)=true:=h.resolve_left (by simp[e])
   obtain⟨i,h1,h2⟩:=wL cs x h;refine⟨i, ?_,a8 _ h2⟩;rw[aw];have:(x == c.1)=false:=beq_eq_false_iff_ne.mpr (aS e);rw[this];exact h1
theorem xy:∀{cs:List (Str×Int)},(∀c∈cs,1<=c.2/\c.2<=20)->(cs.length:Int)<=yN cs/\yN cs<=20*cs.length
 | [],_=>by simp[yN]
 | c :: cs,h=>by
  have ih:=xy (cs:=cs) λa ha=>h a (a8 _ ha);have h0:=h c ab;have e:yN (c :: cs)=c.2+yN cs:=by simp[yN]
  rw[e,am];omega
theorem xz {cs:List (Str×Int)}(h:(Kd.pick cs).Ok (d+1)):1<=yN cs/\yN cs<=80/\∀c∈cs,1<=c.2/\c.2<=20:=by
 have hb:∀c∈cs,1<=c.2/\c.2<=20:=λc hc=>(h.2.2.1 c hc).2;have:=xy hb;have h1:=h.1;have h2:=h.2.1;exact⟨by omega,by omega,hb⟩
theorem QO (cs:List (Str×Int))(x:Str):(Kd.pick cs).sh (.str x)=mkRat ((cs.lookup x).getD 0) (yN cs).toNat:=by rw[Kd.sh]
theorem z0f {cs:List (Str×Int)}(hd:Dst (cs.map (·.1)))(h:cs.lookup x=some i):qd (.tup (cs.map Js)) (.str x)= .ok (.int i):=by
 unfold qd;dsimp only;rw[QN];dsimp only;rw[if_pos hd.nd,h]
theorem kK {cs:List (Str×Int)}(hd:Dst (cs.map (·.1))):WO (.tup (cs.map Js))= .ok (.int (yN cs)):=by
 unfold WO;dsimp only;rw[QN];dsimp only;rw[if_pos hd.nd];rfl
theorem VE {cs:List (Str×Int)}(h:(Kd.pick cs).Ok (d+1))(hx:cs.lookup x=some i):z19 [(Kd.pick cs).t,.str x]= .ok (frT ((Kd.pick cs).sh (.str x))):=by
 obtain⟨w1',w2',_⟩:=xz h;show zy (z18 f_o [.vl (Kd.pick cs).t,.vl (.str x),.un])=_;unfold z18;have e1:zd ixT (vE 0) (cE (.int 1)) [.vl (Kd.pick cs).t,.vl (.str x),.un]= .ok (.tup (cs.map Js)):=by rw[Kd.t];exact Jv
 have en:yN cs=(((yN cs).toNat:Nat):Int):=by omega
 show zy ((R.bind _ _).s _)=_;rw[e1,bOk,v1,bOk,z0f h.2.2.2 hx,bOk,kK h.2.2.2,bOk,en,jE (by omega) (lt9 (m:=7) (by omega) (by decide)),ZQ,QO,hx]
 rfl
abbrev spB (c:List T->R T):En->RS:=zK 2 (za 2 f_r (z9 (vE 2) (z9 (za 2 c (z9 (vE 3) (z9 (vE 4) (zj)))) (zj))))
theorem QP:∀(qs:List (Kd×T)) (p:Rat) (n:Nat) (x y:Sl),(∀q∈qs,c [q.1.t,q.2]= .ok (frT (q.1.sh q.2))/\Bd (q.1.sh q.2) m)->Bd p n->n+qs.length*m < 8000->
  ∃x' y',ZA (Zq 3 4) (spB c) (qs.map λq=>T.tup [q.1.t,q.2]) [s,t,.vl (frT p),x,y]= .nx [s,t,.vl (frT (p*j3 (qs.map λq=>q.1.sh q.2))),x',y']
 | [],p,n,x,y,_,_,_=>⟨x,y,by simp only[cy,j3,Rat.mul_one];rfl⟩
 | q :: r,p,n,x,y,h,hp,hl=>by
  rw[am,dD]at hl;obtain⟨k1,k2⟩:=h q ab;obtain⟨x',y',e⟩:=QP r (p*q.1.sh q.2) (n+m) (.vl q.1.t) (.vl q.2) (λa ha=>h a (a8 _ ha)) (hp.mul k2) (by omega)
  refine⟨x',y', ?_⟩;rw[aF,aF,jh (ρ1:=[s,t,.vl (frT p),.vl q.1.t,.vl q.2]) (ρ2:=[s,t,.vl (frT (p*q.1.sh q.2)),.vl q.1.t,.vl q.2]) rfl,e,j3,Rat.mul_assoc];show zK 2 _ [s,t,.vl (frT p),.vl q.1.t,.vl q.2]=_;rw[zM (t:=frT (p*q.1.sh q.2))]
  ·rfl
  ·rw[zN,show vE 2 [s,t,.vl (frT p),.vl q.1.t,.vl q.2]= .ok (frT p) from rfl,bOk,zN,show vE 3 [s,t,.vl (frT p),.vl q.1.t,.vl q.2]= .ok q.1.t from rfl,bOk,show vE 4 [s,t,.vl (frT p),.vl q.1.t,.vl q.2]= .ok q.2 from rfl,bOk,k1,bOk,UY hp k2 (by omega)]
theorem ui (ks:List Kd)(xs:List T)(hs:JO s= .ok (ks.map Kd.t))(hl:ks.length<=3)(hm:m<=1000)(H:∀q∈ks.zip xs,c [q.1.t,q.2]= .ok (frT (q.1.sh q.2))/\Bd (q.1.sh q.2) m):
  zy (GM f_r c (en0 5 [s,.tup xs]))= .ok (frT (j3 ((ks.zip xs).map λq=>q.1.sh q.2))):=by
 have e:en0 5 [s,.tup xs]=[.vl s,.vl (.tup xs),.un,.un,.un]:=rfl;have hz:(ks.zip xs).length*m < 8000:=by
  have h1:(ks.zip xs).length<=3:=by rw[fy];omega
  have:=bb h1 hm;omega
 obtain⟨x',y',el⟩:=QP (c:=c) (s:= .vl s) (t:= .vl (.tup xs)) (ks.zip xs) 1 0 .un .un H bd1 (by omega)
 have e1:zK 2 (Zh (z9 (cE (.int 1)) (z9 (cE (.int 1)) (zj)))) [.vl s,.vl (.tup xs),.un,.un,.un]= .nx [.vl s,.vl (.tup xs),.vl (frT 1),.un,.un]:=by
  rw[zM (UF rfl rfl)];rfl
 have ez:kX (vE 0) (vE 1) [.vl s,.vl (.tup xs),.vl (frT 1),.un,.un]= .ok ((ks.zip xs).map λq=>T.tup [q.1.t,q.2]):=by
  show (JO s).bind _=_;rw[hs,bOk,← z2Z];rfl
 have e2:j0 (kX (vE 0) (vE 1)) (Zq 3 4) (spB c) [.vl s,.vl (.tup xs),.vl (frT 1),.un,.un]= .nx [.vl s,.vl (.tup xs),.vl (frT (j3 ((ks.zip xs).map λq=>q.1.sh q.2))),x',y']:=by
  unfold j0;rw[ez,ZQ,el,Rat.one_mul]
 rw[e,GM,zb e1,zb e2];rfl
noncomputable def sb:Nat->Nat
 | 0=>0
 | d+1=>7+3*sb d
theorem z1i (d:Nat):sb (d+1)=7+3*sb d:=rfl
abbrev QR (a b:T):En:=[.vl a,.vl b,.un]
theorem K7 (h:(x == w)=false):ifS (zE eqC (zd ixT (vE 0) (cE (.int 0))) (cE (.str w))) f nxS (QR (.tup (.str x :: r)) b)= .nx (QR (.tup (.str x :: r)) b):=
 zx (by rw[show zE eqC (zd ixT (vE 0) (cE (.int 0))) (cE (.str w)) (QR (.tup (.str x :: r)) b)= .ok (x == w) from cs0,h])
theorem z38:ifS (zE eqC (zd ixT (vE 0) (cE (.int 0))) (cE (.str x))) f nxS (QR (.tup (.str x :: r)) b)=f (QR (.tup (.str x :: r)) b):=
 J4 (by rw[show zE eqC (zd ixT (vE 0) (cE (.int 0))) (cE (.str x)) (QR (.tup (.str x :: r)) b)= .ok (x == x) from cs0,beq_self_eq_true])
theorem UZ:∀(d n:Nat),2*d<=n->d<=3->∀(k:Kd) (x:T),k.Ok d->k.has x=true->S_b n 0 [k.t,x]= .ok (frT (k.sh x))/\Bd (k.sh x) (sb d)
 | 0,_,_,_,_,_,h,_=>h.elim
 | d+1,n+2,hn,hd3,k,x,h,hx=>by
  have ih:=UZ d n (by omega) (by omega)
  have hsb:sb d<=1000:=by
   have h2:d<=2:=by omega
   rcases(show d=0\/d=1\/d=2 by omega) with rfl | rfl | rfl <;> decide
  have e:S_b (n+2) 0 [k.t,x]=zy (b_b (f_1 20) f_r z19 (S_b (n+1) 1) (QR k.t x)):=by rw[S_b];rfl
  have e1:∀s y,S_b (n+1) 1 [s,y]=zy (GM f_r (S_b n 0) (en0 5 [s,y])):=λs y=>by rw[S_b];intro h;cases h
  rw[e];cases k with
  | whole lo hi=>
   obtain⟨a1,a2,a3⟩:=h;have hc:=jm (d:=1) (by omega) (UK d lo hi ⟨a1,a2,a3⟩)
   rw[jg]at hc;constructor
   ·rw[show (Kd.whole lo hi).t= .tup [.str "whole",.int lo,.int hi] from by rw[Kd.t]]at hc ⊢
    rw[b_b,zH (t:=frT (mkRat 1 (hi+1 - lo).toNat)),Kd.sh]
    ·rfl
    ·rw[z38,zw (t:=frT (mkRat 1 (hi+1 - lo).toNat))];show Zh _ (QR _ x)=_;have ez:frT (mkRat 1 (hi+1 - lo).toNat)= .tup [.int 1,.int (((hi+1 - lo).toNat:Nat):Int)]:=by
      unfold frT;rw[eL,eM,if_neg (by omega),if_neg (by omega),show (1:Int).natAbs=1 from rfl,im,Nat.div_one]
      rfl
     rw[ez];exact UF rfl (by rw[zV,v0,bOk,hc])
   ·rw[Kd.sh];refine(Bd.mk' (m:=7) (by omega) (by decide) (by omega)).le ?_
    rw[z1i];omega
  | pick cs=>
   cases x with
   | str y=>
    have hx' :(cs.any λc=>c.1 == y)=true:=by rw[Kd.has]at hx;exact hx
    obtain⟨i,hi,hm⟩:=wL cs y hx';obtain⟨w1',w2',w3'⟩:=xz h;have hw:=w3' _ hm;constructor
    ·have hs:=VE h hi;rw[show (Kd.pick cs).t= .tup [.str "pick",.tup (cs.map Js)] from by rw[Kd.t]]at hs ⊢
     rw[b_b,zb (K7 (by decide)),zH (t:=frT ((Kd.pick cs).sh (.str y)))]
     ·rfl
     ·rw[z38,zw (t:=frT ((Kd.pick cs).sh (.str y)))];show za 2 _ _ (QR _ _)=_;rw[zN,v0,bOk,v1,bOk,hs]
    ·rw[QO,hi];refine(Bd.mk' (m:=7) (by omega) ?_ (by omega)).le ?_
     ·show i.natAbs<=128;omega
     ·rw[z1i];omega
   | _=>rw[Kd.has]at hx;cases hx
  | row ks=>
   cases x with
   | tup xs=>
    have hx' :(xs.length == ks.length && Kd.hass ks xs)=true:=by rw[Kd.has]at hx;exact hx
    rw[ag,beq_iff_eq,UL,aR]at hx';have H:∀q∈ks.zip xs,S_b n 0 [q.1.t,q.2]= .ok (frT (q.1.sh q.2))/\Bd (q.1.sh q.2) (sb d):=λq hq=>ih q.1 q.2 (h.2.2 q.1 (cY hq).1) (hx'.2 q hq);have hp:=ui (s:= .tup (ks.map Kd.t)) ks xs rfl h.2.1 hsb H;have es:(Kd.row ks).sh (.tup xs)=j3 ((ks.zip xs).map λq=>q.1.sh q.2):=by rw[Kd.sh,← QK]
    rw[es];constructor
    ·rw[show (Kd.row ks).t= .tup [.str "row",.tup (ks.map Kd.t)] from by rw[Kd.t,Kd.ts_map]]
     rw[b_b,zb (K7 (by decide)),zb (K7 (by decide)),zH (t:=frT (j3 ((ks.zip xs).map λq=>q.1.sh q.2)))]
     ·rfl
     ·rw[z38,zw (t:=frT (j3 ((ks.zip xs).map λq=>q.1.sh q.2)))];show za 2 _ _ (QR _ _)=_;rw[zN,Jv,bOk,v1,bOk,e1,hp]
    ·have hb:=Bd.prod (qs:=(ks.zip xs).map λq=>q.1.sh q.2) (m:=sb d) (λq hq=>by
      obtain⟨a,ha,rfl⟩:=aI.mp hq;exact(H a ha).2)
     refine hb.le ?_;have h3:=h.2.1;have hz:((ks.zip xs).map λq=>q.1.sh q.2).length<=3:=by rw[ac,fy];omega
     have:=dE (sb d) hz;rw[z1i];omega
   | _=>rw[Kd.has]at hx;cases hx
  | many k lo hi=>
   cases x with
   | tup xs=>
    have hx' :(decide (lo<=xs.length) && decide (xs.length<=hi) && xs.all k.has)=true:=by rw[Kd.has]at hx;exact hx
    rw[ag,ag,decide_eq_true_eq,decide_eq_true_eq,aR]at hx';obtain⟨⟨l1,l2⟩,hx'⟩:=hx';have h1:=h.1;have h3:=h.2.1;have hx3:xs.length<=3:=by omega
    have H:∀q∈(ah xs.length k).zip xs,S_b n 0 [q.1.t,q.2]= .ok (frT (q.1.sh q.2))/\Bd (q.1.sh q.2) (sb d):=λq hq=>by
     have:=cY hq;have e:=bK this.1;refine ih q.1 q.2 ?_ ?_
     ·rw[e];exact h.2.2
     ·rw[e];exact hx' q.2 this.2
    have hp:=ui (s:= .lst ((ah xs.length k).map Kd.t)) (ah xs.length k) xs rfl (by rw[aP];exact hx3) hsb H
    rw[QL]at hp;have es:(Kd.many k lo hi).sh (.tup xs)=mkRat 1 (hi+1 - lo)*j3 (xs.map k.sh):=by rw[Kd.sh]
    have hb:=Bd.prod (qs:=xs.map k.sh) (m:=sb d) (λq hq=>by
      rw[← QL]at hq;obtain⟨a,ha,rfl⟩:=aI.mp hq;exact(H a ha).2)
    rw[ac]at hb;have hb0:Bd (mkRat 1 (hi+1 - lo)) 2:=Bd.mk' (by omega) (by decide) (by show hi+1 - lo<=4;omega)
    have hz:=dE (sb d) hx3;rw[es];constructor
    ·rw[show (Kd.many k lo hi).t= .tup [.str "many",k.t,.int (lo:Int),.int (hi:Int)] from by rw[Kd.t]]
     have em:zd Za (j7 (z9 (zd ixT (vE 0) (cE (.int 1))) (zj))) (ap1 Zj (vB 1)) [.vl (.tup [.str "many",k.t,.int (lo:Int),.int (hi:Int)]),.vl (.tup xs),.vl (frT (mkRat 1 (hi+1 - lo)))]= .ok (.lst ((ah xs.length k).map Kd.t)):=by
      rw[zt,z1g Jv,bOk,ZS,w1,bOk,WV,bOk,UI hx3,jP,b6]
     have ez:frT (mkRat 1 (hi+1 - lo))= .tup [.int 1,.int ((hi:Int) - (lo:Int)+1)]:=by
      unfold frT;rw[eL,eM,if_neg (by omega),if_neg (by omega),show (1:Int).natAbs=1 from rfl,im,Nat.div_one,show ((hi+1 - lo:Nat):Int)=(hi:Int) - (lo:Int)+1 by omega]
      rfl
     have eq:zK 2 (Zh (z9 (cE (.int 1)) (z9 (zd zD (zd jv (zd ixT (vE 0) (cE (.int 3))) (zd ixT (vE 0) (cE (.int 2)))) (cE (.int 1))) (zj)))) (QR (.tup [.str "many",k.t,.int (lo:Int),.int (hi:Int)]) (.tup xs))= .nx [.vl (.tup [.str "many",k.t,.int (lo:Int),.int (hi:Int)]),.vl (.tup xs),.vl (frT (mkRat 1 (hi+1 - lo)))]:=by
      rw[ez,zM (UF rfl (y:= .int ((hi:Int) - (lo:Int)+1)) (yI (by rw[zt,K5,bOk,ut,bOk,Zi])))]
      rfl
     rw[b_b,zb (K7 (by decide)),zb (K7 (by decide)),zb (K7 (by decide)),zb eq,zw (t:=frT (mkRat 1 (hi+1 - lo)*j3 (xs.map k.sh)))]
     ·rfl
     ·show za 2 _ _ [.vl (.tup [.str "many",k.t,.int (lo:Int),.int (hi:Int)]),.vl (.tup xs),.vl (frT (mkRat 1 (hi+1 - lo)))]=_;rw[zN,show vE 2 [.vl (.tup [.str "many",k.t,.int (lo:Int),.int (hi:Int)]),.vl (.tup xs),.vl (frT (mkRat 1 (hi+1 - lo)))]= .ok (frT (mkRat 1 (hi+1 - lo))) from rfl,bOk,zN,em,bOk,v1,bOk,e1,hp,bOk,UY hb0 hb (by omega)]
    ·refine(hb0.mul hb).le ?_;rw[z1i];omega
   | _=>rw[Kd.has]at hx;cases hx
theorem jF:zy (zG f ρ)=f (frz ρ):=by rw[Zf,Jg]
theorem kL {k:Kd}(hk:k.Ok 3):z2M [k.t]= .ok .non:=by
 have hi:=Qd 3 k hk;show zy (z0X _ [.vl k.t])=_;rw[z0X,zx]
 ·rfl
 ·rw[UC,Jh,zV,v0,bOk,yF _ (W9 3 _ hi).so,hi];rfl
theorem j4 {k:Kd}(hk:k.Ok 3)(h5:k.all.length<=500):f_l [k.t]= .ok (.lst k.all):=by
 show zy (b_l _ _ _ [.vl k.t,.un])=_;have e1:zK 1 (za 1 (f_1 20) (z9 (vE 0) (zj))) [.vl k.t,.un]= .nx (en2 k.t (.int (k.all.length))):=by
  rw[zM]
  ·rfl
  ·rw[zV,v0,bOk,jm (by omega) hk]
 have e2:zE gtC (vB 1) (cE (.int 500)) (en2 k.t (.int (k.all.length)))= .ok false:=by
  rw[zJ,w1,bOk,Z1,bOk,kC,decide_eq_false (by omega)]
 have er:Zv (vE 1) (en2 k.t (.int (k.all.length)))= .ok (rng 0 k.all.length):=by
  rw[uW rfl ⟨by omega,by omega⟩,bm]
 have ec:zC _ _ (za 2 (f_d 20) (z9 (vE 1) (z9 (vE 0) _))) 1 [0] (en2 k.t (.int (k.all.length))) (rng 0 k.all.length)= .ok ((rng 0 _).map λt=>match t with | .int i=>(k.all[i.toNat]?).getD .non | y=>y):=
  Z3 _ (by unfold rng;rw[ac,bA];have:bnd=16777216:=rfl;omega) λt ht=>by
   obtain⟨i,hi,rfl⟩:=aI.mp ht;obtain⟨x,hx⟩:=ub (bf.mp hi);show za 2 _ _ (en2 _ k.t)=R.ok ((k.all[((0:Int)+(i)).toNat]?).getD _);rw[show ((0:Int)+(i))=(i) by omega,zN,v1,bOk,v0,bOk,z06 hk hx,bm,hx]
   rfl
 have e3:z0J (Zv (vE 1)) (zI 0) (Zg) (za 2 (f_d 20) (z9 (vE 1) (z9 (vE 0) (zj)))) 1 [0] (en2 k.t (.int (k.all.length)))= .rf k.all:=by
  show ((Zv _ (en2 k.t _)).s λts=>(zC _ _ _ _ _ (en2 k.t _) ts).s λvs=>RS.rf vs)=_;rw[er,ZQ,ec];exact congrArg _ (all_map k)
 rw[b_l,zb (wc (by rw[zV,v0,bOk,kL hk])),zb e1,zb (zx e2),e3]
 rfl
theorem jj (h:ZV 3 r):f_5 [r.t]= .ok .non:=by
 show zy (b_5 _ [.vl r.t])=_;rw[b_5,zx]
 ·rfl
 ·have e:f_8 [r.t]= .ok (.bl true):=by
   show zy (zG _ _)=_;rw[zw]
   ·rfl
   ·exact J8 8 3 (by omega) r h
  rw[UC,Jh,zV,v0,bOk,e];rfl
noncomputable abbrev sv (t:T)(rs ds us:List T):List (Str×Fd):=[("kind",.tv t),("remaining",.tl rs),("done",.tl ds),("undone",.tl us)]
noncomputable abbrev Rem (fs:List (Str×Fd))(rs:List T):Prop:=fs.lookup ("remaining":Str)=some (.tl rs)
theorem QS:atT (rs++[w]) (-1)= .ok w:=by
 have:atI (rs++[w]) (-1)=some w:=by
  unfold atI ixN;have hl:(rs++[w]).length=rs.length+1:=by simp
  rw[if_neg (by decide),if_pos (by omega),hl,show ((-1:Int)+((rs.length+1:Nat))).toNat=rs.length by omega]
  show (rs++[w])[rs.length]? =some w;rw[av (aj _),cN];rfl
 unfold atT;rw[this]
theorem ix_l {j:Nat}{fs:List (Str×Fd)}{w:T}{rs:List T}{ρ:En}{os:List Ob}(h:obD 101 0 j ρ=some (0,fs,os))(hl:Rem fs (rs++[w])):ixF 101 0 j "remaining" (uC (cE (.int 1))) ρ= .ok w:=by
 unfold ixF;rw[h];dsimp only;rw[show fs.lookup _=_ from hl];exact QS
abbrev oo (fs:List (Str×Fd)):En:=[.oc 101 fs,.un]
theorem z39 (hl:Rem fs (rs++[w])):ixV 101 0 1 "remaining" (uC (cE (.int 1))) (oo fs)= .ok w:=by
 have:lsV 101 0 1 "remaining" (oo fs)=some (rs++[w]):=by
  show (match fs.lookup _ with | some (.tl ts)=>some ts | _=>none)=_
  rw[show fs.lookup _=_ from hl]
 unfold ixV;rw[this];exact QS
theorem uj (hl:Rem fs (rs++[.lst ws])):f_y fs []= .ok (.lst ws):=by
 show zy (zG _ _)=_;rw[jF];show ap1 _ _ (oo fs)=_;rw[ZS,z39 hl];rfl
theorem wf (hl:Rem fs (rs++[.lst ws])):f_g fs []= .ok (.int (ws.length:Int)):=by
 show zy (zG _ _)=_;rw[jF];show ap1 _ _ (oo fs)=_;rw[ZS,z39 hl];rfl
theorem uk {g:List (Str×Fd)->List T->R T}(h:obL k i j ρ=some fs)(hg:g fs []=r):jr k i j 0 g zj ρ=r:=by
 unfold jr;rw[h];exact hg
theorem kM {k:Kd}(hk:k.Ok 3)(h5:k.all.length<=500):kd [] [k.t]= .ok (.non,sv k.t [.lst k.all] [] []):=by
 have e:z9 (za 1 f_l (z9 (vE 1) zj)) zj [.ob 101 0,.vl k.t,.st [(101,[("kind",.tv k.t)])]]= .ok [.lst k.all]:=by
  show ((za 1 _ _) _).bind _=_;rw[zV,v1,bOk,j4 hk h5];rfl
 have e2:Vg 101 0 2 "remaining" (z9 (za 1 f_l (z9 (vE 1) zj)) zj) [.ob 101 0,.vl k.t,.st [(101,[("kind",.tv k.t)])]]= .nx [.ob 101 0,.vl k.t,.st [(101,[("kind",.tv k.t),("remaining",.tl [.lst k.all])])]]:=by
  unfold Vg;rw[e];rfl
 show uM 101 2 (match Vg 101 0 2 _ _ [.ob 101 0,.vl k.t,.st [(101,[("kind",.tv k.t)])]] with
  | .nx ρ' =>_
  | .ex c=> .ex c
  | _=> .bad)=_
 rw[e2];rfl
def ZO (b:Bool)(r:Ru)(ws:List T):List T:=ws.filter λx=>kp r x == b
noncomputable def dw (b:Bool):Str:=if b then "keep" else "bar"
def stp (b:Bool)(r:Ru):T:= .tup [.str (dw b),r.t]
theorem kw (b:Bool):eqC (.str (dw b)) (.str "keep")= .ok b:=by cases b <;> rfl
theorem z3a (a b:Bool):eqC (.bl a) (.bl b)= .ok (a == b):=by cases a <;> cases b <;> rfl
theorem stp0 (h:vE i ρ= .ok (stp b r)):zd ixT (vE i) (cE (.int 0)) ρ= .ok (.str (dw b)):=ix0 h
theorem stp1 (h:vE i ρ= .ok (stp b r)):zd ixT (vE i) (cE (.int 1)) ρ= .ok r.t:=ix1 h
theorem yO (hr:ZV 3 r)(hw:∀x∈ws,W 2 x)(hl:ws.length<=bnd):GL [stp b r,.lst ws]= .ok (.lst (ZO b r ws)):=by
 show zy (z13 _ [.vl _,.vl _,.un])=_;have e1:zK 2 (ZR eqC (zd ixT (vE 0) (cE (.int 0))) (cE (.str "keep"))) [.vl (stp b r),.vl (.lst ws),.un]= .nx [.vl (stp b r),.vl (.lst ws),.vl (.bl b)]:=by
  rw[zM]
  ·rfl
  ·rw[Zl,stp0 rfl,bOk,Z1,bOk,kw,bOk]
 have ec:zC _ (zE eqC (za 2 (f_6 8) (z9 (zd ixT (vE 1) _) (z9 (vE 0) _))) (vB 2)) (vE 0) 1 [0,2] [.vl (stp b r),.vl (.lst ws),.vl (.bl b)] ws= .ok (ZO b r ws):=
  Ze _ hl λt ht=>⟨by
   show zE eqC _ _ [.vl t,.vl _,.vl _]=_;rw[zJ,zN,stp1 rfl,bOk,v0,bOk,Ja (hw t ht) hr];exact z3a _ _,rfl⟩
 rw[z13,zb e1,zw]
 ·rfl
 ·show zU _ _ _ _ _ _ [.vl _,.vl _,.vl _]=_;show ((zC _ _ _ _ _ _ ws).bind _)=_;rw[ec,bOk]
theorem z0g {k i j n:Nat}{f:Str}{fa:En->R T}{ρ:En}{fs:List (Str×Fd)}{os:List Ob}{ts:List T}{t:T}(h:obD k i j ρ=some (n,fs,os))(hl:fs.lookup f=some (.tl ts))(hf:fa ρ= .ok t)(hb:ts.length < bnd):kZ k i j f fa ρ= .nx (ρ.set j (.st (os.set n (k,Uw f (.tl (ts++[t])) fs)))):=by
 unfold kZ;rw[h];dsimp only;rw[hl];dsimp only;rw[hf,ZQ,if_pos hb]
theorem QT {k i j n nn:Nat}{m:Str}{g:List (Str×Fd)->List T->R (T×List (Str×Fd))}{ga:En->R (List T)}{ρ:En}{fs fs' :List (Str×Fd)}{os:List Ob}{ts:List T}{t:T}(h:obD k i j ρ=some (n,fs,os))(hm:fs.lookup m=none)(ha:ga ρ= .ok ts)(hn:ts.length=nn)(hg:g fs ts= .ok (t,fs')):wp k i j m nn g ga ρ= .ok (t,ρ.set j (.st (os.set n (k,fs')))):=by
 unfold wp;rw[h];dsimp only;rw[hm,ha,bOk,if_pos hn,hg];rfl
theorem uY (m:Str)(h:(m == ("kind":Str) || (m == ("remaining":Str) || (m == ("done":Str) || m == ("undone":Str))))=false):(sv t rs ds us).lookup m=none:=by
 simp only[fP]at h;obtain⟨a,b,c,d⟩:=h;simp only[sv,aw,a,b,c,d];rfl
theorem jp (h:f ρ= .nx ρ'):jA f g ρ=g ρ' :=by unfold jA;rw[h]
theorem yP (hf:f ρ= .ok x):z9 f zj ρ= .ok [x]:=by
 show ((f ρ).bind λt=>(R.ok []).bind λts=>R.ok _)=_;rw[hf];rfl
theorem kN:z9 (Zh (z9 (vE 1) (z9 (vE 2) zj))) zj [a,.vl (.str (dw b)),.vl r.t,c,s]= .ok [stp b r]:=rfl
theorem z0h:z9 (cE (.str "keep")) (z9 (vE 1) zj) [a,.vl y,c]= .ok [.str (dw true),y]:=by
 rfl
theorem z3b:z9 (cE (.str "bar")) (z9 (vE 1) zj) [a,.vl y,c]= .ok [.str (dw false),y]:=by
 rfl
theorem ob2 (fs:List (Str×Fd)):obD 101 0 2 [.ob 101 0,a,.st [(101,fs)]]=some (0,fs,[(101,fs)]):=rfl
theorem ob4 (fs:List (Str×Fd)):obD 101 0 4 [.ob 101 0,a,b,c,.st [(101,fs)]]=some (0,fs,[(101,fs)]):=rfl
theorem z3c (fs:List (Str×Fd))(x:T):f_x fs [x]=uM 101 2 (b_x GL [.ob 101 0,.vl x,.st [(101,fs)]]):=rfl
theorem z0i (fs:List (Str×Fd))(x y:T):f_s fs [x,y]=uM 101 4 (b_s f_5 f_g f_x [.ob 101 0,.vl x,.vl y,.un,.st [(101,fs)]]):=rfl
theorem kO (fs:List (Str×Fd))(x:T):K2 fs [x]=uM 101 2 (wp 101 0 2 "new_step" 2 f_s (z9 (cE (.str "keep")) (z9 (vE 1) zj)) [.ob 101 0,.vl x,.st [(101,fs)]]):=rfl
theorem z0j (fs:List (Str×Fd))(x:T):K3 fs [x]=uM 101 2 (wp 101 0 2 "new_step" 2 f_s (z9 (cE (.str "bar")) (z9 (vE 1) zj)) [.ob 101 0,.vl x,.st [(101,fs)]]):=rfl
theorem out2 (fs:List (Str×Fd))(x t:T):uM 101 2 (.ok (t,[.ob 101 0,.vl x,.st [(101,fs)]]))= .ok (t,fs):=rfl
section
variable {k:Kd}{t:T}{rs ds us ws:List T}{b:Bool}{r:Ru}
abbrev sv' (t:T)(rs ds us ws:List T)(b:Bool)(r:Ru):List (Str×Fd):=sv t ((rs++[.lst ws])++[.lst (ZO b r ws)]) (ds++[stp b r]) us
theorem z3d (hr:ZV 3 r)(hw:∀x∈ws,W 2 x)(hl:ws.length<=1000)(h1:rs.length<=1000)(h2:ds.length<=1000):f_x (sv t (rs++[.lst ws]) ds us) [stp b r]= .ok (.non,sv' t rs ds us ws b r):=by
 have hb:bnd=16777216:=rfl;rw[z3c];have e1:=z0g (k:=101) (i:=0) (j:=2) (f:="remaining") (fa:=za 2 GL (z9 (vE 1) (z9 (ixF 101 0 2 _ _) _))) (ρ:=[.ob 101 0,.vl (stp b r),.st [(101,sv t (rs++[.lst ws]) ds us)]]) rfl rfl
  (by rw[zN,v1,bOk,ix_l rfl rfl,bOk,yO hr hw (by omega)]) (by rw[az,aK];omega)
 have e2:=z0g (k:=101) (i:=0) (j:=2) (f:="done") (fa:=vE 1) (ρ:=[.ob 101 0,.vl (stp b r),.st [(101,sv t ((rs++[.lst ws])++[.lst (ZO b r ws)]) ds us)]]) rfl rfl rfl (by omega)
 unfold b_x;rw[jp e1];show uM 101 2 (jA _ _ [.ob 101 0,.vl _,.st [(101,sv t _ ds us)]])=_;rw[jp e2];rfl
theorem xA (hr:ZV 3 r)(hw:∀x∈ws,W 2 x)(hl:ws.length<=1000)(h1:rs.length<=1000)(h2:ds.length<=1000):f_s (sv t (rs++[.lst ws]) ds us) [.str (dw b),r.t]= .ok (.int ((ws.length:Int) - ((ZO b r ws).length:Int)),sv' t rs ds [] ws b r):=by
 rw[z0i];have e1:JK (za 1 f_5 (z9 (vE 2) zj)) [.ob 101 0,.vl (.str (dw b)),.vl r.t,.un,.st [(101,sv t (rs++[.lst ws]) ds us)]]= .nx _:=wc (t:= .non) (by rw[zV];exact jj hr)
 have e2:zK 3 (jr 101 0 4 0 f_g zj) [.ob 101 0,.vl (.str (dw b)),.vl r.t,.un,.st [(101,sv t (rs++[.lst ws]) ds us)]]= .nx [.ob 101 0,.vl (.str (dw b)),.vl r.t,.vl (.int (ws.length:Int)),.st [(101,sv t (rs++[.lst ws]) ds us)]]:=by
  rw[zM]
  ·rfl
  ·exact uk rfl (wf (rs:=rs) rfl)
 have d0:=z3d (t:=t) (rs:=rs) (ds:=ds) (ws:=ws) (b:=b) (us:=us) hr hw hl h1 h2;have m1:(sv t (rs++[.lst ws]) ds us).lookup ("do_step":Str)=none:=uY _ (by decide+kernel)
 have m:=QT (nn:=1) (ob4 (b:= .vl r.t) (c:= .vl (.int (ws.length:Int))) _) m1 kN rfl d0;have e3:drM (wp 101 0 4 "do_step" 1 f_x (z9 (Zh (z9 (vE 1) (z9 (vE 2) (zj)))) (zj))) [.ob 101 0,.vl (.str (dw b)),.vl r.t,.vl (.int (ws.length:Int)),.st [(101,sv t (rs++[.lst ws]) ds us)]]= .nx [.ob 101 0,.vl (.str (dw b)),.vl r.t,.vl (.int (ws.length:Int)),.st [(101,sv' t rs ds us ws b r)]]:=by
  unfold drM;rw[m];rfl
 have e4:Vg 101 0 4 "undone" zj [.ob 101 0,.vl (.str (dw b)),.vl r.t,.vl (.int (ws.length)),.st [(101,sv' t rs ds us ws b r)]]= .nx [.ob 101 0,.vl (.str (dw b)),.vl r.t,.vl (.int (ws.length)),.st [(101,sv' t rs ds [] ws b r)]]:=by
  rfl
 unfold b_s;rw[jp e1,jp e2,jp e3,jp e4];unfold qB;rw[zt,uk rfl (wf rfl)];rfl
theorem QU (hr:ZV 3 r)(hw:∀x∈ws,W 2 x)(hl:ws.length<=1000)(h1:rs.length<=1000)(h2:ds.length<=1000):K2 (sv t (rs++[.lst ws]) ds us) [r.t]= .ok (.int ((ws.length:Int) - ((ZO true r ws).length:Int)),sv' t rs ds [] ws true r):=by
 have d0:=xA (t:=t) (rs:=rs) (ds:=ds) (ws:=ws) (b:=true) (us:=us) hr hw hl h1 h2;have m1:(sv t (rs++[.lst ws]) ds us).lookup ("new_step":Str)=none:=uY _ (by decide+kernel)
 rw[kO,QT (nn:=2) (ob2 _) m1 z0h rfl d0];exact out2 _ _ _
theorem xB (hr:ZV 3 r)(hw:∀x∈ws,W 2 x)(hl:ws.length<=1000)(h1:rs.length<=1000)(h2:ds.length<=1000):K3 (sv t (rs++[.lst ws]) ds us) [r.t]= .ok (.int ((ws.length:Int) - ((ZO false r ws).length:Int)),sv' t rs ds [] ws false r):=by
 have d0:=xA (t:=t) (rs:=rs) (ds:=ds) (ws:=ws) (b:=false) (us:=us) hr hw hl h1 h2;have m1:(sv t (rs++[.lst ws]) ds us).lookup ("new_step":Str)=none:=uY _ (by decide+kernel)
 rw[z0j,QT (nn:=2) (ob2 _) m1 z3b rfl d0];exact out2 _ _ _
end
theorem z0k {k:Kd}(hk:k.Ok 3){x:T}(hx:k.has x=true):f_b 20 [k.t,x]= .ok (frT (k.sh x))/\Bd (k.sh x) 91:=UZ 3 20 (by omega) (by omega) k x hk hx
theorem z0l {k:Kd}(hk:k.Ok 3){ws:List T}(hw:∀x∈ws,k.has x=true)(hl:ws.length<=60):f_v [k.t,.lst ws]= .ok (frT (VD (ws.map k.sh))):=by
 show zy _=_;have ec:zC _ _ (za 2 (f_b 20) (z9 (vE 1) (z9 (vE 0) _))) 1 [0] (en2 k.t (.lst ws)) ws= .ok (ws.map λx=>frT _):=
  Z3 _ (aA hl (by decide)) λt ht=>by
   show za 2 _ _ (en2 t k.t)=_;rw[zN,v1,bOk,v0,bOk,(z0k hk (hw t ht)).1]
 unfold b_v;rw[zw]
 ·rfl
 ·show za 1 _ _ (en2 k.t _)=_;rw[zV,zY,ZT];show ((zC _ _ _ _ _ _ ws).bind _).bind _=_;rw[ec];have:=uX (λq hq=>by obtain⟨x,hx,rfl⟩:=aI.mp hq;exact(z0k hk (hw x hx)).2) (by rw[ac];omega)
  rw[b8]at this;exact this
theorem kP {k:Kd}(hk:k.Ok 3){rs ds us ws:List T}(hw:∀x∈ws,k.has x=true)(hl:ws.length<=60):K4 (sv k.t (rs++[.lst ws]) ds us) []= .ok (frT (VD (ws.map k.sh))):=by
 have e0:∀fs,K4 fs []=zy (z1a _ (oo fs)):=λ_=>rfl;rw[e0];unfold z1a;have ef:∀fs,frz (oo fs)=oo fs:=λ_=>rfl;rw[jF,ef];have e:z0M 101 0 1 "kind" (oo (sv k.t (rs++[.lst ws]) ds us))= .ok k.t:=rfl;rw[zN,e,bOk,z39 rfl,bOk,z0l hk hw hl]
theorem wM {α:Type}{f g:α->T}{js:List Nat}(l:List α)(hl:l.length<=bnd)(H:∀a∈l,fe ((wy k js ρ).set 0 (.vl (f a)))= .ok (g a)):zC (zI 0) Zg fe k js ρ (l.map f)= .ok (l.map g):=by
 rw[Z3 (h:=λt=>match fe ((wy k js ρ).set 0 _) with | .ok u=>u | _=>t) _ (by rw[ac];exact hl) (λt ht=>by
  obtain⟨a,ha,rfl⟩:=aI.mp ht;rw[H a ha]),b8]
 congr 1
 refine cf λa ha=> ?_;show (match fe _ with | .ok u=>u | _=>f a)=_
 rw[H a ha]
def cnt (ws:List T)(r:Ru):Int:=((ws.filter λx=>kp r x).length:Nat)
inductive Cn:(List T->T)->Prop where
 | l:Cn T.lst
 | t:Cn T.tup
theorem QV {C:List T->T}(hC:Cn C){rs:List Ru}(hr:∀r∈rs,ZV 3 r)(hw:∀x∈ws,W 2 x)(hl:ws.length<=1000)(hn:rs.length<=1000):z12 [.lst ws,C (rs.map Ru.t)]= .ok (.lst (rs.map λr=> .int (cnt ws r))):=by
 have hb:bnd=16777216:=rfl;show zy _=_;unfold z2S;rw[jF];show zU _ _ _ _ _ _ (en2 _ _)=_;rw[zY,ZT,v1,bOk];rw[show Jd _= .ok _ by cases hC <;> rfl]
 show ((zC _ _ _ _ _ _ _).bind _)=_;rw[wM rs (by omega) λr hr' => ?_,bOk]
 show (((zC _ _ _ _ _ _ ws).bind _).bind _)=_;rw[Ze ws (by omega) λt ht=>⟨?_,rfl⟩]
 ·rfl
 ·show jG _ (en2 t r.t)=_;rw[Jh,zN,v1,bOk,v0,bOk,Ja (hw t ht) (hr r hr')];rfl
theorem ul {C:List T->T}(hC:Cn C){rs:List Ru}(hr:∀r∈rs,ZV 3 r)(hn:rs.length<=1000):z0S [C (rs.map Ru.t)]= .ok .non:=by
 have lp:∀(us:List T) (rs:List Ru) (y:Sl),(∀r∈rs,ZV 3 r)->∃y',ZA (zI 1) (JK (za 1 f_5 (z9 (vE 1) (zj)))) (rs.map Ru.t) [.vl (C us),y]= .nx [.vl (C us),y']:=by
  intro us rs
  induction rs with
  | nil=>exact λy _=>⟨y,rfl⟩
  | cons r rs ih=>
   intro y h;obtain⟨y',e⟩:=ih _ λq hq=>h q (a8 _ hq);refine⟨y', ?_⟩;rw[aF,jh (ρ1:=[.vl _,.vl r.t]) rfl (wc (by exact jj (h r ab))),e]
 obtain⟨y',e⟩:=lp _ rs .un hr;show zy (z0R _ [.vl _,.un])=_;unfold z0R;rw[zb (zx (by cases hC <;> rfl))]
 have ei:Zx (vE 0) [.vl (C (rs.map Ru.t)),.un]= .ok (rs.map Ru.t):=by cases hC <;> rfl
 unfold j0;rw[ei];show zy (ZA _ _ _ _)=_;rw[e];rfl
theorem QW (m:Int):∀is:List Int,eqs (.int m) (is.map T.int)=some (is.map λi=>i == m)
 | []=>rfl
 | c :: cs=>by
  show (match eqF 30 (.int c) (.int m) with
   | none=>none
   | some b=>match eqs _ _ with
    | none=>none
    | some bs=>some _)=_
  rw[QW m cs];rfl
theorem QX (f:Int->Int->Bool):∀(l:List Int) (i:Int),ZE f i l∈i :: l
 | [],i=>by exact ab
 | j :: l,i=>by
  rw[ZE];have:=QX f l (if f j i then j else i)
  rcases ak.mp this with h | h
  ·rw[h];split
   ·exact a8 _ ab
   ·exact ab
  ·exact a8 _ (a8 _ h)
abbrev bsE:En->R T:=ifE (zE gtC (ap1 Zj (vB 3)) (cE (.int 0))) (z2f XF (vB 3) (ap1 qb (vB 3))) (cE .non)
theorem z3e (i:Int)(is:List Int):bsE [a,b,c,.vl (.lst ((i :: is).map T.int))]= .ok (.int (((i :: is).map λj=>j == ZE (λa b=>decide (a < b)) i is).idxOf true:Nat)):=by
 show ifE _ _ _ _=_;rw[z30]
 ·show (qb (.lst _)).bind (λu=>XF u _)=_;have em:qb (.lst ((i :: is).map T.int))= .ok (.int (ZE (λa b=>decide (a < b)) i is)):=by
   show (match Z2 _ with | some (i :: l)=>R.ok (T.int (ZE (λa b=>decide _) i l)) | _=> .bad)=_
   rw[We]
  rw[em];show XF (.int (ZE (λa b=>decide _) i is)) _=_;unfold XF;rw[QW];dsimp only;rw[if_pos];refine aI.mpr ⟨_,QX _ is i,beq_self_eq_true _⟩
 ·show R.ok _=_;rw[decide_eq_true];rw[ac,am];omega
noncomputable def mxB (n c:Int):Int:=if n - c > c then n - c else c
def bst (n:Int)(cs:List Int):R T:=bsE [.un,.un,.un,.vl (.lst ((cs.map (mxB n)).map T.int))]
theorem uZ {C:List T->T}(hC:Cn C){k:Kd}(hk:k.Ok 3)(h5:k.all.length<=500){rs:List Ru}(hr:∀q∈rs,ZV 3 q)(hn:rs.length<=1000):f_p [k.t,C (rs.map Ru.t)]=bst (k.all.length:Int) (rs.map (cnt k.all)):=by
 have hb:bnd=16777216:=rfl;have e1:JK (za 1 z0S (z9 (vE 1) _)) [.vl k.t,.vl _,.un,.un]= .nx _:=wc (by rw[zV,v1,bOk,ul hC hr hn])
 have e2:zK 2 (za 1 f_l (z9 (vE 0) (zj))) [.vl k.t,.vl (C (rs.map Ru.t)),.un,.un]= .nx [.vl k.t,.vl (C (rs.map Ru.t)),.vl (.lst k.all),.un]:=by
  rw[zM]
  ·rfl
  ·rw[zV,v0,bOk,j4 hk h5]
 have e3:zK 3 (zU (Zx (za 2 z12 (z9 (vE 2) (z9 (vE 1) (zj))))) (zI 0) (Zg) (zd uJ (vE 0) (zd jv (ap1 Zj (vB 1)) (vE 0))) 1 [2]) [.vl k.t,.vl (C (rs.map Ru.t)),.vl (.lst k.all),.un]= .nx [.vl k.t,.vl (C (rs.map Ru.t)),.vl (.lst k.all),.vl (.lst (rs.map λq=> .int (mxB (k.all.length) (cnt k.all q))))]:=by
  rw[zM]
  ·rfl
  ·rw[zY,ZT,zN,v2,bOk,v1,bOk,QV hC hr (λx hx=>yM hk hx) (by omega) hn]
   show ((zC _ _ _ _ _ _ (rs.map λr=> .int _)).bind _)=_;rw[wM (g:=λq=> .int (mxB _ _)) rs (by omega) λq _=>rfl,bOk]
 show zy (b_p _ _ _ [.vl k.t,.vl _,.un,.un])=_;unfold b_p bst;rw[zb e1,zb e2,zb e3,jF,b8,b8];rfl
theorem Jb {k:Kd}(hk:k.Ok 3)(h5:k.all.length<=500){r:Ru}(hr:ZV 3 r):f_t [k.t,r.t]= .ok (.lst (k.all.filter λx=>kp r x)):=by
 have hb:bnd=16777216:=rfl;show zy (b_t _ _ _ (en2 k.t r.t))=_;unfold b_t;rw[zb (wc (by rw[zV,v1,bOk,jj hr])),jF]
 show zU _ _ _ _ _ _ (en2 k.t r.t)=_;rw[zY,ZT,zV,v0,bOk,j4 hk h5];show ((zC _ _ _ _ _ _ _).bind _)=_;rw[Ze _ (by omega) λt ht=>⟨?_,rfl⟩,bOk]
 show jG _ (en2 t r.t)=_;rw[Jh,zN,v1,bOk,v0,bOk,Ja (yM hk ht) hr];rfl
theorem Jn {k:Kd}(hk:k.Ok 3)(h5:k.all.length<=60){r:Ru}(hr:ZV 3 r):z1b [k.t,r.t]= .ok (frT (VD ((k.all.filter λx=>kp r x).map k.sh))):=by
 show zy _=_;unfold z2T;rw[jF];show za 2 _ _ (en2 k.t r.t)=_;rw[zN,v0,bOk,zN,v0,bOk,v1,bOk,Jb hk (by omega) hr]
 exact z0l hk (λx hx=>(J7 k x).mp (cD.mp hx).1) (aA (fF _ _) h5)
noncomputable def rkT (xs:List Int)(n:Nat):List (List Int):=match xs with
 | []=>[]
 | x :: xs=>[x,(n:Int)] :: rkT xs (n+1)
noncomputable def bi (b i:Int)(n:Nat):List Int->Int×Int
 | []=>(b,i)
 | x :: xs=>if x < b then bi x n (n+1) xs else bi b i (n+1) xs
theorem Wi:∀(xs:List Int) (b i:Int) (n:Nat),i < n->jY [b,i] (rkT xs n)=[(bi b i n xs).1,(bi b i n xs).2]
 | [],b,i,n,h=>rfl
 | x :: xs,b,i,n,h=>by
  rw[rkT,jY,bi];have e:yC [x,(n)] [b,i]=decide (x < b):=by
   show (if x=b then (if (n)=i then yC [] [] else decide _) else decide _)=_
   by_cases hx:x=b
   ·rw[if_pos hx,if_neg (by omega),decide_eq_false (by omega),decide_eq_false (by omega)]
   ·rw[if_neg hx]
  rw[e]
  by_cases c:x < b
  ·rw[decide_eq_true c,if_pos rfl,if_pos c,Wi xs x n _ (by omega)]
  ·rw[decide_eq_false c,if_neg aG,if_neg c,Wi xs b i _ (by omega)]
theorem U0:∀(xs:List Int) (b i:Int) (n:Nat),(bi b i n xs).1=ZE (λa b=>decide (a < b)) b xs
 | [],b,i,n=>rfl
 | x :: xs,b,i,n=>by
  rw[bi,ZE]
  by_cases c:x < b
  ·rw[if_pos c,decide_eq_true c,if_pos rfl,U0]
  ·rw[if_neg c,decide_eq_false c,if_neg aG,U0]
theorem QY:∀(xs:List Int) (b:Int) (i n:Nat) (pre:List Int),pre.length=n->pre[i]? =some b->(∀(j:Nat) (y:Int),pre[j]? =some y->b<=y/\(j < i->b < y))->∃m:Nat,(bi b i n xs).2=(m:Int)/\(pre++xs)[m]? =some (bi b i n xs).1/\∀(j:Nat) (y:Int),j < m->(pre++xs)[j]? =some y->(bi b i n xs).1 ≠ y
 | [],b,i,n,pre,hl,hb,hp=>⟨i,rfl,by rw[aW];exact hb,λj y hj hy=>by
   rw[aW]at hy;have:=(hp j y hy).2 hj;show b ≠ y;omega⟩
 | x :: xs,b,i,n,pre,hl,hb,hp=>by
  have hi:=(ai.mp hb).1;have hap:pre++x :: xs=(pre++[x])++xs:=by simp
  have cs:∀(j:Nat) (y:Int),(pre++[x])[j]? =some y->pre[j]? =some y\/(j=n/\y=x):=λj y h=>by
   by_cases hj:j < pre.length
   ·rw[ax hj]at h;exact .inl h
   ·rw[av (by omega)]at h
    have:j - pre.length < 1:=(ai.mp h).1;have e:j=pre.length:=by omega
    subst e;rw[cN]at h;cases h;exact .inr ⟨hl,rfl⟩
  rw[bi,hap]
  by_cases c:x < b
  ·rw[if_pos c];refine QY xs x n _ _ (by simp[hl]) (by rw[av (by omega),hl,cN];rfl) λj y h=> ?_
   rcases cs j y h with z | ⟨z1,z2⟩
   ·have:=(hp j y z).1;exact⟨by omega,λ_=>by omega⟩
   ·exact⟨by omega,λz=>by omega⟩
  ·rw[if_neg c];refine QY xs b i _ _ (by simp[hl]) (by rw[ax hi];exact hb) λj y h=> ?_
   rcases cs j y h with z | ⟨z1,z2⟩
   ·exact hp j y z
   ·exact⟨by omega,λz=>by omega⟩
theorem z0m:∀(l:List Int) (m:Int) (i:Nat),l[i]? =some m->(∀(j:Nat) (y:Int),j < i->l[j]? =some y->m ≠ y)->(l.map λj=>j == m).idxOf true=i:=λl m i h hn=>by
 refine uc _ i (by rw[ar,h];simp) λj hj=> ?_
 rw[ar];have hl:=(ai.mp h).1;obtain⟨y,hy⟩:=ub (dM hj hl);rw[hy];have:=hn j y hj hy;simp;omega
theorem kQ (n c:Int)(cs:List Int):∃m:Nat,bst n (c :: cs)= .ok (.int (m:Int))/\∃y,((c :: cs).map (mxB n))[m]? =some y/\jY [mxB n c,0] (rkT (cs.map (mxB n)) 1)=[y,(m:Int)]:=by
 obtain⟨m,h1,h2,h3⟩:=QY _ _ 0 1 [mxB n c] rfl rfl λj y h=>by
  cases j with
  | zero=>cases h;exact⟨iG _,λz=>by omega⟩
  | succ j=>simp at h
 refine⟨m, ?_,_,h2, ?_⟩
 ·have hb:=z3e (a:= .un) (b:= .un) (c:= .un) (mxB n c) (cs.map (mxB n));have e0:bst n (c :: cs)=bsE [.un,.un,.un,.vl (.lst ((mxB n c :: cs.map _).map _))]:=rfl;rw[e0,hb,← U0 _ _ 0 1];exact congrArg (λz:Nat=>R.ok (T.int (z))) (z0m _ _ m h2 h3)
 ·rw[Wi _ _ _ _ (by omega)]
  have h1:(bi _ 0 1 _).2=(m):=h1;rw[h1];rfl
theorem z3f (q:Rat):Pl 30 (frT q):=λx hx=>by
 simp only[ak,bI,or_false]at hx;rcases hx with rfl | rfl <;> trivial
abbrev lo (ns:List Int)(t:T)(ws rs ks:List T)(a b c d:Sl):En:=[.vl (scr ns),.vl t,.vl (.lst ws),.ow rs,.ow ks,a,b,c,d,.un,.un,.un,.un,.st []]
def rks (n:Int)(cs:List Int)(j:Nat):List T:=(rkT (cs.map (mxB n)) j).map λk=> .tup (k.map T.int)
theorem QZ:∀(xs:List Int) (x:Int) (j:Nat),rkT (xs++[x]) j=rkT xs j++[[x,((j+xs.length:Nat):Int)]]
 | [],x,j=>rfl
 | y :: xs,x,j=>by
  rw[dv,rkT,QZ xs x _,show j+1+xs.length=j+(xs.length+1) by omega];rfl
theorem kR (n:Int)(cs:List Int)(c:Int)(j:Nat):rks n (cs++[c]) j=rks n cs j++[.tup [.int (mxB n c),.int ((j+cs.length:Nat):Int)]]:=by
 unfold rks;rw[bj,hV,QZ,bj,ac];rfl
theorem v6:∀(xs:List Int) (j:Nat),WS ((rkT xs j).map λk=>T.tup (k.map T.int))=some (rkT xs j)
 | [],j=>rfl
 | x :: xs,j=>by
  show (match Z2 _,WS ((rkT xs _).map λk=>T.tup _) with | some k,some ks=>some _ | _,_=>none)=_
  rw[v6 xs _];rfl
section
variable {ns:List Int}{k:Kd}{rs:List Ru}{ks:List T}{a b c d:Sl}
abbrev lpA:En->RS:=zK 6 (za 3 (f_j 8) (z9 (vE 0) (z9 (zd zD (cE (.int 4000)) (zd Za (cE (.int 300)) (vE 5))) (z9 (cE (.int 2)) (zj)))))
abbrev lpB:En->RS:=zK 7 (ap1 Zj (zU (Zx (vE 2)) (zI 0) (jG (za 2 (f_9 8) (z9 (vE 1) (z9 (vE 0) (zj))))) (vE 0) 1 [6]))
abbrev lpX:En->RS:=zB lpA (zB lpB (zB (Uc 3 (vE 6)) (Uc 4 (Zh (z9 (zd uJ (vE 7) (zd jv (ap1 Zj (vB 2)) (vE 7))) (z9 (vE 5) (zj)))))))
theorem z3g (hk:k.Ok 3)(hl:k.all.length<=60)(hrs:rs.length<=100)(i:Nat)(hi:i=rs.length):∃(r:Ru) (b' c' :Sl),ZV 2 r/\lpX (lo ns k.t k.all (rs.map Ru.t) (rks (k.all.length:Int) (rs.map (cnt k.all)) 0) (.vl (.int (0+(i:Int)))) b c d)= .nx (lo ns k.t k.all ((rs++[r]).map Ru.t) (rks (k.all.length:Int) ((rs++[r]).map (cnt k.all)) 0) (.vl (.int (0+(i:Int)))) b' c' d):=by
 have hb:bnd=16777216:=rfl;obtain⟨r,er,hr⟩:=Wh ns 8 2 (by omega) (by omega) (4000+300*(0+(i:Int))) (by omega)
 refine⟨r,.vl r.t,.vl (.int (cnt k.all r)),hr, ?_⟩;have e1:lpA (lo ns k.t k.all (rs.map Ru.t) (rks (k.all.length) (rs.map (cnt k.all)) 0) (.vl (.int (0+(i:Int)))) b c d)= .nx (lo ns k.t k.all (rs.map Ru.t) (rks (k.all.length) (rs.map (cnt k.all)) 0) (.vl (.int (0+(i:Int)))) (.vl r.t) c d):=by
  show zK 6 _ _=_;rw[zM (t:=r.t)]
  ·rfl
  ·exact er
 have e2:lpB (lo ns k.t k.all (rs.map Ru.t) (rks (k.all.length) (rs.map (cnt k.all)) 0) (.vl (.int (0+(i)))) (.vl r.t) c d)= .nx (lo ns k.t k.all (rs.map Ru.t) (rks (k.all.length) (rs.map (cnt k.all)) 0) (.vl (.int (0+(i)))) (.vl r.t) (.vl (.int (cnt k.all r))) d):=by
  show zK 7 _ _=_;rw[zM]
  ·rfl
  ·show (((zC _ _ _ _ _ _ _).bind _).bind _)=_;rw[Ze _ (by omega) λt ht=>⟨?_,rfl⟩]
   ·rfl
   ·show jG _ (en2 t r.t)=_;have ek:f_9 8 _= .ok _:=jo (by omega) (yM hk ht) 8 2 (by omega) r hr
    rw[Jh,zN,v1,bOk,v0,bOk,ek];rfl
 show zB _ _ _=_;rw[zb e1,zb e2];have e3:Uc 3 (vE 6) (lo ns k.t k.all (rs.map Ru.t) (rks (k.all.length) (rs.map (cnt k.all)) 0) (.vl (.int (0+(i)))) (.vl r.t) (.vl (.int (cnt k.all r))) d)= .nx (lo ns k.t k.all ((rs++[r]).map Ru.t) (rks (k.all.length) (rs.map (cnt k.all)) 0) (.vl (.int (0+(i)))) (.vl r.t) (.vl (.int (cnt k.all r))) d):=by
  rw[Qi rfl (by rw[ac];omega) rfl,bj];rfl
 rw[zb e3];have hlen:(rks (k.all.length) (rs.map (cnt k.all)) 0).length<=100:=by
  have:∀(xs:List Int) (j:Nat),(rkT xs j).length=xs.length:=λxs=>by
   induction xs with
   | nil=>exact λ_=>rfl
   | cons x xs ih=>intro j;rw[rkT,am,ih,am]
  unfold rks;rw[ac,this,ac,ac];exact hrs
 have eR:rks (k.all.length) ((rs++[r]).map (cnt k.all)) 0=rks (k.all.length) (rs.map (cnt k.all)) 0++[.tup [.int (mxB (k.all.length) (cnt k.all r)),.int (0+(i))]]:=by
  rw[bj,hV,kR,ac,← hi,show ((0+i:Nat):Int)=0+(i) by omega]
 rw[eR,Qi rfl (by omega) rfl]
 rfl
theorem lps (hk:k.Ok 3)(hl:k.all.length<=60):∀(m:Nat) (rs:List Ru) (a b c:Sl),rs.length+m<=100->(∀r∈rs,ZV 2 r)->∃(rs' :List Ru) (a' b' c' :Sl),(∀r∈rs',ZV 2 r)/\rs'.length=rs.length+m/\ZA (zI 5) lpX ((fJ rs.length m).map λ(i:Nat)=> .int (0+(i:Int))) (lo ns k.t k.all (rs.map Ru.t) (rks (k.all.length:Int) (rs.map (cnt k.all)) 0) a b c d)= .nx (lo ns k.t k.all (rs'.map Ru.t) (rks (k.all.length:Int) (rs'.map (cnt k.all)) 0) a' b' c' d)
 | 0,rs,a,b,c,_,hr=>⟨rs,a,b,c,hr,rfl,rfl⟩
 | m+1,rs,a,b,c,hm,hr=>by
  obtain⟨r,b',c',hr',h⟩:=z3g hk hl (rs:=rs) (by omega) _ rfl
  obtain⟨rs',a2,b2,c2,q1,q2,q3⟩:=lps hk hl m (rs++[r]) _ b' c' (by rw[az,aK];omega) (λq hq=>by
   rcases cW.mp hq with z | z
   ·exact hr q z
   ·rw[aM.mp z];exact hr')
  rw[az,aK]at q2 q3;refine⟨rs',a2,b2,c2,q1,by omega, ?_⟩
  rw[List.range'_succ,aF,jh rfl h];exact q3
end
theorem z0n (n c:Int)(cs:List Int)(j:Int):wq (.lst (rks n (c :: cs) 0)) (.int j)=atT ((jY [mxB n c,0] (rkT (cs.map (mxB n)) 1)).map T.int) j:=by
 show (match WS _ with | some (k :: ks)=>atT _ j | _=> .bad)=_
 unfold rks;rw[v6];rfl
theorem Jz (r:Ru):∀ws:List T,(ZO true r ws).length+(ZO false r ws).length=ws.length
 | []=>rfl
 | w :: ws=>by
  have ih:=Jz r ws;unfold ZO at*;rw[dy,dy];cases h:kp r w
  ·simp only[aN,am,BEq.rfl,if_true];rw[if_neg (by decide)];omega
  ·simp only[BEq.rfl,if_true,am];rw[if_neg (by decide)];omega
theorem v7 (b:Bool)(r:Ru)(ws:List T):ZO (!b) r (ZO b r ws)=[]:=by
 unfold ZO;rw[List.filter_filter,fr];intro x _;cases b <;> cases kp r x <;> decide
theorem v9 (r:Ru)(ws:List T):ZO true r ws=ws.filter λx=>kp r x:=by
 unfold ZO;congr 1;funext x;cases kp r x <;> rfl
theorem z0o (r:Ru)(ws:List T):ZO false r ws=ws.filter λx=>kp (.no r) x:=by
 unfold ZO;congr 1;funext x;rw[kp];cases kp r x <;> rfl
theorem z3h {f g:En->R (Bool×En)}{r:R (Bool×En)}(h:f ρ= .ok (false,ρ'))(h' :g ρ' =r):PV.orM f g ρ=r:=by
 unfold PV.orM;rw[h];exact h'
theorem z0p {ga:En->R (Bool×En)}(h:ga ρ= .ok (false,ρ')):ifM ga f nxS ρ= .nx ρ' :=by
 unfold ifM;rw[h];rfl
theorem tm_f (h:f ρ= .ok b):tmP f ρ= .ok (b,ρ):=by unfold tmP;rw[h];rfl
theorem z0q (h1:fm ρ= .ok (x,ρ'))(h2:fb ρ' = .ok y)(h3:neC x y= .ok b):K0 neC fm fb ρ= .ok (b,ρ'):=by
 unfold K0;rw[h1,bOk];rw[h2,bOk];rw[h3];rfl
abbrev ls (ns:List Int)(t:T)(ws rs ks:List T)(a b c d:Sl)(u v:List (Str×Fd)):En:=[.vl (scr ns),.vl t,.vl (.lst ws),.ow rs,.ow ks,a,b,c,d,.ob 101 0,.ob 101 1,.un,.un,.st [(101,u),(101,v)]]
section
variable {ns:List Int}{k:Kd}{t x y:T}{ws rs ks:List T}{a b c d:Sl}{u v u' v' :List (Str×Fd)}
theorem ob_1:obD 101 9 13 (ls ns t ws rs ks a b c d u v)=some (0,u,[(101,u),(101,v)]):=rfl
theorem ob_2:obD 101 10 13 (ls ns t ws rs ks a b c d u v)=some (1,v,[(101,u),(101,v)]):=rfl
theorem z0r {q q' :List (Str×Fd)->List T->R (T×List (Str×Fd))}(n1:u.lookup m=none)(n2:v.lookup m' =none)(ha:ga (ls ns t ws rs ks a b c d u v)= .ok [r])(hb:gb (ls ns t ws rs ks a b c d u' v)= .ok [r])(h1:q u [r]= .ok (.int i,u'))(h2:q' v [r]= .ok (.int j,v')):
  k8 zD (wp 101 9 13 m 1 q ga) (wp 101 10 13 m' 1 q' gb) (ls ns t ws rs ks a b c d u v)= .ok (.int (i+j),ls ns t ws rs ks a b c d u' v'):=by
 unfold k8;rw[QT (nn:=1) ob_1 n1 ha rfl h1];show R.bind (wp 101 10 13 m' 1 q' gb (ls ns t ws rs ks a b c d u' v)) _=_;rw[QT (nn:=1) ob_2 n2 hb rfl h2];rfl
theorem mk2 (hk:k.Ok 3)(hl:k.all.length<=60):WR 9 10 11 12 (mkA 11 13 101 1 kd (z9 (vE 1) (zj))) (mkA 12 13 101 1 kd (z9 (vE 1) (zj))) (lo ns k.t ws rs ks a b c d)= .nx (ls ns k.t ws rs ks a b c d (sv k.t [.lst k.all] [] []) (sv k.t [.lst k.all] [] [])):=by
 have i1:=kM hk (by omega)
 have e1:mkA 11 13 101 1 kd (z9 (vE 1) (zj)) (lo ns k.t ws rs ks a b c d)= .ok [.vl (scr ns),.vl k.t,.vl (.lst ws),.ow rs,.ow ks,a,b,c,d,.un,.un,.ob 101 0,.un,.st [(101,sv k.t [.lst k.all] [] [])]]:=by
  unfold mkA;rw[yP rfl,bOk];rw[i1];rfl
 have e2:mkA 12 13 101 1 kd (z9 (vE 1) (zj)) [.vl (scr ns),.vl k.t,.vl (.lst ws),.ow rs,.ow ks,a,b,c,d,.un,.un,.ob 101 0,.un,.st [(101,sv k.t [.lst k.all] [] [])]]= .ok [.vl (scr ns),.vl k.t,.vl (.lst ws),.ow rs,.ow ks,a,b,c,d,.un,.un,.ob 101 0,.ob 101 1,.st [(101,sv k.t [.lst k.all] [] []),(101,sv k.t [.lst k.all] [] [])]]:=by
  unfold mkA;rw[yP rfl,bOk];rw[i1];rfl
 unfold WR;rw[e1,ZQ,e2];rfl
abbrev au (k:Kd)(b:Bool)(r:Ru):List (Str×Fd):=sv' k.t [] [] [] k.all b r
theorem z0s (hk:k.Ok 3):∀x∈k.all,W 2 x:=λx hx=>yM hk hx
abbrev ix3:En->R (List T):=z9 (ixO 3 (vE 8)) zj
theorem U1 {rr:List Ru}{m:Nat}{r:Ru}(hm:rr[m]? =some r):ixO 3 (vE 8) (ls ns t ws (rr.map Ru.t) ks a b c (.vl (.int (m:Int))) u v)= .ok r.t:=by
 show atT _ (m)=_;unfold atT;rw[ZZ (by rw[ar,hm];rfl)]
variable {rr:List Ru}{m:Nat}{r:Ru}
abbrev stA:En->RS:=ifM (PV.orM (K0 neC (k8 zD (wp 101 9 13 "keep" 1 K2 ix3) (wp 101 10 13 "bar" 1 K3 ix3)) (ap1 Zj (vB 2))) (tmP (zE neC (zd zD (jr 101 9 13 0 f_g zj) (jr 101 10 13 0 f_g zj)) (ap1 Zj (vB 2))))) (zG (cE (.bl false))) (nxS)
theorem z0t (hk:k.Ok 3)(hl:k.all.length<=60)(hr:ZV 2 r)(hm:rr[m]? =some r):stA (ls ns k.t k.all (rr.map Ru.t) ks a b c (.vl (.int (m:Int))) (sv k.t [.lst k.all] [] []) (sv k.t [.lst k.all] [] []))= .nx (ls ns k.t k.all (rr.map Ru.t) ks a b c (.vl (.int (m:Int))) (au k true r) (au k false r)):=by
 have hs:=Jz r k.all;have e1:=QU (t:=k.t) (rs:=[]) (ds:=[]) (us:=[]) hr.up (z0s hk) (by omega) (aQ _) (aQ _)
 have e2:=xB (t:=k.t) (rs:=[]) (ds:=[]) (us:=[]) hr.up (z0s hk) (by omega) (aQ _) (aQ _)
 have e3:=z0r (ns:=ns) (t:=k.t) (ws:=k.all) (ks:=ks) (a:=a) (b:=b) (c:=c) (uY "keep" (by decide+kernel)) (uY "bar" (by decide+kernel)) (yP (U1 hm)) (yP (U1 hm)) e1 e2
 have t2:zE neC (zd zD (jr 101 9 13 0 f_g zj) (jr 101 10 13 0 f_g zj)) (ap1 Zj (vB 2)) (ls ns k.t k.all (rr.map Ru.t) ks a b c (.vl (.int (m))) (au k true r) (au k false r))= .ok false:=by
  show neC (.int _) (.int (k.all.length))=_;rw[show ((ZO _ r _).length:Int)+((ZO _ r _).length:Int)=(k.all.length) by omega,Qn]
 refine z0p (z3h (z0q e3 rfl ?_) (tm_f t2));rw[show (k.all.length) - ((ZO _ r _).length:Int)+((k.all.length) - ((ZO _ r _).length:Int))=(k.all.length) by omega,Qn]
end
theorem z3i (h1:fm ρ= .ok (x,ρ'))(h2:fb ρ' = .ok (y,ρ2))(h3:eqC x y= .ok b):cmM eqC fm fb ρ= .ok (.bl b,ρ2):=by
 unfold cmM;rw[h1,bOk];rw[h2,bOk];rw[h3];rfl
theorem z0u (h1:fa ρ= .ok (.bl true,ρ')):PV.z2J fa fb ρ=fb ρ' :=by
 unfold PV.z2J;rw[h1];rfl
section
variable {ns:List Int}{k:Kd}{ks:List T}{a b c:Sl}{rr:List Ru}{m:Nat}{r:Ru}{cs:List Int}{c0:Int}
abbrev l1 (ns:List Int)(k:Kd)(rr:List Ru)(ks:List T)(a b c:Sl)(m:Nat)(r:Ru):En:=ls ns k.t k.all (rr.map Ru.t) ks a b c (.vl (.int (m:Int))) (au k true r) (au k false r)
theorem lf_1:jr 101 9 13 0 f_g zj (l1 ns k rr ks a b c m r)= .ok (.int ((ZO true r k.all).length:Int)):=uk rfl (wf rfl)
theorem lf_2:jr 101 10 13 0 f_g zj (l1 ns k rr ks a b c m r)= .ok (.int ((ZO false r k.all).length:Int)):=uk rfl (wf rfl)
theorem wo_1:jr 101 9 13 0 f_y zj (l1 ns k rr ks a b c m r)= .ok (.lst (ZO true r k.all)):=uk rfl (uj rfl)
theorem wo_2:jr 101 10 13 0 f_y zj (l1 ns k rr ks a b c m r)= .ok (.lst (ZO false r k.all)):=uk rfl (uj rfl)
theorem pl_f (hk:k.Ok 3)(p:T->Bool):Pl 30 (.lst (k.all.filter p)):=λx hx=>(yM hk (cD.mp hx).1).pl.le (by decide)
theorem z0v {b:Bool}:∀x∈ZO b r k.all,k.has x=true:=λx hx=>(J7 k x).mp (cD.mp hx).1
abbrev stB:En->RS:=ifS (orT (zE neC (zd uJ (jr 101 9 13 0 f_g zj) (jr 101 10 13 0 f_g zj)) (zd wq (vB 4) (cE (.int 0)))) (zE neC (jr 101 9 13 0 f_y zj) (za 2 f_t (z9 (vE 1) (z9 (ixO 3 (vE 8)) (zj)))))) (zG (cE (.bl false))) (nxS)
theorem z0w (hk:k.Ok 3)(hl:k.all.length<=60)(hr:ZV 2 r)(hm:rr[m]? =some r)(hmin:wq (.lst ks) (.int 0)= .ok (.int (mxB (k.all.length:Int) (cnt k.all r)))):stB (l1 ns k rr ks a b c m r)= .nx (l1 ns k rr ks a b c m r):=by
 have hs:=Jz r k.all;have hc:cnt k.all r=((ZO true r k.all).length):=by unfold cnt;rw[v9]
 refine zx (uu ?_ ?_)
 ·have ev:vB 4 (l1 ns k rr ks a b c m r)= .ok _:=rfl;rw[zJ,zt,lf_1,bOk,lf_2,bOk,zt,ev,bOk,Z1,bOk,hmin,hc];show neC (.int _) (.int (if (k.all.length) - ((ZO _ r _).length:Int) > ((ZO _ r _).length:Int) then (k.all.length) - ((ZO _ r _).length:Int) else ((ZO _ r _).length:Int)))=_
  rw[show (k.all.length) - ((ZO _ r _).length:Int)=((ZO false r k.all).length) by omega,Qn]
 ·have ev:vE 1 (l1 ns k rr ks a b c m r)= .ok k.t:=rfl;rw[zJ,wo_1,bOk,zN,ev,bOk,U1 hm,bOk,Jb hk (by omega) hr.up,bOk,v9,uV (pl_f hk _)]
abbrev stC:En->RS:=ifS (orT (zE neC (jr 101 9 13 0 K4 zj) (za 2 z1b (z9 (vE 1) (z9 (ixO 3 (vE 8)) (zj))))) (zE neC (jr 101 10 13 0 f_y zj) (za 2 f_t (z9 (vE 1) (z9 (Zh (z9 (cE (.str "no")) (z9 (ixO 3 (vE 8)) (zj)))) (zj)))))) (zG (cE (.bl false))) (nxS)
theorem z0x (hk:k.Ok 3)(hl:k.all.length<=60)(hr:ZV 2 r)(hm:rr[m]? =some r):stC (l1 ns k rr ks a b c m r)= .nx (l1 ns k rr ks a b c m r):=by
 have ev:vE 1 (l1 ns k rr ks a b c m r)= .ok k.t:=rfl;have hp:K4 (au k true r) []= .ok _:=kP hk z0v (aA (fF _ _) hl);refine zx (uu ?_ ?_)
 ·rw[zJ,uk rfl hp,bOk,zN,ev,bOk,U1 hm,bOk,Jn hk hl hr.up,bOk,v9,uV (z3f _)]
 ·have et:Zh (z9 (cE _) _) (l1 ns k rr ks a b c m r)= .ok (Ru.no r).t:=UF rfl (U1 hm);rw[zJ,wo_2,bOk,zN,ev,bOk,et,bOk,Jb hk (by omega) (.no hr),bOk,z0o,uV (pl_f hk _)]
abbrev stD:En->RS:=K1 (z2J (cmM eqC (k8 zD (wp 101 9 13 "bar" 1 K3 ix3) (wp 101 10 13 "keep" 1 K2 ix3)) (qB (ap1 Zj (vB 2)))) (qB (ZR eqC (jr 101 9 13 0 f_g zj) (cE (.int 0)))))
theorem z0y (hk:k.Ok 3)(hl:k.all.length<=60)(hr:ZV 2 r)(hm:rr[m]? =some r):stD (l1 ns k rr ks a b c m r)= .rt (.bl true):=by
 have hs:=Jz r k.all;have hw:∀b,∀x∈ZO b r _,W 2 x:=λb x hx=>yM hk (cD.mp hx).1;have e1:=xB (t:=k.t) (rs:=[.lst k.all]) (ds:=[stp true r]) (us:=[]) (ws:=ZO true r _) hr.up (hw _) (by omega) (by simp) (by simp)
 have e2:=QU (t:=k.t) (rs:=[.lst k.all]) (ds:=[stp false r]) (us:=[]) (ws:=ZO false r _) hr.up (hw _) (by omega) (by simp) (by simp)
 have z1:ZO false r (ZO _ r k.all)=[]:=v7 true r _;have z2:ZO true r (ZO _ r k.all)=[]:=v7 false r _;have e3:=z0r (ns:=ns) (t:=k.t) (ws:=k.all) (ks:=ks) (a:=a) (b:=b) (c:=c) (uY "bar" (by decide+kernel)) (uY "keep" (by decide+kernel)) (yP (U1 hm)) (yP (U1 hm)) e1 e2
 have ll:f_g (sv' k.t [.lst k.all] [stp true r] [] (ZO true r k.all) false r) []= .ok _:=wf rfl;rw[z1]at ll;have c1:=z3i (fb:=qB (ap1 Zj (vB 2))) e3 rfl (by
  rw[z1,z2,show ((ZO _ r _).length:Int) - (([]).length:Int)+(((ZO _ r _).length:Int) - (([]).length:Int))=(k.all.length) by simp;omega]
  show R.ok _=_;rw[beq_self_eq_true])
 have c2:=z0u (fb:=qB (ZR eqC (jr 101 9 13 0 f_g zj) (cE (.int 0)))) c1;show K1 _ _=_;unfold K1;rw[show PV.z2J _ _ (l1 ns k rr ks a b c m r)=_ from c2];unfold qB;rw[Zl,uk rfl ll];rfl
end
theorem law_ok (ns:List Int)(h:ns.length<=63):f_0 [.fz (ns.map T.int)]= .ok (.bl true):=by
 obtain⟨k,hk,hl,hs⟩:=Vw ns 10 (by omega) 60 (by omega)
 have ha:f_4 8 [k.t]= .ok (.lst k.all):=Q4 3 8 (by omega) (by omega) k hk (by omega)
 obtain⟨p,hp,p0,p5⟩:=zW ns 0 5 (by omega) (by decide)
 have e0:zK 1 (za 3 GE (z9 (vE 0) (z9 (cE (.int 10)) (z9 (cE (.int 60)) (zj))))) [.vl (scr ns),.un,.un,.un,.un,.un,.un,.un,.un,.un,.un,.un,.un,.st []]= .nx [.vl (scr ns),.vl k.t,.un,.un,.un,.un,.un,.un,.un,.un,.un,.un,.un,.st []]:=by
  rw[zM (t:=k.t)]
  ·rfl
  ·exact hs
 have e1:Vm 2 3 4 (za 1 (f_4 8) (z9 (vE 1) (zj))) [.vl (scr ns),.vl k.t,.un,.un,.un,.un,.un,.un,.un,.un,.un,.un,.un,.st []]= .nx (lo ns k.t k.all [] [] .un .un .un .un):=by
  unfold Vm;rw[zV,v1,bOk,ha];rfl
 obtain⟨q,hq⟩:=bL p0;obtain⟨rr,a,b,c,hrr,hrl,hf⟩:=lps (ns:=ns) (d:= .un) hk hl (1+q) [] .un .un .un (by simp;omega) (λ_ z=>by cases z)
 have e2:j0 (Zv (zd zD (cE (.int 1)) (za 3 f_2 (z9 (vE 0) (z9 (cE (.int 0)) (z9 (cE (.int 5)) (zj))))))) (zI 5) lpX (lo ns k.t k.all [] [] .un .un .un .un)= .nx (lo ns k.t k.all (rr.map Ru.t) (rks (k.all.length) (rr.map (cnt k.all)) 0) a b c .un):=by
  have er:Zv (zd zD (cE (.int 1)) (za 3 f_2 (z9 (vE 0) (z9 (cE (.int 0)) (z9 (cE (.int 5)) (zj)))))) (lo ns k.t k.all [] [] .un .un .un .un)= .ok (rng 0 (1+q)):=by
   rw[uW (j:=((1+q:Nat))) (by rw[zt,Z1,bOk,ZB,v0,bOk,Z1,bOk,Z1,bOk,hp,bOk,Z9,hq];rfl) ⟨by omega,by omega⟩,bm]
  unfold j0;rw[er];rw[bh,← List.range_eq_range']at hf;exact hf
 have hne:∃r0 rt,rr=r0 :: rt:=by
  cases rr with
  | nil=>simp at hrl;omega
  | cons r0 rt=>exact⟨r0,rt,rfl⟩
 obtain⟨r0,rt,rfl⟩:=hne;obtain⟨m,hm1,y,hy,hmin⟩:=kQ (k.all.length) (cnt k.all r0) _;have hr3:=λq hq=>(hrr q hq).up;have hn:(r0 :: rt).length<=1000:=by rw[hrl];simp;omega
 have b1:=(uZ .l hk (by omega) hr3 hn).trans hm1
 have b2:=(uZ .t hk (by omega) hr3 hn).trans hm1
 have b3:f_p [k.t,.lst []]= .ok .non:=(uZ (rs:=[]) .l hk (by omega) (λ_ z=>by cases z) (aQ _)).trans rfl
 obtain⟨r,hrm,hyr⟩:∃r,(r0 :: rt)[m]? =some r/\y=mxB (k.all.length) (cnt k.all r):=by
  rw[← aF (f:=cnt k.all),b8,ar]at hy;obtain⟨r,e1,e2⟩:=Option.map_eq_some_iff.mp hy;exact⟨r,e1,e2.symm⟩
 have hr:=hrr r (b_ hrm);generalize hks:rks _ ((r0 :: rt).map (cnt k.all)) 0=ks at*;have mi:∀j,wq (.lst ks) (.int j)=atT _ j:=λj=>by rw[← hks,aF,z0n,hmin]
 have e3:zK 8 (za 2 f_p (z9 (vE 1) (z9 (Gy 3) (zj)))) (lo ns k.t k.all ((r0 :: rt).map Ru.t) ks a b c .un)= .nx (lo ns k.t k.all ((r0 :: rt).map Ru.t) ks a b c (.vl (.int (m:Int)))):=by
  have el:Gy 3 (lo ns k.t k.all ((r0 :: rt).map Ru.t) ks a b c .un)= .ok (.lst _):=rfl;rw[zM]
  ·rfl
  ·rw[zN,v1,bOk,el,bOk,b1]
 have e4:orT (zE neC (vB 8) (zd wq (vB 4) (cE (.int 1)))) (orT (zE neC (za 2 f_p (z9 (vE 1) (z9 (GA 3) (zj)))) (vB 8)) (zE WD (za 2 f_p (z9 (vE 1) (z9 (j7 (zj)) (zj)))) (cE .non))) (lo ns k.t k.all ((r0 :: rt).map Ru.t) ks a b c (.vl (.int (m))))= .ok false:=by
  have v8:vB 8 (lo ns k.t k.all ((r0 :: rt).map Ru.t) ks a b c (.vl (.int (m))))= .ok _:=rfl;have v4:vB 4 (lo ns k.t k.all ((r0 :: rt).map Ru.t) ks a b c (.vl (.int (m))))= .ok _:=rfl;have et:GA 3 (lo ns k.t k.all ((r0 :: rt).map Ru.t) ks a b c (.vl (.int (m))))= .ok _:=rfl;have el:j7 zj (lo ns k.t k.all ((r0 :: rt).map Ru.t) ks a b c (.vl (.int (m))))= .ok _:=rfl;refine uu ?_ (uu ?_ ?_)
  ·rw[zJ,v8,bOk,zt,v4,bOk,Z1,bOk,mi];exact Qn
  ·rw[zJ,zN,v1,bOk,et,bOk,b2,bOk,v8,bOk,Qn]
  ·rw[zJ,zN,v1,bOk,el,bOk,b3,Z1];rfl
 have m0:wq (.lst ks) (.int 0)= .ok (.int (mxB (k.all.length) (cnt k.all r))):=by rw[mi,hyr];rfl
 show zy (b_0 _ _ _ _ _ _ _ _ _ _ _ _ _ _ [.vl _,.un,.un,.un,.un,.un,.un,.un,.un,.un,.un,.un,.un,.st []])=_;rw[b_0,zb e0,zb e1,zb e2,zb e3,zb (zx e4),zb (mk2 hk hl),zb (z0t hk hl hr hrm),zb (z0w hk hl hr hrm m0),zb (z0x hk hl hr hrm)];exact congrArg _ (z0y hk hl hr hrm)
end G
namespace G
open PySem PySem.Spec PyProof.Rows L2 PV
noncomputable def top (i:Nat):Stmt:=PySem.Challenge.pw_worthkinds_k88_whole_best_rules.main.body.getD i (.Pass ⟨0,0,0,0⟩)
noncomputable def um (s:Stmt)(j:Nat):Stmt:=match s with
 | .ClassDef _ _ _ b _ _ _ _ _ _ _=>b.getD j (.Pass ⟨0,0,0,0⟩)
 | s=>s
set_option genInjectivity false in
set_option genSizeOf false in
structure Tx (K:aa) (mg:Str->Option Value):Prop where
 C_1l:FE K mg "_law_cell" (top 61) ["_law_script","_law_k"]
 C_2:FE K mg "_law_pick" (top 62) ["_law_script","_law_k","_law_many"]
 C_z:FE K mg "_law_word_of" (top 63) ["_law_script","_law_at"]
 C_13:FE K mg "_law_leaf_kind" (top 64) ["_law_script","_law_at"]
 C_e:FE K mg "_law_kind" (top 65) ["_law_script","_law_at","_law_deep"]
 C_f:FE K mg "_law_rows_of" (top 67) ["_law_lists"]
 C_4:FE K mg "_law_all" (top 66) ["_law_kind_here"]
 C_c:FE K mg "_law_size" (top 68) ["_law_kind_here"]
 C_18:FE K mg "_law_small" (top 69) ["_law_script","_law_at","_law_most"]
 C_j:FE K mg "_law_rule" (top 70) ["_law_script","_law_at","_law_deep"]
 C_k:FE K mg "_law_leaves" (top 71) ["_law_worth"]
 C_9:FE K mg "_law_keeps" (top 72) ["_law_rule_here","_law_worth"]
 C_i:FE K mg "is_whole" (top 10) ["thing"]
 C_1g:FE K mg "is_bound" (top 48) ["thing"]
 C_u:FE K mg "is_word" (top 12) ["thing"]
 C_m:FE K mg "is_rule_within" (top 47) ["thing","levels"]
 C_8:FE K mg "is_rule" (top 41) ["thing"]
 C_5:FE K mg "need_rule" (top 44) ["rule"]
 C_1e:FE K mg "need_rules" (top 45) ["rules"]
 C_1o:FE K mg "is_span" (top 13) ["low","high","least","most"]
 C_n:FE K mg "is_tuple_of" (top 11) ["thing","least","most"]
 C_1a:FE K mg "is_choice" (top 16) ["thing"]
 C_16:FE K mg "are_choices" (top 15) ["thing"]
 C_7:FE K mg "is_kind_within" (top 14) ["thing","levels"]
 C_1s:FE K mg "are_kinds_within" (top 17) ["thing","levels"]
 C_3:FE K mg "is_kind" (top 8) ["thing"]
 C_1m:FE K mg "need_kind" (top 9) ["kind"]
 C_1:FE K mg "count_of" (top 22) ["kind"]
 C_w:FE K mg "count_of_parts" (top 23) ["kinds"]
 C_q:FE K mg "count_shorter" (top 24) ["kind","length"]
 C_15:FE K mg "words_of_pick" (top 18) ["kind"]
 C_d:FE K mg "worth_at" (top 25) ["kind","number"]
 C_1r:FE K mg "many_at" (top 26) ["kind","number"]
 C_12:FE K mg "parts_at" (top 27) ["kinds","number"]
 C_l:FE K mg "all_worths" (top 21) ["kind"]
 C_h:FE K mg "leaves_of" (top 52) ["worth"]
 C_1f:FE K mg "numbers_in" (top 53) ["worth"]
 C_1n:FE K mg "parts_of" (top 51) ["worth"]
 C_1p:FE K mg "are_rising" (top 54) ["numbers"]
 C_1q:FE K mg "are_unlike" (top 55) ["parts"]
 C_14:FE K mg "is_single_kept" (top 50) ["rule","worth"]
 C_6:FE K mg "is_kept" (top 49) ["rule","worth"]
 C_1i:FE K mg "counts_keeping" (top 46) ["worths","rules"]
 C_p:FE K mg "best_rule" (top 58) ["kind","rules"]
 C_1b:FE K mg "left_by" (top 59) ["step","worths"]
 C_t:FE K mg "keepers" (top 42) ["kind","rule"]
 C_1c:FE K mg "greatest_divisor" (top 30) ["one","other"]
 C_o:FE K mg "fraction" (top 29) ["up","down"]
 C_1h:FE K mg "plus" (top 32) ["one","other"]
 C_a:FE K mg "together" (top 33) ["fractions"]
 C_1d:FE K mg "share_of_word" (top 36) ["kind","word"]
 C_r:FE K mg "times" (top 31) ["one","other"]
 C_b:FE K mg "share_within" (top 35) ["kind","worth"]
 C_1j:FE K mg "share_of_parts" (top 37) ["kinds","parts"]
 C_v:FE K mg "shares_together" (top 34) ["kind","worths"]
 C_1k:FE K mg "share_keeping" (top 43) ["kind","rule"]
 C_0:FE K mg "law" (top 76) ["_law_script"]
 z:∀x,(["abs","all","any","bool","dict","enumerate","int","isinstance","len","list","max","min","range","reversed","set","sorted","str","sum","tuple","zip"]:List Str).contains x=true->mg x=none
 c_DEEPEST:∃u,mg "DEEPEST"=some u/\∃t,u=Value.int 3 t
 c_DEEPEST_RULE:∃u,mg "DEEPEST_RULE"=some u/\∃t,u=Value.int 3 t
 c_FARTHEST_BOUND:∃u,mg "FARTHEST_BOUND"=some u/\∃t,u=Value.int 50 t
 c_MOST_TOLD:∃u,mg "MOST_TOLD"=some u/\∃t,u=Value.int 500 t
structure To (K:aa) (mg:Str->Option Value) (cl:Nat->Value):Prop where
 A_Sieve:CA 101 ["kind","remaining","done","undone"] K cl
 M_Sieve_init:FI K mg cl 101 "Sieve" (um (top 57) 0) ["self","kind"]
 M_Sieve_left:FM K cl 101 "left" (um (top 57) 3) ["self"]
 M_Sieve_do_step:FM K cl 101 "do_step" (um (top 57) 13) ["self","step"]
 M_Sieve_new_step:FM K cl 101 "new_step" (um (top 57) 12) ["self","word","rule"]
 M_Sieve_keep:FM K cl 101 "keep" (um (top 57) 1) ["self","rule"]
 M_Sieve_bar:FM K cl 101 "bar" (um (top 57) 2) ["self","rule"]
 M_Sieve_worths:FM K cl 101 "worths" (um (top 57) 4) ["self"]
 M_Sieve_part:FM K cl 101 "part" (um (top 57) 5) ["self"]
section
variable {Z:Zz}(tx:Tx Z.K Z.mg)(tc:To Z.K Z.mg Z.cl)
include tx tc
set_option hygiene false
local macro_rules | `(tactic| gp_on)=> `(tactic| first
  | (show uq _ _ _ _;first
   | refine KI ?_ ?_
   | exact z1H)
  | (show Snd _ _ (.Name ..) _;first
   | exact z1D _ (pv _)
   | exact tx.c_FARTHEST_BOUND.elim λ_ h=>wY (by rfl) h.1 h.2
   | exact tx.c_DEEPEST_RULE.elim λ_ h=>wY (by rfl) h.1 h.2
   | exact tx.c_DEEPEST.elim λ_ h=>wY (by rfl) h.1 h.2
   | exact tx.c_MOST_TOLD.elim λ_ h=>wY (by rfl) h.1 h.2)
  | (show Snd _ _ (.Constant ..) _;first
   | exact z1E
   | exact z1G
   | exact s_bl
   | exact z1F)
  | (show wx _ _ _ _;first
   | refine KZ ?_ ?_
   | exact z24
   | refine z25 ?_)
  | (show j9 _ _ _ _;first
   | exact KH _ (pv _)
   | refine Snd.b ?_)
  | (show jV _ _ _ _;first
   | refine z26 ?_
   | refine z27 ?_ ?_ ?_
   | refine g9 nd (by rfl) (.inl (by rfl)) ?_
   | refine gw fB (by rfl) ?_ ?_ ?_
   | refine g9 nd (by rfl) (.inr (by rfl)) ?_
   | refine gc nd (by rfl) (.inl (by rfl)) ?_
   | refine gC (cr1 hy (by kernel_rfl) (by kernel_rfl) (by rfl) ?_ (λ_ hy _ _ _ _ _ _=> ?_) (λ_ hy _ _ _ _ _ _ _ hp=> ?_)) nd (by rfl) (.inl (by rfl)) (by rfl)
   | refine gh ?_
   | refine z28 (pv _) ?_
   | exact z2g
   | refine CA.go tc.A_Sieve λ_ e c n=>Gn (pv _) (by rw[hy];exact e) c (n _ (by kernel_rfl)) ?_
   | refine z29 (pv _) ?_
   | refine CA.go tc.A_Sieve λ_ e c n=>Go (pv _) (by rw[hy];exact e) c (n _ (by kernel_rfl)) ?_
   | exact s_mv (pv _) nd (by rfl) (.inl (by rfl))
   | refine YD (n:=_) fB ?_ ?_
   | refine gS (cr1 hy (by kernel_rfl) (by kernel_rfl) (by rfl) ?_ (λ_ hy _ _ _ _ _ _=> ?_) (λ_ hy _ _ _ _ _ _ _ hp=> ?_))
   | refine CA.go tc.A_Sieve λ_ e c n=>z2y (pv _) (by rw[hy];exact e) c (n _ (by kernel_rfl)) ?_
   | refine z2A ?_
   | refine YD (n:=_ ^ _) fB ?_ ?_
   | refine kb (by rfl) nd (by rfl) (by rfl) (by rfl) (by decide) (by decide) (by decide) (by rfl) (by rfl) (by rfl) ?_ (by rfl)
   | refine gw PassesOwn.leaving (by rfl) ?_ ?_ ?_
   | refine Vk (w:="?q") (w2:="?r") (by rfl) nd (by rfl) (by rfl) (by decide) (by rfl) (by rfl) (by rfl) (by rfl) (by rfl) (by rfl) (by decide) ?_ ?_ (by rfl)
   | refine z2C ?_ ?_ ?_
   | refine Gv ?_)
  | (show Snd _ _ (.Call ..) _;first
   | refine z20 (by rfl) (tx.z _ (by kernel_rfl)) ?_
   | exact QM.go (by assumption) λ_ _ _ _ _ _ e c M F=>Vh (pv _) hy e c M.m F hr (by omega) M.b hp
   | refine vS (n:="tuple") (WF _) (by rfl) (tx.z _ (by kernel_rfl)) (by rfl) (tx.z _ (by kernel_rfl)) PyProof.Rows.Boot.«tuple» ?_
   | refine gQ (by rfl) (tx.z _ (by kernel_rfl)) ?_
   | refine z23 hr.hd (by rfl) (tx.z _ (by kernel_rfl)) ?_
   | refine Ga (by rfl) (by rfl) (tx.z _ (by kernel_rfl)) ?_ ?_
   | refine KY (by rfl) (by rfl) (tx.z _ (by kernel_rfl)) ?_ ?_
   | refine Xe (by rfl) (tx.z _ (by kernel_rfl)) ?_
   | refine vS (n:="int") (Xf _) (by rfl) (tx.z _ (by kernel_rfl)) (by rfl) (tx.z _ (by kernel_rfl)) PyProof.Rows.Boot.«int» ?_
   | refine z2h hr.hd (by rfl) (tx.z _ (by kernel_rfl)) ?_
   | refine gH ?_
   | refine XB hr.hd (by rfl) (tx.z _ (by kernel_rfl)) (by rfl) (tx.z _ (by kernel_rfl)) ?_ ?_
   | refine G7 (by rfl) (tx.z _ (by kernel_rfl)) ?_
   | refine vS (n:="bool") (vQ _) (by rfl) (tx.z _ (by kernel_rfl)) (by rfl) (tx.z _ (by kernel_rfl)) PyProof.Rows.Boot.«bool» ?_
   | refine vS (n:="str") (Xg _) (by rfl) (tx.z _ (by kernel_rfl)) (by rfl) (tx.z _ (by kernel_rfl)) PyProof.Rows.Boot.«str» ?_
   | refine G9 (n:="list") (m:="tuple") (vR _) (WF _) (by rfl) (tx.z _ (by kernel_rfl)) (by rfl) (tx.z _ (by kernel_rfl)) PyProof.Rows.Boot.«list» (by rfl) (tx.z _ (by kernel_rfl)) PyProof.Rows.Boot.«tuple» ?_
   | refine gJ hr.hd (by rfl) (tx.z _ (by kernel_rfl)) (by rfl) (tx.z _ (by kernel_rfl)) ?_
   | refine G6 hr.hd (by rfl) (tx.z _ (by kernel_rfl)) (by rfl) (tx.z _ (by kernel_rfl)) ?_
   | refine z2n hr.hd (by rfl) (tx.z _ (by kernel_rfl)) ?_
   | refine XG hr.units ?_ ?_
   | refine Gc hr.hd (by rfl) (tx.z _ (by kernel_rfl)) ?_
   | refine z2E (by rfl) (tx.z _ (by kernel_rfl)) ?_
   | refine z2q (by rfl) (tx.z _ (by kernel_rfl)) ?_
   | exact Gz (pv _) (by rfl) (tx.z _ (by kernel_rfl))
   | exact GB (pv _) (by rfl) (tx.z _ (by kernel_rfl))
   | refine cZ hy (by assumption) hr ?_)
  | (show Snd _ _ (.Subscript ..) _;first
   | refine s_ix ?_ ?_
   | refine z2u (pv _) ?_
   | refine Xj ?_ ?_ ?_
   | refine CA.go tc.A_Sieve λ_ e c n=>z2I (pv _) (by rw[hy];exact e) c (n _ (by kernel_rfl)) ?_
   | refine Gx hr (by rfl) (tx.z _ (by kernel_rfl)) ?_ ?_
   | refine CA.go tc.A_Sieve λ_ e c n=>z2B (pv _) (by rw[hy];exact e) c (n _ (by kernel_rfl)) ?_)
  | (show Snd _ _ (.BinOp ..) _;first
   | refine z1K ?_ ?_
   | refine z1N ?_ ?_
   | refine z1L ?_ ?_
   | refine z1M ?_ ?_
   | refine s_ml ?_ ?_
   | refine KL ?_ ?_
   | refine z2r ?_ ?_)
  | (show Wj _ _ _ _;first
   | refine WC X5 (Ys hr.units) ?_ ?_ (j5 _)
   | refine z1X ?_
   | refine WC X6 (Yt hr.units) ?_ ?_ (j5 _)
   | refine WC z1Q KN ?_ ?_ (j5 _)
   | refine WC z1P KM ?_ ?_ (j5 _)
   | refine WC wU jK ?_ ?_ (j5 _)
   | refine WC vN (VQ hr.units) ?_ ?_ (by rfl)
   | refine WC KP (X7 hr.units) ?_ ?_ (by rfl)
   | refine Xc wU wU jK jK ?_ ?_ ?_
   | refine WC KR Xa ?_ ?_ (j5 _)
   | refine z1Y ?_
   | refine yQ.t ?_)
  | (show Snd _ _ (.BoolOp ..) _;first
   | refine z1T ?_ ?_
   | refine s_or ?_ ?_
   | refine z1S ?_)
  | (show Wm _ _ _ _ _;first
   | refine gr (by rfl) (tx.z _ (by kernel_rfl)) ?_
   | refine gu (by rfl) (tx.z _ (by kernel_rfl)) ?_ ?_
   | refine z2d (by rfl) (tx.z _ (by kernel_rfl)) ?_ ?_
   | refine gF (by rfl) (tx.z _ (by kernel_rfl)) ?_
   | refine z2l (by rfl) (tx.z _ (by kernel_rfl)) ?_
   | refine XM (by rfl) (tx.z _ (by kernel_rfl)) ?_
   | refine z2c ?_)
  | (show Snd _ _ (.Compare ..) _;first
   | refine Yr X5 (Ys hr.units) ?_ ?_ (j5 _)
   | refine Xb wU wU jK jK ?_ ?_ ?_
   | refine Yr wU jK ?_ ?_ (j5 _)
   | refine Yr vN (VQ hr.units) ?_ ?_ (by rfl)
   | refine Yr z1R KO ?_ ?_ (j5 _)
   | refine Yr X6 (Yt hr.units) ?_ ?_ (j5 _)
   | refine vO wU wU wU jK jK jK ?_ ?_ ?_ ?_)
  | (show Jm _ _ _ _;first
   | exact gA
   | refine gB ?_)
  | (show yQ _ _ _ _;first
   | refine w_or ?_ ?_
   | refine z1W ?_ ?_
   | refine z1V ?_
   | refine KT ?_)
  | (show Snd _ _ (.Tuple ..) _;first
   | refine z1I ?_)
  | (show Snd _ _ (.ListComp ..) _;first
   | refine XZ (cd1 (by rfl) hy (by kernel_rfl) (by kernel_rfl) (by rfl) ?_ (λ_ hy _ _ _ _ _ _ _=> ?_) (λ_ hy _ _ _ _ _ _ _=> ?_))
   | refine VX (cr1 hy (by kernel_rfl) (by kernel_rfl) (by rfl) ?_ (λ_ hy _ _ _ _ _ _=> ?_) (λ_ hy _ _ _ _ _ _ _ hp=> ?_))
   | refine VX (cr2 hy (by kernel_rfl) (by kernel_rfl) (by rfl) ?_ (λ_ hy _ _ _ _ _ _=> ?_) (λ_ hy _ _ _ _ _ _ _ hp=> ?_)))
  | (show Snd _ _ (.List ..) _;first
   | refine z1J ?_)
  | (show z0G _ _ _ _;first
   | exact VV nd (by rfl) (.inl (by rfl))
   | exact VV nd (by rfl) (.inr (by rfl))
   | exact gv (by rfl) nd (by rfl) (by rfl) (.inl (by rfl)) (.inl (by rfl)))
  | (show xh _ _ _ _;first
   | refine Gm ?_ ?_
   | refine z2v ?_
   | exact z2x)
  | (show Snd _ _ (.UnaryOp ..) _;first
   | refine z1O ?_
   | refine z1U ?_)
  | (show Xh _ _ _ _;first
   | exact KU
   | refine KW ?_)
  | (show Snd _ _ (.IfExp ..) _;first
   | refine s_if ?_ ?_ ?_)
  | (show wD _ _ (.Call ..) _;first
   | refine QM.go (by assumption) λ_ _ _ _ _ _ e c M F=>Gp (pv _) hy e c M.m F hr (by omega) M.b hp ?_)
  | (show wD _ _ _ _;first
   | refine Gk ?_)
  | (show uN _ _ _ _;first
   | refine Gq X6 (Yt hr.units) ?_ ?_ (j5 _)
   | refine k6 ?_
   | refine uO.t ?_)
  | (show Vj _ _ _ _ _;first
   | refine QI.go (by assumption) λ_ _ _ _ _ _ e g M O F=>q_mk hy e M F hr (by omega) (by rfl) g O.b hp ?_)
  | (show uO _ _ _ _;first
   | refine z2D ?_ ?_
   | refine Gr ?_)
  | (show wD _ _ (.BinOp ..) _;first
   | refine z2G Yq ?_ ?_)
  | (show wD _ _ (.BoolOp ..) _;first
   | refine z2K ?_ ?_
   | refine m_one ?_)
  | (show Snd _ _ (.Attribute ..) _;first
   | exact CA.go tc.A_Sieve λ_ e c n=>Gu (pv _) (by rw[hy];exact e) c (n _ (by kernel_rfl)))
  | (show wD _ _ (.Compare ..) _;first
   | refine z2H X5 (Ys hr.units) ?_ ?_ (j5 _))
  )
local macro_rules | `(tactic| kd_all)=> `(tactic| (intro cdv A outer s H E Y hy hE hr nd hp;repeat' gp_on))
theorem z3j:qP Z "_law_cell" 2 1 (oP 2 b_1l):=by
 refine okP tx.C_1l ["_law_script","_law_k"] λ_=> ?_
 kd_all
theorem ok_2 (_:qP Z "_law_cell" 2 1 c_1l):qP Z "_law_pick" 3 2 (oP 4 (b_2 c_1l)):=by
 refine okP tx.C_2 ["_law_script","_law_k","_law_many","_law_drawn"] λ_=> ?_
 kd_all
theorem ok_z (_:qP Z "_law_pick" 3 2 c_2):qP Z "_law_word_of" 2 3 (oP 3 (b_z c_2)):=by
 refine okP tx.C_z ["_law_script","_law_at","_law_letters"] λ_=> ?_
 kd_all
theorem z3k (_:qP Z "_law_pick" 3 2 c_2)(_:qP Z "_law_word_of" 2 3 c_z):qP Z "_law_leaf_kind" 2 4 (oP 6 (z0O c_2 c_z)):=by
 refine okP tx.C_13 ["_law_script","_law_at","_law_low","_law_words","_law_k","_law_word"] λ_=> ?_
 kd_all
theorem ok_e {j:Nat}(hj:4<=j)(_:qP Z "_law_pick" 3 2 c_2)(_:qP Z "_law_leaf_kind" 2 4 c_13)(_:qP Z "_law_kind" 3 j c_e):qP Z "_law_kind" 3 (j+1) (oP 6 (b_e c_2 c_13 c_e)):=by
 refine okP tx.C_e ["_law_script","_law_at","_law_deep","_law_way","_law_some","_law_low"] λ_=> ?_
 kd_all
theorem ok_f:qP Z "_law_rows_of" 1 1 (oP 5 b_f):=by
 refine okP tx.C_f ["_law_lists","_law_made","_law_some","_law_longer","_law_ahead"] λ_=> ?_
 kd_all
theorem ok_4 {j:Nat}(hj:1<=j)(_:qP Z "_law_all" 1 j c_4)(_:qP Z "_law_rows_of" 1 1 c_f):qP Z "_law_all" 1 (j+1) (oP 3 (b_4 c_4 c_f)):=by
 refine okP tx.C_4 ["_law_kind_here","_law_made","_law_size_here"] λ_=> ?_
 kd_all
theorem ok_c {j:Nat}(hj:9<=j)(_:qP Z "_law_all" 1 9 c_4)(_:qP Z "_law_size" 1 j c_c):qP Z "_law_size" 1 (j+1) (oP 5 (b_c c_4 c_c)):=by
 refine okP tx.C_c ["_law_kind_here","_law_sizes","_law_made","_law_size_here","_law_inner"] λ_=> ?_
 kd_all
theorem z3l (_:qP Z "_law_kind" 3 12 c_e)(_:qP Z "_law_size" 1 17 c_c):qP Z "_law_small" 3 18 (oP 5 (z0P c_e c_c)):=by
 refine okP tx.C_18 ["_law_script","_law_at","_law_most","_law_kind_here","_law_k"] λ_=> ?_
 kd_all
theorem ok_j {j:Nat}(hj:2<=j)(_:qP Z "_law_pick" 3 2 c_2)(_:qP Z "_law_rule" 3 j c_j):qP Z "_law_rule" 3 (j+1) (oP 6 (b_j c_2 c_j)):=by
 refine okP tx.C_j ["_law_script","_law_at","_law_deep","_law_way","_law_one","_law_low"] λ_=> ?_
 kd_all
theorem ok_k {j:Nat}(hj:0<=j)(_:qP Z "_law_leaves" 1 j c_k):qP Z "_law_leaves" 1 (j+1) (oP 3 (b_k c_k)):=by
 refine okP tx.C_k ["_law_worth","_law_made","_law_part"] λ_=> ?_
 kd_all
theorem ok_9 {j:Nat}(hj:8<=j)(_:qP Z "_law_leaves" 1 8 c_k)(_:qP Z "_law_keeps" 2 j c_9):qP Z "_law_keeps" 2 (j+1) (oP 7 (b_9 c_k c_9)):=by
 refine okP tx.C_9 ["_law_rule_here","_law_worth","_law_numbers","_law_parts","_law_total","_law_number","_law_some"] λ_=> ?_
 kd_all
theorem ok_i:qP Z "is_whole" 1 1 (oP 1 b_i):=by
 refine okP tx.C_i ["thing"] λ_=> ?_
 kd_all
theorem z3m (_:qP Z "is_whole" 1 1 c_i):qP Z "is_bound" 1 2 (oP 1 (z2L c_i)):=by
 refine okP tx.C_1g ["thing"] λ_=> ?_
 kd_all
theorem ok_u:qP Z "is_word" 1 1 (oP 1 b_u):=by
 refine okP tx.C_u ["thing"] λ_=> ?_
 kd_all
theorem ok_m {j:Nat}(hj:2<=j)(_:qP Z "is_word" 1 1 c_u)(_:qP Z "is_rule_within" 2 j c_m)(_:qP Z "is_bound" 1 2 c_1g):qP Z "is_rule_within" 2 (j+1) (oP 2 (b_m c_u c_m c_1g)):=by
 refine okP tx.C_m ["thing","levels"] λ_=> ?_
 kd_all
theorem ok_8 (_:qP Z "is_rule_within" 2 10 c_m):qP Z "is_rule" 1 11 (oP 1 (b_8 c_m)):=by
 refine okP tx.C_8 ["thing"] λ_=> ?_
 kd_all
theorem ok_5 (_:qP Z "is_rule" 1 11 c_8):qP Z "need_rule" 1 12 (oP 1 (b_5 c_8)):=by
 refine okP tx.C_5 ["rule"] λ_=> ?_
 kd_all
theorem z3n (_:qP Z "need_rule" 1 12 c_5):qP Z "need_rules" 1 13 (oP 2 (z0R c_5)):=by
 refine okP tx.C_1e ["rules","rule"] λ_=> ?_
 kd_all
theorem z3o (_:qP Z "is_whole" 1 1 c_i):qP Z "is_span" 4 2 (oP 4 (b_1o c_i)):=by
 refine okP tx.C_1o ["low","high","least","most"] λ_=> ?_
 kd_all
theorem ok_n:qP Z "is_tuple_of" 3 1 (oP 3 b_n):=by
 refine okP tx.C_n ["thing","least","most"] λ_=> ?_
 kd_all
theorem z3p (_:qP Z "is_whole" 1 1 c_i)(_:qP Z "is_tuple_of" 3 1 c_n)(_:qP Z "is_word" 1 1 c_u):qP Z "is_choice" 1 2 (oP 1 (z0U c_i c_n c_u)):=by
 refine okP tx.C_1a ["thing"] λ_=> ?_
 kd_all
theorem z3q (_:qP Z "is_tuple_of" 3 1 c_n)(_:qP Z "is_choice" 1 2 c_1a):qP Z "are_choices" 1 3 (oP 2 (z0V c_n c_1a)):=by
 refine okP tx.C_16 ["thing","words"] λ_=> ?_
 kd_all
theorem ok_7 {j:Nat}(hj:3<=j)(_:qP Z "is_span" 4 2 c_1o)(_:qP Z "is_kind_within" 2 j c_7)(_:qP Z "are_choices" 1 3 c_16)(_:qP Z "are_kinds_within" 2 j c_1s):qP Z "is_kind_within" 2 (j+1) (oP 2 (b_7 c_1o c_7 c_16 c_1s)):=by
 refine okP tx.C_7 ["thing","levels"] λ_=> ?_
 kd_all
theorem z3r {j:Nat}(hj:3<=j)(_:qP Z "is_tuple_of" 3 1 c_n)(_:qP Z "is_kind_within" 2 j c_7):qP Z "are_kinds_within" 2 (j+1) (oP 2 (z0W c_n c_7)):=by
 refine okP tx.C_1s ["thing","levels"] λ_=> ?_
 kd_all
theorem ok_3 (_:qP Z "is_kind_within" 2 23 c_7):qP Z "is_kind" 1 24 (oP 1 (b_3 c_7)):=by
 refine okP tx.C_3 ["thing"] λ_=> ?_
 kd_all
theorem z3s (_:qP Z "is_kind" 1 24 c_3):qP Z "need_kind" 1 25 (oP 1 (z0X c_3)):=by
 refine okP tx.C_1m ["kind"] λ_=> ?_
 kd_all
theorem ok_1 {j:Nat}(hj:0<=j)(_:qP Z "count_of_parts" 1 j c_w)(_:qP Z "count_shorter" 2 j c_q):qP Z "count_of" 1 (j+1) (oP 1 (b_1 c_w c_q)):=by
 refine okP tx.C_1 ["kind"] λ_=> ?_
 kd_all
theorem ok_w {j:Nat}(hj:0<=j)(_:qP Z "count_of" 1 j c_1):qP Z "count_of_parts" 1 (j+1) (oP 3 (b_w c_1)):=by
 refine okP tx.C_w ["kinds","count","kind"] λ_=> ?_
 kd_all
theorem ok_q {j:Nat}(hj:0<=j)(_:qP Z "count_of_parts" 1 j c_w):qP Z "count_shorter" 2 (j+1) (oP 2 (b_q c_w)):=by
 refine okP tx.C_q ["kind","length"] λ_=> ?_
 kd_all
theorem z3t:qP Z "words_of_pick" 1 1 (oP 1 z0Y):=by
 refine okP tx.C_15 ["kind"] λ_=> ?_
 kd_all
theorem ok_d {j:Nat}(hj:20<=j)(_:qP Z "words_of_pick" 1 1 c_15)(_:qP Z "many_at" 2 j c_1r)(_:qP Z "parts_at" 2 j c_12):qP Z "worth_at" 2 (j+1) (oP 2 (b_d c_15 c_1r c_12)):=by
 refine okP tx.C_d ["kind","number"] λ_=> ?_
 kd_all
theorem z3u {j:Nat}(hj:20<=j)(_:qP Z "count_shorter" 2 20 c_q)(_:qP Z "parts_at" 2 j c_12):qP Z "many_at" 2 (j+1) (oP 3 (GI c_q c_12)):=by
 refine okP tx.C_1r ["kind","number","length"] λ_=> ?_
 kd_all
theorem z3v {j:Nat}(hj:20<=j)(_:qP Z "count_of" 1 20 c_1)(_:qP Z "worth_at" 2 j c_d):qP Z "parts_at" 2 (j+1) (oP 6 (GJ c_1 c_d)):=by
 refine okP tx.C_12 ["kinds","number","parts","rest","kind","count"] λ_=> ?_
 kd_all
theorem ok_l (_:qP Z "need_kind" 1 25 c_1m)(_:qP Z "count_of" 1 20 c_1)(_:qP Z "worth_at" 2 40 c_d):qP Z "all_worths" 1 41 (oP 2 (b_l c_1m c_1 c_d)):=by
 refine okP tx.C_l ["kind","count"] λ_=> ?_
 kd_all
theorem ok_h {j:Nat}(hj:0<=j)(_:qP Z "leaves_of" 1 j c_h):qP Z "leaves_of" 1 (j+1) (oP 3 (b_h c_h)):=by
 refine okP tx.C_h ["worth","leaves","part"] λ_=> ?_
 kd_all
theorem z3w (_:qP Z "is_whole" 1 1 c_i)(_:qP Z "leaves_of" 1 8 c_h):qP Z "numbers_in" 1 9 (oP 1 (z2N c_i c_h)):=by
 refine okP tx.C_1f ["worth"] λ_=> ?_
 kd_all
theorem z3x:qP Z "parts_of" 1 1 (oP 1 b_1n):=by
 refine okP tx.C_1n ["worth"] λ_=> ?_
 kd_all
theorem z3y:qP Z "are_rising" 1 1 (oP 1 z2O):=by
 refine okP tx.C_1p ["numbers"] λ_=> ?_
 kd_all
theorem z3z:qP Z "are_unlike" 1 1 (oP 1 z2Q):=by
 refine okP tx.C_1q ["parts"] λ_=> ?_
 kd_all
theorem z3A (_:qP Z "parts_of" 1 1 c_1n)(_:qP Z "leaves_of" 1 8 c_h)(_:qP Z "numbers_in" 1 9 c_1f)(_:qP Z "are_rising" 1 1 c_1p)(_:qP Z "are_unlike" 1 1 c_1q):qP Z "is_single_kept" 2 10 (oP 2 (z11 c_1n c_h c_1f c_1p c_1q)):=by
 refine okP tx.C_14 ["rule","worth"] λ_=> ?_
 kd_all
theorem ok_6 {j:Nat}(hj:10<=j)(_:qP Z "is_kept" 2 j c_6)(_:qP Z "is_single_kept" 2 10 c_14):qP Z "is_kept" 2 (j+1) (oP 2 (b_6 c_6 c_14)):=by
 refine okP tx.C_6 ["rule","worth"] λ_=> ?_
 kd_all
theorem z3B (_:qP Z "is_kept" 2 18 c_6):qP Z "counts_keeping" 2 19 (oP 2 (z2S c_6)):=by
 refine okP tx.C_1i ["worths","rules"] λ_=> ?_
 kd_all
theorem ok_p (_:qP Z "all_worths" 1 41 c_l)(_:qP Z "need_rules" 1 13 c_1e)(_:qP Z "counts_keeping" 2 19 c_1i):qP Z "best_rule" 2 42 (oP 4 (b_p c_l c_1e c_1i)):=by
 refine okP tx.C_p ["kind","rules","worths","greater"] λ_=> ?_
 kd_all
theorem z3C (_:qP Z "all_worths" 1 41 c_l):qI Z 101 "Sieve" 1 42 (oM 101 2 (b_10 c_l)):=by
 refine okI tc.M_Sieve_init ["self","kind","?"] λ_ _=> ?_
 kd_all
theorem ok_g:qO Z 101 "left" 0 1 (oO 101 1 0 b_g):=by
 refine okO tc.A_Sieve tc.M_Sieve_left ["self","?"] λ_ _=> ?_
 kd_all
theorem z3D (_:qP Z "is_kept" 2 18 c_6):qP Z "left_by" 2 19 (oP 3 (z13 c_6)):=by
 refine okP tx.C_1b ["step","worths","is_keep"] λ_=> ?_
 kd_all
theorem ok_x (_:qP Z "left_by" 2 19 c_1b):qM Z 101 "do_step" 1 20 (oM 101 2 (b_x c_1b)):=by
 refine okM tc.A_Sieve tc.M_Sieve_do_step ["self","step","?"] λ_ _=> ?_
 kd_all
theorem ok_s (_:qP Z "need_rule" 1 12 c_5)(_:qO Z 101 "left" 0 1 c_g)(_:qM Z 101 "do_step" 1 20 c_x):qM Z 101 "new_step" 2 21 (oM 101 4 (b_s c_5 c_g c_x)):=by
 refine okM tc.A_Sieve tc.M_Sieve_new_step ["self","word","rule","before","?"] λ_ _=> ?_
 kd_all
theorem z3E (_:qM Z 101 "new_step" 2 21 c_s):qM Z 101 "keep" 1 22 (oM 101 2 (b_17 c_s)):=by
 refine okM tc.A_Sieve tc.M_Sieve_keep ["self","rule","?"] λ_ _=> ?_
 kd_all
theorem z3F (_:qM Z 101 "new_step" 2 21 c_s):qM Z 101 "bar" 1 22 (oM 101 2 (b_19 c_s)):=by
 refine okM tc.A_Sieve tc.M_Sieve_bar ["self","rule","?"] λ_ _=> ?_
 kd_all
theorem ok_y:qO Z 101 "worths" 0 1 (oO 101 1 0 b_y):=by
 refine okO tc.A_Sieve tc.M_Sieve_worths ["self","?"] λ_ _=> ?_
 kd_all
theorem ok_t (_:qP Z "all_worths" 1 41 c_l)(_:qP Z "need_rule" 1 12 c_5)(_:qP Z "is_kept" 2 18 c_6):qP Z "keepers" 2 42 (oP 2 (b_t c_l c_5 c_6)):=by
 refine okP tx.C_t ["kind","rule"] λ_=> ?_
 kd_all
theorem z3G:qP Z "greatest_divisor" 2 1 (oP 3 z14):=by
 refine okP tx.C_1c ["one","other","rest"] λ_=> ?_
 kd_all
theorem ok_o (_:qP Z "greatest_divisor" 2 1 c_1c):qP Z "fraction" 2 2 (oP 3 (b_o c_1c)):=by
 refine okP tx.C_o ["up","down","divisor"] λ_=> ?_
 kd_all
theorem z3H (_:qP Z "fraction" 2 2 c_o):qP Z "plus" 2 3 (oP 2 (z16 c_o)):=by
 refine okP tx.C_1h ["one","other"] λ_=> ?_
 kd_all
theorem ok_a (_:qP Z "plus" 2 3 c_1h):qP Z "together" 1 4 (oP 3 (b_a c_1h)):=by
 refine okP tx.C_a ["fractions","total","each"] λ_=> ?_
 kd_all
theorem z3I (_:qP Z "fraction" 2 2 c_o):qP Z "share_of_word" 2 3 (oP 3 (z18 c_o)):=by
 refine okP tx.C_1d ["kind","word","weights"] λ_=> ?_
 kd_all
 refine QQ.go (by assumption) λ_ _ _ _ C F=>XW (i:=2) (j:=1) (by decide) hy F hr (by omega) (by rfl) C.m C.F.kp C.b nd (by rfl) (.inl (by rfl)) (by rfl) (tx.z _ (by kernel_rfl)) (by rfl) (tx.z _ (by kernel_rfl)) (pv 2) (pv 1) ?_ (pi' :=pv 2)
 repeat' gp_on
theorem ok_r (_:qP Z "fraction" 2 2 c_o):qP Z "times" 2 3 (oP 2 (b_r c_o)):=by
 refine okP tx.C_r ["one","other"] λ_=> ?_
 kd_all
theorem ok_b {j:Nat}(hj:20<=j)(_:qP Z "count_of" 1 20 c_1)(_:qP Z "times" 2 3 c_r)(_:qP Z "share_of_word" 2 3 c_1d)(_:qP Z "share_of_parts" 2 j c_1j):qP Z "share_within" 2 (j+1) (oP 3 (b_b c_1 c_r c_1d c_1j)):=by
 refine okP tx.C_b ["kind","worth","one_length"] λ_=> ?_
 kd_all
theorem z3J {j:Nat}(hj:20<=j)(_:qP Z "times" 2 3 c_r)(_:qP Z "share_within" 2 j c_b):qP Z "share_of_parts" 2 (j+1) (oP 5 (GM c_r c_b)):=by
 refine okP tx.C_1j ["kinds","parts","share","kind","part"] λ_=> ?_
 kd_all
theorem ok_v (_:qP Z "together" 1 4 c_a)(_:qP Z "share_within" 2 40 c_b):qP Z "shares_together" 2 41 (oP 2 (b_v c_a c_b)):=by
 refine okP tx.C_v ["kind","worths"] λ_=> ?_
 kd_all
theorem z3K (_:qP Z "shares_together" 2 41 c_v):qO Z 101 "part" 0 42 (oO 101 1 0 (z1a c_v)):=by
 refine okO tc.A_Sieve tc.M_Sieve_part ["self","?"] λ_ _=> ?_
 kd_all
theorem z3L (_:qP Z "shares_together" 2 41 c_v)(_:qP Z "keepers" 2 42 c_t):qP Z "share_keeping" 2 43 (oP 2 (z2T c_v c_t)):=by
 refine okP tx.C_1k ["kind","rule"] λ_=> ?_
 kd_all
theorem ok_0 {f:Addr}{fd:FuncData}(C:Fn Z.K Z.mg "law" (top 76) ["_law_script"] f fd)(_:qP Z "_law_pick" 3 2 c_2)(_:qP Z "_law_all" 1 9 c_4)(_:qP Z "_law_small" 3 18 c_18)(_:qP Z "_law_rule" 3 10 c_j)(_:qP Z "_law_keeps" 2 16 c_9)(_:qP Z "keepers" 2 42 c_t)(_:qP Z "share_keeping" 2 43 c_1k)(_:qP Z "best_rule" 2 42 c_p)(_:qI Z 101 "Sieve" 1 42 c_10)(_:qM Z 101 "keep" 1 22 c_17)(_:qM Z 101 "bar" 1 22 c_19)(_:qO Z 101 "left" 0 1 c_g)(_:qO Z 101 "worths" 0 1 c_y)(_:qO Z 101 "part" 0 42 c_11):jq Z.P Z.w Z.K Z.mg Z.base (CX1 Z.P Z.w) 44 f fd ["_law_script"] (spP Z.cl 1 (oS 14 (b_0 c_2 c_4 c_18 c_j c_9 c_t c_1k c_p c_10 c_17 c_19 c_g c_y c_11))):=by
 refine okLS C ["_law_script","_law_kind_here","_law_every","_law_rules","_law_ranks","_law_k","_law_rule_here","_law_kept","_law_told","_law_one","_law_other","?q","?r","?"] ?_
 kd_all
end
section
variable {Z:Zz}(tx:Tx Z.K Z.mg)(tc:To Z.K Z.mg Z.cl)
include tx tc
theorem z0z {f:Addr}{fd:FuncData}(C:Fn Z.K Z.mg "law" (top 76) ["_law_script"] f fd):jq Z.P Z.w Z.K Z.mg Z.base (CX1 Z.P Z.w) 44 f fd ["_law_script"] (spP Z.cl 1 f_0):=by
 have O_1l:qP Z "_law_cell" 2 1 GC:=z3j tx tc;have O_2:qP Z "_law_pick" 3 2 f_2:=ok_2 tx tc O_1l;have O_z:qP Z "_law_word_of" 2 3 f_z:=ok_z tx tc O_2;have O_13:qP Z "_law_leaf_kind" 2 4 GD:=z3k tx tc O_2 O_z;have R_e:∀n:Nat,qP Z "_law_kind" 3 (4+n) (S_e n 0):=by
  intro n
  induction n with
  | zero=>exact okB tx.C_e
  | succ n ih=>exact ok_e tx tc (aJ _ _) O_2 O_13 ih
 have O_e:qP Z "_law_kind" 3 12 (f_e 8):=(R_e 8);have O_f:qP Z "_law_rows_of" 1 1 f_f:=ok_f tx tc;have R_4:∀n:Nat,qP Z "_law_all" 1 (1+n) (S_4 n 0):=by
  intro n
  induction n with
  | zero=>exact okB tx.C_4
  | succ n ih=>exact ok_4 tx tc (aJ _ _) ih O_f
 have O_4:qP Z "_law_all" 1 9 (f_4 8):=(R_4 8);have R_c:∀n:Nat,qP Z "_law_size" 1 (9+n) (S_c n 0):=by
  intro n
  induction n with
  | zero=>exact okB tx.C_c
  | succ n ih=>exact ok_c tx tc (aJ _ _) O_4 ih
 have O_c:qP Z "_law_size" 1 17 (f_c 8):=(R_c 8);have O_18:qP Z "_law_small" 3 18 GE:=z3l tx tc O_e O_c;have R_j:∀n:Nat,qP Z "_law_rule" 3 (2+n) (S_j n 0):=by
  intro n
  induction n with
  | zero=>exact okB tx.C_j
  | succ n ih=>exact ok_j tx tc (aJ _ _) O_2 ih
 have O_j:qP Z "_law_rule" 3 10 (f_j 8):=(R_j 8);have R_k:∀n:Nat,qP Z "_law_leaves" 1 (0+n) (S_k n 0):=by
  intro n
  induction n with
  | zero=>exact okB tx.C_k
  | succ n ih=>exact ok_k tx tc (aJ _ _) ih
 have O_k:qP Z "_law_leaves" 1 8 (f_k 8):=(R_k 8);have R_9:∀n:Nat,qP Z "_law_keeps" 2 (8+n) (S_9 n 0):=by
  intro n
  induction n with
  | zero=>exact okB tx.C_9
  | succ n ih=>exact ok_9 tx tc (aJ _ _) O_k ih
 have O_9:qP Z "_law_keeps" 2 16 (f_9 8):=(R_9 8);have O_i:qP Z "is_whole" 1 1 f_i:=ok_i tx tc;have O_1g:qP Z "is_bound" 1 2 z0Q:=z3m tx tc O_i;have O_u:qP Z "is_word" 1 1 f_u:=ok_u tx tc;have R_m:∀n:Nat,qP Z "is_rule_within" 2 (2+n) (S_m n 0):=by
  intro n
  induction n with
  | zero=>exact okB tx.C_m
  | succ n ih=>exact ok_m tx tc (aJ _ _) O_u ih O_1g
 have O_m:qP Z "is_rule_within" 2 10 (f_m 8):=(R_m 8);have O_8:qP Z "is_rule" 1 11 f_8:=ok_8 tx tc O_m;have O_5:qP Z "need_rule" 1 12 f_5:=ok_5 tx tc O_8;have O_1e:qP Z "need_rules" 1 13 z0S:=z3n tx tc O_5;have O_1o:qP Z "is_span" 4 2 z0T:=z3o tx tc O_i;have O_n:qP Z "is_tuple_of" 3 1 f_n:=ok_n tx tc;have O_1a:qP Z "is_choice" 1 2 GF:=z3p tx tc O_i O_n O_u;have O_16:qP Z "are_choices" 1 3 GG:=z3q tx tc O_n O_1a;have R_7:∀n:Nat,qP Z "is_kind_within" 2 (3+n) (S_7 n 0)/\qP Z "are_kinds_within" 2 (3+n) (S_7 n 1):=by
  intro n
  induction n with
  | zero=>exact⟨okB tx.C_7,okB tx.C_1s⟩
  | succ n ih=>exact⟨ok_7 tx tc (aJ _ _) O_1o ih.1 O_16 ih.2,z3r tx tc (aJ _ _) O_n ih.1⟩
 have O_7:qP Z "is_kind_within" 2 23 (f_7 20):=(R_7 20).1;have O_1s:qP Z "are_kinds_within" 2 23 (f_1s 20):=(R_7 20).2;have O_3:qP Z "is_kind" 1 24 f_3:=ok_3 tx tc O_7;have O_1m:qP Z "need_kind" 1 25 z2M:=z3s tx tc O_3;have R_1:∀n:Nat,qP Z "count_of" 1 (0+n) (S_1 n 0)/\qP Z "count_of_parts" 1 (0+n) (S_1 n 1)/\qP Z "count_shorter" 2 (0+n) (S_1 n 2):=by
  intro n
  induction n with
  | zero=>exact⟨okB tx.C_1,okB tx.C_w,okB tx.C_q⟩
  | succ n ih=>exact⟨ok_1 tx tc (aJ _ _) ih.2.1 ih.2.2,ok_w tx tc (aJ _ _) ih.1,ok_q tx tc (aJ _ _) ih.2.1⟩
 have O_1:qP Z "count_of" 1 20 (f_1 20):=(R_1 20).1;have O_w:qP Z "count_of_parts" 1 20 (f_w 20):=(R_1 20).2.1;have O_q:qP Z "count_shorter" 2 20 (f_q 20):=(R_1 20).2.2;have O_15:qP Z "words_of_pick" 1 1 GH:=z3t tx tc;have R_d:∀n:Nat,qP Z "worth_at" 2 (20+n) (S_d n 0)/\qP Z "many_at" 2 (20+n) (S_d n 1)/\qP Z "parts_at" 2 (20+n) (S_d n 2):=by
  intro n
  induction n with
  | zero=>exact⟨okB tx.C_d,okB tx.C_1r,okB tx.C_12⟩
  | succ n ih=>exact⟨ok_d tx tc (aJ _ _) O_15 ih.2.1 ih.2.2,z3u tx tc (aJ _ _) O_q ih.2.2,z3v tx tc (aJ _ _) O_1 ih.1⟩
 have O_d:qP Z "worth_at" 2 40 (f_d 20):=(R_d 20).1;have O_1r:qP Z "many_at" 2 40 (f_1r 20):=(R_d 20).2.1;have O_12:qP Z "parts_at" 2 40 (f_12 20):=(R_d 20).2.2;have O_l:qP Z "all_worths" 1 41 f_l:=ok_l tx tc O_1m O_1 O_d;have R_h:∀n:Nat,qP Z "leaves_of" 1 (0+n) (S_h n 0):=by
  intro n
  induction n with
  | zero=>exact okB tx.C_h
  | succ n ih=>exact ok_h tx tc (aJ _ _) ih
 have O_h:qP Z "leaves_of" 1 8 (f_h 8):=(R_h 8);have O_1f:qP Z "numbers_in" 1 9 z0Z:=z3w tx tc O_i O_h;have O_1n:qP Z "parts_of" 1 1 z10:=z3x tx tc;have O_1p:qP Z "are_rising" 1 1 z2P:=z3y tx tc;have O_1q:qP Z "are_unlike" 1 1 z2R:=z3z tx tc;have O_14:qP Z "is_single_kept" 2 10 GK:=z3A tx tc O_1n O_h O_1f O_1p O_1q;have R_6:∀n:Nat,qP Z "is_kept" 2 (10+n) (S_6 n 0):=by
  intro n
  induction n with
  | zero=>exact okB tx.C_6
  | succ n ih=>exact ok_6 tx tc (aJ _ _) ih O_14
 have O_6:qP Z "is_kept" 2 18 (f_6 8):=(R_6 8);have O_1i:qP Z "counts_keeping" 2 19 z12:=z3B tx tc O_6;have O_p:qP Z "best_rule" 2 42 f_p:=ok_p tx tc O_l O_1e O_1i;have O_10:qI Z 101 "Sieve" 1 42 kd:=z3C tx tc O_l;have O_g:qO Z 101 "left" 0 1 f_g:=ok_g tx tc;have O_1b:qP Z "left_by" 2 19 GL:=z3D tx tc O_6;have O_x:qM Z 101 "do_step" 1 20 f_x:=ok_x tx tc O_1b;have O_s:qM Z 101 "new_step" 2 21 f_s:=ok_s tx tc O_5 O_g O_x;have O_17:qM Z 101 "keep" 1 22 K2:=z3E tx tc O_s;have O_19:qM Z 101 "bar" 1 22 K3:=z3F tx tc O_s;have O_y:qO Z 101 "worths" 0 1 f_y:=ok_y tx tc;have O_t:qP Z "keepers" 2 42 f_t:=ok_t tx tc O_l O_5 O_6;have O_1c:qP Z "greatest_divisor" 2 1 z15:=z3G tx tc;have O_o:qP Z "fraction" 2 2 f_o:=ok_o tx tc O_1c;have O_1h:qP Z "plus" 2 3 z17:=z3H tx tc O_o;have O_a:qP Z "together" 1 4 f_a:=ok_a tx tc O_1h;have O_1d:qP Z "share_of_word" 2 3 z19:=z3I tx tc O_o;have O_r:qP Z "times" 2 3 f_r:=ok_r tx tc O_o;have R_b:∀n:Nat,qP Z "share_within" 2 (20+n) (S_b n 0)/\qP Z "share_of_parts" 2 (20+n) (S_b n 1):=by
  intro n
  induction n with
  | zero=>exact⟨okB tx.C_b,okB tx.C_1j⟩
  | succ n ih=>exact⟨ok_b tx tc (aJ _ _) O_1 O_r O_1d ih.2,z3J tx tc (aJ _ _) O_r ih.1⟩
 have O_b:qP Z "share_within" 2 40 (f_b 20):=(R_b 20).1;have O_1j:qP Z "share_of_parts" 2 40 (f_1j 20):=(R_b 20).2;have O_v:qP Z "shares_together" 2 41 f_v:=ok_v tx tc O_a O_b;have O_11:qO Z 101 "part" 0 42 K4:=z3K tx tc O_v;have O_1k:qP Z "share_keeping" 2 43 z1b:=z3L tx tc O_v O_t;exact ok_0 tx tc C O_2 O_4 O_18 O_j O_9 O_t O_1k O_p O_10 O_17 O_19 O_g O_y O_11
end
noncomputable def xC:List Str:=["NoKind","NoWorth","NoRule","TooMany","Ended","NoText","NoBack"]
noncomputable def clK (K:aa)(c:Nat):Value:=match fu K mainGlobals (if c=101 then ("Sieve":Str) else if c=102 then "Finder" else xC.getD c "") with
 | some (some v)=>v
 | _=> .none
theorem clK_at {K:aa}{c:Nat}{x:Str}{q:Addr}(hx:(if c=101 then ("Sieve":Str) else if c=102 then "Finder" else xC.getD c "")=x)(h:fu K mainGlobals x=some (some (.ref q))):clK K c= .ref q:=by unfold clK;rw[hx,h]
theorem lz1 {fd:FuncData}{p0:Str}(us:List Value)(hl:us.length=1)(h:∀a0,bindArgs fd ⟨[a0],[]⟩=pure ([p0].zip [a0])):bindArgs fd ⟨us,[]⟩=pure ([p0].zip us):=match us,hl with | [a0],_=>h a0
theorem lz2 {fd:FuncData}{p0 p1:Str}(us:List Value)(hl:us.length=2)(h:∀a0 a1,bindArgs fd ⟨[a0,a1],[]⟩=pure ([p0,p1].zip [a0,a1])):bindArgs fd ⟨us,[]⟩=pure ([p0,p1].zip us):=match us,hl with | [a0,a1],_=>h a0 a1
theorem lz3 {fd:FuncData}{p0 p1 p2:Str}(us:List Value)(hl:us.length=3)(h:∀a0 a1 a2,bindArgs fd ⟨[a0,a1,a2],[]⟩=pure ([p0,p1,p2].zip [a0,a1,a2])):bindArgs fd ⟨us,[]⟩=pure ([p0,p1,p2].zip us):=match us,hl with | [a0,a1,a2],_=>h a0 a1 a2
theorem lz4 {fd:FuncData}{p0 p1 p2 p3:Str}(us:List Value)(hl:us.length=4)(h:∀a0 a1 a2 a3,bindArgs fd ⟨[a0,a1,a2,a3],[]⟩=pure ([p0,p1,p2,p3].zip [a0,a1,a2,a3])):bindArgs fd ⟨us,[]⟩=pure ([p0,p1,p2,p3].zip us):=match us,hl with | [a0,a1,a2,a3],_=>h a0 a1 a2 a3
theorem fn1 {K:aa}{h:Heap}{mg:Str->Option Value}{f:Addr}{od an:Option Addr}{sl:Array (Option Value)}{oc kV dc pm cd ct:Value}{x:Str}{st:Stmt}{ps:List Str}(X:K.In h)(G:h.Ns mainGlobals mg)(e:fu K mainGlobals x=some (some (.ref f)))(l:K.lookup f=some ⟨oc,od,.func (bw x x (Zu st) (zS st) (zu st) .none kV dc pm an cd ct),sl⟩)(g:db K cd x=true)(k:bC K (.ref f)=true)
  (hb:∀F:Fun K x x st f (bw x x (Zu st) (zS st) (zu st) .none kV dc pm an cd ct),L2.Binds K (bw x x (Zu st) (zS st) (zu st) .none kV dc pm an cd ct) ps []):Fn K mg x st ps f (bw x x (Zu st) (zS st) (zu st) .none kV dc pm an cd ct):=
 have F:=VP (st:=st) l g k
 ⟨F,hb F,PySem.W.mg_of X G e⟩
theorem zs_of {K:aa}{h:Heap}{mg:Str->Option Value}{zs:List Str}(X:K.In h)(G:h.Ns mainGlobals mg)(hz:(zs.all λx=>fu K mainGlobals x == some none)=true):∀x,zs.contains x=true->mg x=none:=λx hx=>PySem.W.mg_none_of X G (beq_iff_eq.mp (aR.mp hz x (fG.mp hx)))
theorem fo1 {K:aa}{f C:Addr}{od an:Option Addr}{sl:Array (Option Value)}{oc kV dc pm cd ct:Value}{x qual:Str}{st:Stmt}{ps:List Str}(i:bo K (.ref C) x=some (some (.ref f)))(l:K.lookup f=some ⟨oc,od,.func (bw x qual (Zu st) (zS st) (zu st) .none kV dc pm an cd ct),sl⟩)(g:db K cd qual=true)(k:bC K (.ref f)=true)(fn:f7 K (.ref f)=true)
  (hb:∀F:Fun K x qual st f (bw x qual (Zu st) (zS st) (zu st) .none kV dc pm an cd ct),L2.Binds K (bw x qual (Zu st) (zS st) (zu st) .none kV dc pm an cd ct) ps []):FnO K x qual st ps f (bw x qual (Zu st) (zS st) (zu st) .none kV dc pm an cd ct) C:=
 have F:=VP (st:=st) l g k
 ⟨F,hb F,⟨i,fn,k⟩⟩
theorem no_of {K:aa}{C:Addr}{as:List Str}(hz:(as.all λx=>bo K (.ref C) x == some none)=true):∀x,as.contains x=true->L2.NoAttr K C x:=λx hx=>beq_iff_eq.mp (aR.mp hz x (fG.mp hx))
noncomputable abbrev Tx' {K:aa}{h:Heap}(_:K.In h)(mg:Str->Option Value):Prop:=Tx K mg
abbrev To' {K:aa}{h:Heap}(_:K.In h)(mg:Str->Option Value):Prop:=To K mg (clK K)
theorem fin_ {l:PySem.W.OpenLaw}{w:World}{K:aa}{h:Heap}{mg:Str->Option Value}{fa:Addr}(X:K.In h)(G:h.Ns mainGlobals mg)(hfa:mg "law"=some (.ref fa))(tx:Tx K mg)(tc:To K mg (clK K)):∃fd:FuncData,(∀(s:Shared) (v:Value),BindsTo s fd ⟨[v],[]⟩ [("_law_script",v)])/\∀base:Heap,K.In base->base.Ns mainGlobals mg->jq l.prog w K mg base (CX1 l.prog w) 44 fa fd ["_law_script"] (spP (clK K) 1 f_0):=by
 obtain⟨f,fd,C⟩:=tx.C_0;have e:=hfa.symm.trans C.m;cases e;obtain⟨oc,od,kV,doc,pm,an,cdv,ct,osl,rfl,lk,hcd⟩:=C.F.ex;exact⟨_,λs v=> .of_eq rfl,λbase KB _=>z0z (Z:=⟨l.prog,w,K,mg,base,(clK K)⟩) tx tc C⟩
def U2 (K:aa):Bool:=K.all λp=> !(p.2.cls == Value.type "list")
theorem kS {K:aa}(h:U2 K=true){a:Addr}{o:Obj}(e:K.lookup a=some o)(c:o.cls=Value.type "list"):False:=by
 have hm:(a,o)∈K:=by
  clear h
  induction K with
  | nil=>cases e
  | cons p r ih=>
   obtain⟨b,u⟩:=p
   by_cases hb:a=b
   ·subst hb;have e' :some u=some o:=by simpa[aw] using e
    cases e';exact ab
   ·have e' :r.lookup a=some o:=by rw[aw,(beq_eq_false_iff_ne.mpr hb)]at e;exact e
    exact a8 _ (ih e')
 have:=aR.mp h _ hm;rw[c]at this;simp at this
theorem z0A {cl:Nat->Value}{K:aa}{H:Hp}{a:Addr}{ns:List Int}(hL:f_0 [.fz (ns.map T.int)]= .ok (.bl true))(hK:U2 K=true)(hO:z0D H)(hS:SqL K H a (ns.map V.int)):spP cl 1 f_0 [.ref a] H (λv _=>v= .bl true) λ_ _ _=>False:=by
 have scrR:∀ns:List Int,zF H (ns.map V.int) (ns.map T.int):=λns=>by
  induction ns with
  | nil=>exact .nil
  | cons n r ih=>exact .cons (.int n) ih
 rcases hS with (h | ⟨o,h⟩) | ⟨o,its,n,e,c,_⟩
 ·rcases hO a with z | ⟨ob,xs,z⟩ <;> (rw[h]at z;cases z)
 ·refine⟨H,[.fz (ns.map T.int)],rfl,zr.refl H,.cons (.fz h (scrR ns)) .nil, ?_⟩;rw[hL];intro v H' _ r;cases r;rfl
 ·exact(kS hK e c).elim
theorem walk {l:PySem.W.OpenLaw}{q:Program}{loose:List Str}{XP:(Str->Option Value)->Heap->Prop}{YP:World->Heap->Prop}{d:DefRec}{K:Params->aa}(hn:l.most=some 63)(hdf:d.params.defaults=[])
  (hL:∀ns:List Int,ns.length<=63->f_0 [.fz (ns.map T.int)]= .ok (.bl true)) (hK:∀p,U2 (K p)=true)
  (hY:∀(w:World) (h:Heap),YP w h->(K w.params).In h)
  (F:∀(w:World) (mg:Str->Option Value) (fa:Addr) (h:Heap),(K w.params).In h->h.Ns mainGlobals mg->mg d.name=some (.ref fa)->
   ∃fd:FuncData,(∀(s:Shared) (u:Value),BindsTo s fd ⟨[u],[]⟩ [("_law_script",u)])/\∀base:Heap,(K w.params).In base->base.Ns mainGlobals mg->jq l.prog w (K w.params) mg base (CX1 l.prog w) 44 fa fd ["_law_script"] (spP (clK (K w.params)) 1 f_0)):
  PySem.W.WalkO q loose XP YP l.row.toRowW d [] (λf vs=>iS f vs):=
 L2.walk_of (n:=63) (k:=44) (x:="_law_script") (CX:=λw=>(CX1 l.prog w)) (sp:=λw=>spP (clK (K w.params)) 1 f_0) hn (by decide) hdf ⟨rfl,by decide,by decide,rfl⟩ hY F (λw H a ns hl hO hS=>z0A (hL ns hl) (hK w.params) hO hS) λ_ _ _ _ _ ⟨_,_,_,_,_,_,_,z⟩=>z
end G
namespace PySem.W.Fast
noncomputable def tw17605479291183375738:=0
noncomputable def tw16000510844102167527:=0
noncomputable def tw12367452146161182386:=0
noncomputable def tw5619984761896734644:=0
noncomputable def tw10747784236470221139:=0
noncomputable def tw15344347764686328512:=0
noncomputable def tw17302031062687998274:=0
noncomputable def tw12136961792387061088:=0
noncomputable def tw17067009682858228141:=0
noncomputable def tw17780842190217357393:=0
noncomputable def tw12609683504045039028:=0
noncomputable def tw1686679983216069654:=0
noncomputable def tw1101573762262574718:=0
noncomputable def tw8077253002892228621:=0
noncomputable def tw9417399239521941396:=0
noncomputable def tw12836419989213336411:=0
noncomputable def tw13003406172438051578:=0
noncomputable def tw15049846514429172254:=0
noncomputable def tw9253138105844104242:=0
noncomputable def tw2380813050071226664:=0
noncomputable def tw16741987001945150886:=0
noncomputable def tw10018602714352874155:=0
noncomputable def tw14679971250582985779:=0
noncomputable def tw11271478425435994123:=0
noncomputable def tw759346634577585574:=0
noncomputable def tw6042005355362792366:=0
noncomputable def tw18205700965548904310:=0
noncomputable def tw4542099376414242895:=0
noncomputable def tw7741039550828561784:=0
noncomputable def tw10946538247807369882:=0
noncomputable def tw3138247108657301431:=0
noncomputable def tw6187244164298398965:=0
noncomputable def tw3356368765639316813:=0
noncomputable def tw18394503114698976282:=0
noncomputable def tw5981540933543315573:=0
noncomputable def tw1510910976512195143:=0
noncomputable def tw3202192804810605699:=0
noncomputable def tw6006609691268158823:=0
noncomputable def tw2584022908094796129:=0
noncomputable def tw14385137766527652959:=0
noncomputable def tw17073594706198626552:=0
noncomputable def tw7788006035732931109:=0
noncomputable def tw642522987065593022:=0
noncomputable def tw12661383858714813581:=0
noncomputable def tw81110993230907622:=0
noncomputable def tw692050701759104278:=0
noncomputable def tw5829415153558803228:=0
noncomputable def tw586880567800683528:=0
noncomputable def tw4941800215696702870:=0
noncomputable def tw14143978202466967540:=0
noncomputable def tw702162732666147241:=0
noncomputable def tw16296376229275258724:=0
noncomputable def tw14316810025254416786:=0
noncomputable def tw13958592988503608971:=0
noncomputable def tw2110961705691442707:=0
noncomputable def tw5313176509188173648:=0
noncomputable def tw10707732396856252170:=0
noncomputable def tw4766642589946768369:=0
noncomputable def tw10797846590328406135:=0
noncomputable def tw16476369964095001937:=0
noncomputable def tw12074211489310863708:=0
noncomputable def tw15154926269947006228:=0
noncomputable def tw11228284012319003817:=0
noncomputable def tw3367928033453922716:=0
noncomputable def tw5206180288968944429:=0
noncomputable def tw5269268234477407575:=0
noncomputable def tw5399203517602138962:=0
noncomputable def tw13432445765224122595:=0
noncomputable def tw11066593184131585499:=0
noncomputable def tw5534854925235130169:=0
noncomputable def tw14975913355008638500:=0
noncomputable def tw6780074942318312927:=0
noncomputable def tw7872938936126759594:=0
noncomputable def tw15625306214838579985:=0
noncomputable def tw11166500260901403018:=0
noncomputable def tw2139360809902848724:=0
noncomputable def tw9030810121443009095:=0
noncomputable def tw2807120215929360434:=0
noncomputable def tw7579099447534799000:=0
noncomputable def tw3436854543391336590:=0
noncomputable def tw17006759741474361829:=0
noncomputable def tw10678400220876730240:=0
noncomputable def tw1727063743539487483:=0
noncomputable def tw496150295631677153:=0
noncomputable def tw5657310882638552987:=0
noncomputable def tw1993197146233145252:=0
noncomputable def tw103248254723437876:=0
noncomputable def tw3520094766539189817:=0
noncomputable def tw16458312336013549071:=0
noncomputable def tw3639633366985641030:=0
noncomputable def tw15719511275198526250:=0
noncomputable def tw9872042672632532399:=0
noncomputable def tw15587300142259720614:=0
noncomputable def tw12290022033821053339:=0
noncomputable def tw290708225953137874:=0
noncomputable def tw13680123259106328325:=0
noncomputable def tw15866548523800151689:=0
noncomputable def tw647422254033187670:=0
noncomputable def tw5504815878256541189:=0
noncomputable def tw410926449198101905:=0
noncomputable def tw7932726077597340403:=0
noncomputable def tw12967783039315269190:=0
noncomputable def tw16984305935501531659:=0
noncomputable def tw11049086382646697870:=0
noncomputable def tw7141977273281140708:=0
noncomputable def tw9119566543417921052:=0
noncomputable def tw6581355490417126511:=0
noncomputable def tw9798778395852325226:=0
noncomputable def tw3142539678583090648:=0
noncomputable def tw1014974965596962988:=0
noncomputable def tw17658858631429303303:=0
noncomputable def tw3014492614510086233:=0
noncomputable def tw5399742656700255163:=0
noncomputable def tw14347751918020305418:=0
noncomputable def tw15401640211356694944:=0
noncomputable def tw3496449924032804154:=0
noncomputable def tw6274282799442424205:=0
noncomputable def tw10200481871763708158:=0
noncomputable def tw3191614439783279480:=0
noncomputable def tw11069731233186523553:=0
noncomputable def tw4195176352086698988:=0
noncomputable def tw15966234612097507432:=0
noncomputable def tw4362116515725907205:=0
noncomputable def tw9047544423511036305:=0
noncomputable def tw17876994282119512408:=0
noncomputable def tw14544271502211486674:=0
noncomputable def tw2923286904340617241:=0
noncomputable def tw1936211427959364910:=0
noncomputable def tw9062393369804517987:=0
noncomputable def tw4486834523782878155:=0
noncomputable def tw5213995427687747282:=0
noncomputable def tw18277236235163418930:=0
noncomputable def tw8991813050356436039:=0
noncomputable def tw735450832189664974:=0
noncomputable def tw16081628224000354901:=0
noncomputable def tw9341902665616064054:=0
noncomputable def tw10616717368225044977:=0
noncomputable def tw3047679231653551355:=0
noncomputable def tw14228267994302454180:=0
noncomputable def tw10375767620350292575:=0
noncomputable def tw7664469184143230476:=0
noncomputable def tw5615688474032276082:=0
noncomputable def tw11752324446079294500:=0
noncomputable def tw15900765008653845560:=0
noncomputable def tw195964871808090577:=0
noncomputable def tw16335366990965428174:=0
noncomputable def tw5553031251439064922:=0
noncomputable def tw9497859008224438456:=0
noncomputable def tw12221301156447394501:=0
noncomputable def tw8845310473522224175:=0
noncomputable def tw11792929435037947912:=0
noncomputable def tw899091878466867242:=0
noncomputable def tw10612896334087112829:=0
noncomputable def tw15613749294365228985:=0
noncomputable def tw14689143882107027489:=0
noncomputable def tw14644642741943936169:=0
noncomputable def tw7064879042169343323:=0
noncomputable def tw9147731226418162467:=0
noncomputable def tw17897620196911723125:=0
noncomputable def tw13478610796388974730:=0
noncomputable def tw15305087543222142539:=0
noncomputable def tw17293435432380408592:=0
noncomputable def tw15630012648034733034:=0
noncomputable def tw12115906028520106975:=0
noncomputable def tw4871744320120411315:=0
noncomputable def tw802543142585937958:=0
noncomputable def tw11926503197964257339:=0
noncomputable def tw12377529302854176027:=0
noncomputable def tw640594225471933528:=0
noncomputable def tw7869747916740245052:=0
noncomputable def tw7231247316817939802:=0
noncomputable def tw1281733031700594091:=0
noncomputable def tw17493856024888507161:=0
noncomputable def tw1515582019190002617:=0
noncomputable def tw14558407434159386722:=0
noncomputable def tw12825270178070344897:=0
noncomputable def tw7948650952706620619:=0
noncomputable def tw7711340486010788663:=0
noncomputable def tw431785203195004025:=0
noncomputable def tw14351763040427929837:=0
noncomputable def tw11726049641678266510:=0
noncomputable def tw7802372497888719955:=0
noncomputable def tw6017133857969586771:=0
noncomputable def tw14968539536591399842:=0
noncomputable def tw17239111775260156855:=0
noncomputable def tw16312173969878090998:=0
noncomputable def tw16418500413650397752:=0
noncomputable def tw4136271223906189929:=0
noncomputable def tw5175286171377577404:=0
noncomputable def tw8111064838587120771:=0
noncomputable def tw9720128562233395671:=0
noncomputable def tw14523014245827808965:=0
noncomputable def tw3860279341765532687:=0
noncomputable def tw5837312419713708755:=0
noncomputable def tw10693055347773732498:=0
noncomputable def tw13333194190388948493:=0
noncomputable def tw11017909138394122662:=0
noncomputable def tw2999209764748457439:=0
noncomputable def tw7605770197029314153:=0
noncomputable def tw10276582654719393905:=0
noncomputable def tw9882386690882530317:=0
noncomputable def tw5222006259485871499:=0
noncomputable def tw15946496995994885717:=0
noncomputable def tw13124640084747936740:=0
noncomputable def tw2709468389012229690:=0
noncomputable def tw7523447098439428993:=0
noncomputable def tw14185776392586693482:=0
noncomputable def tw1739632815035344027:=0
noncomputable def tw7289536040992979604:=0
noncomputable def tw2193279287791193884:=0
noncomputable def tw14328129803735097138:=0
noncomputable def tw16773749513823574869:=0
noncomputable def tw8547877084580254671:=0
noncomputable def tw12311520627309386329:=0
noncomputable def tw12940137774221697953:=0
end PySem.W.Fast
open PySem PySem.W PyProof.Rows
set_option maxRecDepth 100000 in
set_option maxHeartbeats 0 in
theorem PySem.Challenge.cw_worthkinds_k88_whole_best_rules_holds : PySem.Challenge.rw_worthkinds_k88_whole_best_rules.Holds := by
 w_on; o_law; k_head; (case hw=>w_witness2)
 k_fill
 refine G.walk (l:=PySem.Challenge.rw_worthkinds_k88_whole_best_rules) rfl rfl G.law_ok ?nl (fun w h Y=>PySem.W.kIn_of Y) ?F
 case nl=>intro p; kernel_rfl
 case F=>
  intro w mg fa h KX G0 hmg
  have tx:G.Tx' KX mg:=by
   constructor
   all_goals first
    | (refine' ⟨_,_,G.fn1 KX G0 ?e ?l ?g ?k (fun F=>F.binds fun _ _ _ _ _ _ us hl=>by first | exact G.lz1 us hl fun _=>rfl | exact G.lz2 us hl fun _ _=>rfl | exact G.lz3 us hl fun _ _ _=>rfl | exact G.lz4 us hl fun _ _ _ _=>rfl)⟩; (case e | l | g | k=>k_is))
    | exact ⟨_,PySem.W.mg_of KX G0 (by k_is),_,rfl⟩
    | exact G.zs_of KX G0 (by kernel_rfl)
  have tc:G.To' KX mg:=by
   constructor
   ·refine' ⟨_,G.clK_at (x:="Sieve") rfl ?ze,⟨?zp, ?zh, ?zo, ?zs⟩,G.no_of ?zn⟩; (case ze=>k_is); (case zp | zh | zo | zs | zn=>kernel_rfl)
   all_goals first
    | (refine' ⟨_,_,_,_,G.clK_at (x:="Sieve") rfl ?ze,G.fo1 ?zi ?zl ?zg ?zk ?zf (fun F=>F.binds fun _ _ _ _ _ _ us hl=>by first | exact G.lz1 us hl fun _=>rfl | exact G.lz2 us hl fun _ _=>rfl | exact G.lz3 us hl fun _ _ _=>rfl | exact G.lz4 us hl fun _ _ _ _=>rfl)⟩; (case ze | zi | zl | zg | zk=>k_is); (case zf=>kernel_rfl))
    | (refine' ⟨_,_,_,_,G.clK_at (x:="Sieve") rfl ?ze,PySem.W.mg_of KX G0 ?ze,⟨?zm, ?zi, ?zf, ?zc⟩,G.fo1 ?zi ?zl ?zg ?zk ?zf (fun F=>F.binds fun _ _ _ _ _ _ us hl=>by first | exact G.lz1 us hl fun _=>rfl | exact G.lz2 us hl fun _ _=>rfl | exact G.lz3 us hl fun _ _ _=>rfl | exact G.lz4 us hl fun _ _ _ _=>rfl)⟩; (case ze | zi | zl | zg | zk | zc=>k_is); (case zf | zm=>kernel_rfl))
  refine' G.fin_ KX G0 hmg tx tc
