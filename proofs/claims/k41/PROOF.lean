import PyProof.Rows.All
import Wide.All
import OpenK.AllK
import Wide.FinOn
import Lean
import PyProof.EqAt
import PyProof.EqKinds
import PyProof.TupleCall
import PyProof.NeKinds
import PyProof.WalksEnum
import PyProof.StrWalks
import PyProof.ExcAttrAll.ValueError
import PyProof.ZipIter
import KE.KRevIter
import PyProof.ListNew
import PyProof.WalksMore
import PyProof.ReprLoop
import PyProof.FactsAll.list
import PyProof.CollectIter
import PyProof.TupleOfGen
import PyProof.Draws
import PyProof.EnumMake
import PyProof.SeqI3
import KE.KMinBuiltin
import PyProof.SetRoads
import PyProof.CollectWalk
import KE.KDictSum
import PyProof.AttrMiss
import PyProof.IsiH_tuple
import KE.KDictOf
import PyProof.FitsBits
import PyProof.SliceList
import PyProof.InstFacts
import PyProof.Rows.StrNews2
import PyProof.StrBlockH
import PyProof.CallStr
import KE.KIntText
import PyProof.Rows.RuleB_pow
import KE.KSortTup
import PyProof.ReprRoads
import KE.KLam
import PySem.Challenge.RW_worthkinds_k41_whole_keepers
open PySem renaming wpAny_bind->a7,wpAny_pure->ar,wpAny_truthy_bool->bj,wpAny_field->bn,wpAny_newObj_type->bv,wpAny_callSpecial?_slot->bz,wpAny_setField_rec->bG,codeAny_builtin->bS,wpAny_call_entry->bV,wpAny_seqItems->b_,wpAny_mono->c7,mem_of_lookup->cb,sizeLine_eq->cj,wpAny_holding->ck,wpAny_passesOwn->cA,wpAny_of_eq->cD,wpAny_attempt->c_,wpAny_typeOf->db,plainId_quiet->dn,call_meets->du,wpAny_rule->dL,seqSlot_of->iN,call->li
open List renaming mem_cons_of_mem->a8,mem_cons_self->a9,length_map->aa,replicate->af,getElem?_eq_getElem->ah,length_cons->ai,mem_cons->ak,getElem?_eq_some_iff->au,map_cons->av,length_append->ax,mem_map->az,getElem?_map->aA,length_singleton->aB,size_toArray->aE,getElem?_replicate->aF,mem_singleton->aG,getElem?_set_ne->aH,all_eq_true->aJ,lookup_cons->aK,map_map->aM,length_replicate->aN,getElem?_append_right->aO,pairwise_cons->aP,getElem?_append_left->aR,getElem?_eq_none->aS,append_assoc->aU,map_replicate->aV,getElem?_set_self->aW,range->aX,mem_range->aZ,mem_append_right->bc,not_mem_nil->bh,length_nil->bi,length_range->bo,flatMap_cons->bp,length_set->bu,eq_of_mem_replicate->bx,append_nil->bJ,length_take->bL,replicate_succ->bM,map_nil->bO,nil_append->bP,all_cons->bR,filter_cons->bW,of_mem_zip->c8,map_append->c9,map_congr_left->ce,length_reverse->cf,range_succ_eq_map->ci,length_drop->cq,cons_append->cu,drop_eq_getElem_cons->cy,mem_of_getElem?->cB,reverse_cons->cF,sum_cons->cJ,getElem?_cons_succ->cL,mem_flatMap->cO,mem_filter->cU,nodup_cons->cV,length_filter_le->d4,mem_append_left->d6,drop_zero->d7,filterMap_cons->dh,getElem?_range->di,mem_append->dr,filter_cons_of_pos->dw,filter_cons_of_neg->dy,append_cancel_left->dB,ext_getElem?->dG,take_of_length_le->dI,any_eq_true->dN,length_zip->dQ,mem_filterMap->d_,foldl->eC,zip_cons_cons->eI,pairwise_iff_getElem->eK,flatten_cons->eM,map_id->eO,any_cons->eP,prefix_refl->eY,length_eq_zero_iff->e_,getElem_map->fg,flatMap_map->fk,filter_eq_nil_iff->fD,range_succ->fH,getElem?_reverse->fO,take_eq_take_iff->fP,getElem_toArray->fT,reverse_reverse->fW,filter_eq_self->g7,drop_succ_cons->g_,takeWhile_cons->hU,length_zipIdx->ic,any_eq_false->ij,all_map->ir,getElem_inj->iI,drop_length->iO,le_antisymm->iR,isEmpty_iff->iS,getElem_mem->iU,map_reverse->iV,flatMap_nil->iX,range'->i_,not_lt->k_,foldl_cons->l7,forIn_cons->la,find?_cons->lc
open Bool renaming and_eq_true->ac,false_eq_true->aw,false_ne_true->ay,not_true->bg,true_and->cI,eq_iff_iff->fK,and_true->hZ,eq_false_iff->iw,not_eq_true'->iC,or_eq_true->lb
open PySem.W renaming Frag->ae,kitOne->aQ,kia_one->bI,mg_of->bN,nsIn->bY,keepIn->bZ,fnOf->cg,excIn->dq,findIn->dC,codeIn->eA,cellsFrom_some->fu,instObj->fG,lookIn->fQ,mroIn->hV,specialIn->ik,kitx_list->il,kitx_dict->im,plainGet->iJ,takesIn->l6
open PySem.Heap renaming get?_push_of_some->ag,get?_push_size->aj,lt_size->aq,size_push->cx,SameBut->cP,FlyingW->dE,ExtBut->fS,IsTuple->ix
open Nat renaming le_refl->am,le_trans->ao,ne_of_lt->aC,le_add_right->aD,lt_of_lt_of_le->aI,mul_le_mul->ba,zero_le->br,lt_of_le_of_lt->bw,lt_irrefl->bH,pow_le_pow_right->bQ,one_mul->bU,lt_succ_of_lt->cC,mul_pos->cG,le_mul_of_pos_right->cN,mul_comm->cR,min_eq_left->cY,mul_assoc->d0,mul_le_mul_right->d8,add_mul->dz,pow_add->dA,lt_succ_self->dM,le_succ->dO,add_le_add_left->dS,ne_of_gt->dU,gcd->dX,gcd_comm->dY,gcd_pos_of_pos_right->eW,le_of_lt->fq,succ_mul->fx,lt_trans->fB,zero_add->fE,pow_succ->fF,not_lt_zero->fJ,pow_lt_pow_right->fY,mod_lt->ie,gcd_zero_right->ig,add_comm->ip,sub_zero->iA,lt_succ_of_le->iB,gcd_one_right->iG,succ_ne_self->iQ,gcd_le_right->iW,log2_lt->l0,div_le_self->lh
open Option.some renaming inj->aL
open PyProof.Rows renaming callWith_type1->aT,slot_tuple_getitem->bq
open Int renaming toNat_natCast->aY,eq_ofNat_of_zero_le->c6,natCast_mul->cW,zero_add->dW,fdiv_eq_ediv_of_nonneg->e9,natAbs_mul->fX,emod_lt_of_pos->ib,natAbs_natCast->ii,le_trans->iz,mul_one->iZ,emod_nonneg->lf,natCast_add->lg
open Rat renaming add_assoc->a_,add_comm->de,num_mkRat->eU,den_mkRat->eV,mkRat_mul_mkRat->hJ,mkRat_one->h_,add_def'->iD,add_zero->iE,zero_add->iF,mkRat_eq_iff->iY,mul_one->l5
open PySem.F renaming excBase_ValueError->bb,slot_tuple_getattribute->cz,plainAttrs_list->cK,called_set->cT,slot_zip_next->d3,args_tuple_add_2->dk,entry_tuple_add->dv,slot_tuple_add->dD,slot_tuple_iterator_next->dH,slot_int_rmul->dP,slot_dict_values->eS,slot_tuple_mul->eZ,attr_ValueError->f7,args_zip_next_1->f8,slot_list_count->f9,slot_list_index->fj,entry_zip_next->fA,called_tuple->fU,args_object_init_2->fV,args_int_rmul_2->iq,slot_tuple_rmul->iu,plain_tuple_new->iy,slot_int_index->iL,entry_int_rmul->iM,fills_int_mul->l8
open PySem.Str renaming ofString->bf,length->i5,ext'->lm
open Ne renaming symm->bK
open PyProof.Rows.KeyOrd renaming klt_of_klt_of_kle->cH,kle_of_klt->dJ
open PySem.AutoSeq1 renaming wpAny_loadPart'->cM
open False renaming elim->cQ
open Array renaming getElem?_eq_none->cS,length_toList->dR,perm_iff_toList_perm->eF,getD->ll
open PySem.SeqAt renaming EqAt->d5,RcNeAt->dF,RcAt->fy
open PySem.Builtin.Str renaming reprChar->d9
open PySem.Builtin.Slice renaming slicePlaces->df,sliceAdjust->eJ
open Option renaming isSome_iff_exists->dj,getD_none->iK
open PySem.Builtin.List renaming listTooLong->dm,listSameRef->eQ
open PySem.Calls renaming Name_function_global->dZ,callWith_builtin->fw,evalArgs_plain->fR,spliced_cons->i4,spliced_nil->io
open PySem.Builtin.Tuple renaming tupleItemsOf->eB,tupleTooMany->eD,tupleExact->eR
open PySem.PyData renaming hasDict->eG,showableAll->eH,hasDictAll->eN,showable->fI,shownAll->fL,depthAll->fM,depth->iH
open PySem.Builtin.Range renaming rangeSize->eX
open PyProof.Rows.F renaming entry_set_update_loop->f6
open PySem.PassesOwn renaming never->fN
open PySem.Heap.SameBut renaming update->fZ
open PySem.Builtin.Int renaming intBits->f_
open PySem.Shared renaming TypeIs->hW,heap->j_
open PySem.SeqAt.EqAt renaming of_refs->i6,same->l9
open PySem.Code renaming quiet_builtin->i7
open PySem.Obj renaming data_mapFields->i8
open List.Perm renaming cons_inv->i9
open PySem.WalksT renaming enumerate->iP
open Classical renaming skolem->iT
open PySem.Walks renaming list->lj
noncomputable section
set_option maxHeartbeats 4000000
set_option Elab.async false
set_option linter.all false
set_option compiler.extract_closed false
set_option maxRecDepth 100000
namespace L2
open PySem PySem.Spec PyProof.Rows
noncomputable abbrev Key:=Sum Int Str
def vR:Key->Value->Bool
 | .inl k,v=>Value.isInt k v
 | .inr x,v=>Value.isStrOf x v
def keyH (w:World):Key->Int
 | .inl k=>hashInt k
 | .inr x=>hashStr w x
theorem zS:∀{k:Key} {v:Value},vR k v=true->(∃i t,k=Sum.inl i/\v=Value.int i t)\/(∃x t,k=Sum.inr x/\v=Value.str x t)
 | .inl i,v,h=>by
  obtain⟨t,e⟩:=Value.isInt_shape h;exact .inl ⟨i,t,rfl,e⟩
 | .inr x,v,h=>by
  obtain⟨t,e⟩:=Value.isStrOf_shape h;exact .inr ⟨x,t,rfl,e⟩
theorem Ys (x:Str)(t:Tok):vR (.inr x) (.str x t)=true:=by simp[vR,Value.isStrOf]
theorem gz (a b:Int):decide ((Sum.inl a:Key)=Sum.inl b)=(a == b):=by
 by_cases e:a=b
 ·subst e;simp
 ·have h:¬ (Sum.inl a:Key)=Sum.inl b:=λq=>e (Sum.inl.inj q);rw[decide_eq_false h];exact(beq_eq_false_iff_ne.mpr e).symm
theorem gA (a b:Str):decide ((Sum.inr a:Key)=Sum.inr b)=decide (a=b):=by
 by_cases e:a=b
 ·simp
 ·have h:¬ (Sum.inr a:Key)=Sum.inr b:=λq=>e (Sum.inr.inj q);rw[decide_eq_false h,decide_eq_false e]
theorem gB (a:Int)(b:Str):decide ((Sum.inl a:Key)=Sum.inr b)=false:=decide_eq_false (λq=>nomatch q)
theorem gC (a:Str)(b:Int):decide ((Sum.inr a:Key)=Sum.inl b)=false:=decide_eq_false (λq=>nomatch q)
def ZZ (prog:Program)(w:World):PySem.KeyKind prog w Key where
 is:=vR
 hash:=keyH w
 inj:=λv a b ha hb=>by
  rcases zS ha with ⟨i,t,rfl,rfl⟩ | ⟨x,t,rfl,rfl⟩
  ·rcases zS hb with ⟨j,u,rfl,e⟩ | ⟨y,u,rfl,e⟩
   ·injection e with e1 _;rw[e1]
   ·exact nomatch e
  ·rcases zS hb with ⟨j,u,rfl,e⟩ | ⟨y,u,rfl,e⟩
   ·exact nomatch e
   ·injection e with e1 _;rw[e1]
 byValue:=λk v h=>by
  rcases zS h with ⟨i,t,rfl,rfl⟩ | ⟨x,t,rfl,rfl⟩ <;> rfl
 pyHash:=λhv h=>by
  rcases zS hv with ⟨i,t,rfl,rfl⟩ | ⟨x,t,rfl,rfl⟩
  ·exact wpAny_pyHash_int h
  ·exact wpAny_pyHash_str h
 eqBool:=λhu hv h=>by
  rcases zS hu with ⟨i,t,rfl,rfl⟩ | ⟨x,t,rfl,rfl⟩
  ·rcases zS hv with ⟨j,u,rfl,rfl⟩ | ⟨y,u,rfl,rfl⟩
   ·rw[gz]at h;exact wpAny_eqBool_int h
   ·rw[gB]at h;exact d5.int_str i t y u _ _ _ _ h
  ·rcases zS hv with ⟨j,u,rfl,rfl⟩ | ⟨y,u,rfl,rfl⟩
   ·rw[gC]at h;exact d5.str_int x t j u _ _ _ _ h
   ·rw[gA]at h;exact wpAny_eqBool_str h
 «strs»:=λk x t v h=>by
  rcases zS h with ⟨i,u,rfl,e⟩ | ⟨y,u,rfl,e⟩
  ·exact nomatch e
  ·injection e with e1 _;subst e1;cases v <;> rfl
theorem JI (prog:Program)(w:World)(x:Str)(t:Tok):(ZZ prog w).is (.inr x) (.str x t)=true:=Ys x t
end L2
namespace L2
open PySem PySem.Spec PyProof.Rows
inductive V where
 | non | bl (b:Bool) | int (i:Int) | str (x:Str) | byt (b:Array UInt8) | flt (b:UInt64) | ref (a:Addr) | ty (n:String)
 deriving DecidableEq
noncomputable def RelV:V->Value->Prop
 | .non,u=>u=Value.none
 | .bl b,u=>u=Value.bool b
 | .int i,u=>∃t,u=Value.int i t
 | .str x,u=>∃t,u=Value.str x t
 | .byt b,u=>∃t,u=Value.bytes b t
 | .flt b,u=>∃t,u=Value.float b t
 | .ref a,u=>u=Value.ref a
 | .ty n,u=>u=Value.type n
abbrev Vals:List V->List Value->Prop:=Paired RelV
theorem Vals.length (r:Vals xs us):xs.length=us.length:=Paired.length r
theorem Vals.get:∀{xs:List V} {us:List Value} {i:Nat} {x:V},Vals xs us->xs[i]? =some x->∃u,us[i]? =some u/\RelV x u
 | _,_,_,_,.nil,e=>by simp at e
 | _,_,0,_,.cons r _,e=>by simp at e;subst e;exact⟨_,rfl,r⟩
 | _,_,i+1,x,.cons _ t,e=>by
  obtain⟨u,h1,h2⟩:=Vals.get t (by simpa using e)
  exact⟨u,by simpa using h1,h2⟩
theorem Vals.append:∀{xs ys:List V} {us ws:List Value},Vals xs us->Vals ys ws->Vals (xs++ys) (us++ws)
 | _,_,_,_,.nil,s=>s
 | _,_,_,_,.cons r t,s=> .cons r (Vals.append t s)
theorem Vals.take:∀{xs:List V} {us:List Value} (n:Nat),Vals xs us->Vals (xs.take n) (us.take n)
 | _,_,0,_=> .nil
 | _,_,_+1,.nil=> .nil
 | _,_,n+1,.cons r t=> .cons r (Vals.take n t)
theorem Vals.drop:∀{xs:List V} {us:List Value} (n:Nat),Vals xs us->Vals (xs.drop n) (us.drop n)
 | _,_,0,r=>r
 | _,_,_+1,.nil=> .nil
 | _,_,n+1,.cons _ t=>Vals.drop n t
def z2a:Option V->Option Value->Prop
 | some v,some u=>RelV v u
 | none,none=>True
 | _,_=>False
def KV {κ:Type}:List (κ×V)->List (κ×Value)->Prop:=Paired λ(p:κ×V) (q:κ×Value)=>p.1=q.1/\RelV p.2 q.2
def kV:Key->V
 | .inl i=> .int i
 | .inr x=> .str x
inductive HO where
 | lst (xs:List V)
 | tup (xs:List V)
 | dK (kvs:List (Key×V)) | dT (kvs:List (List Key×V))
 | set (S:Int->Bool) (n:Nat)
 | ins (C dx:Addr) (fs:List (Str×V))
 | own (x:Addr)
 | xd (fs:List (Str×V))
 | met (f x:Addr)
 | rng (lo hi:Int)
 | frz (o:Obj) (u:HO)
 | tbl (ps:Array Value) (q:Str)
 | ext (φ:Heap->Prop)
noncomputable abbrev Hp:=Addr->Option HO
def upd (H:Hp)(a:Addr)(o:HO):Hp:=λb=>if b=a then some o else H b
theorem zD:upd H a o a=some o:=by unfold upd;rw[if_pos rfl]
theorem zk (h:b ≠ a):upd H a o b=H b:=by unfold upd;rw[if_neg h]
theorem zF {H:Hp}{a b:Addr}{o:HO}(h:H a=some o)(h' :H b=none):a ≠ b:=by
 intro e;subst e;rw[h]at h';cases h'
noncomputable def ITN (h:Heap)(a:Addr)(its:Array Value):Prop:=IsTup h a its/\((∃i t,its[0]? =some (Value.int i t))\/∃o,h.get? a=some o/\o.dict=none)
theorem ITN.new (h:Heap)(its:Array Value):ITN (h.push { cls:= .type "tuple",data:= .seq its }) h.objs.size its:=⟨IsTup.new h its,.inr ⟨_,aj _ rfl,rfl⟩⟩
section
variable (P:Program)(w:World)
def Z1 (H:Hp)(h:Heap)(a:Addr):HO->Prop
 | .lst xs=>xs.length<=sizeLine/\∃(its:List Value) (n:Nat),Vals xs its/\h.get? a=some { cls:= .type "list",data:= .seq its.toArray n }
 | .tup xs=>xs.length<=sizeLine/\∃its:List Value,Vals xs its/\ITN h a its.toArray
 | .dK kvs=>kvs.length<=sizeLine/\(a == sysModules)=false/\∃vs,KV kvs vs/\h.DictOf (ZZ P w) a vs
 | .dT kvs=>kvs.length<=sizeLine/\(a == sysModules)=false/\∃xs:List (List Key×Addr×Value),
   Paired (λ(p:List Key×V) (q:List Key×Addr×Value)=>p.1=q.1/\H q.2.1=some (.tup (p.1.map kV))/\RelV p.2 q.2.2) kvs xs/\
   ∃o es ep,h.get? a=some o/\o.ExactDict/\o.data= .dict es ep/\es.toList=xs.map (entryOfKey (tupleKind (ZZ P w)))/\(xs.map (·.1)).Nodup
 | .set S n=>h.SetOf (intKind P w) a S n
 | .ins C dx fs=>H dx=some (.own a)/\fs.length<=1000/\dx ≠ a/\h.get? a=some (fG C dx)/\
   ∃mA,h.Ns1 dx mA/\(∀f,z2a (fs.lookup f) (mA f))/\PySem.Within mA (fs.map (·.1))
 | .own _=>∃o,h.get? a=some o
 | .xd fs=>∃mA,h.Ns1 a mA/\∀f,z2a (fs.lookup f) (mA f)
 | .rng lo hi=>∃t u v,h.get? a=some { cls:= .type "range",data:= .fields #[.int lo t,.int hi u,.int 1 v] }
 | .frz o u=>h.get? a=some o/\Z1 H h a u
 | .tbl ps q=>∃more:Array Value,h.get? a=some { cls:= .none,data:= .fields (ps++more) }/\TriplesOk (ps++more).toList/\∀p cv,codeAmong p (ps++more).toList=some cv->∃c oc vs t,cv= .ref c/\H c=some (.frz oc (.own c))/\oc.data= .fields vs/\vs[1]? =some (.str q t)
 | .met f x=>h.get? a=some (PySem.W.methodObj (.ref f) (.ref x))
 | .ext φ=>φ h/\(∃o,h.get? a=some o)/\∀h1 h2:Heap,φ h1->(∀o,h1.get? a=some o->h2.get? a=some o)->φ h2
def HOk (H:Hp)(h:Heap):Prop:=∀a o,H a=some o->Z1 P w H h a o
end
section
variable {P:Program}{w:World}{H H' :Hp}{h h' :Heap}{a:Addr}{o:HO}
theorem Z1.lt (x:Z1 P w H h a o):a < h.objs.size:=by
 cases o with
 | lst xs=>obtain⟨_,_,_,_,e⟩:=x;exact aq e
 | tup xs=>obtain⟨_,_,_,p,_⟩:=x;exact p.lt
 | dK kvs=>obtain⟨_,_,_,_,o,_,_,e,_⟩:=x;exact aq e
 | dT kvs=>obtain⟨_,_,_,_,o,_,_,e,_⟩:=x;exact aq e
 | set S n=>obtain⟨o,_,_,_,e,_⟩:=x;exact aq e
 | ins C dx fs=>obtain⟨_,_,_,e,_⟩:=x;exact aq e
 | own y=>obtain⟨_,e⟩:=x;exact aq e
 | xd fs=>obtain⟨_,⟨_,_,_,e,_⟩,_⟩:=x;exact aq e
 | rng lo hi=>obtain⟨_,_,_,e⟩:=x;exact aq e
 | frz ob u=>obtain⟨e,_⟩:=x;exact aq e
 | tbl ps q=>obtain⟨_,e,_⟩:=x;exact aq e
 | met f y=>exact aq (x)
 | ext φ=>obtain⟨_,⟨_,e⟩,_⟩:=x;exact aq e
theorem Paired.mapP {α β:Type}{F G:α->β->Prop}:∀{l₁:List α} {l₂:List β},Paired F l₁ l₂->(∀a b,F a b->G a b)->Paired G l₁ l₂
 | _,_,.nil,_=> .nil
 | _,_,.cons r t,f=> .cons (f _ _ r) (Paired.mapP t f)
theorem Z1.stay (x:Z1 P w H h a o)(k:∀b u,(b=a\/H b=some (.own a))->h.get? b=some u->h'.get? b=some u)
  (ho:∀b,H b=some (.own a)->H' b=some (.own a)) (ht:∀b xs,H b=some (.tup xs)->H' b=some (.tup xs)) (hf:∀b o u,H b=some (.frz o u)->H' b=some (.frz o u):=by exact λ_ _ _ q=>q):Z1 P w H' h' a o:=by
 induction o with
 | lst xs=>obtain⟨z,its,n,r,e⟩:=x;exact⟨z,its,n,r,k _ _ (.inl rfl) e⟩
 | tup xs=>obtain⟨z,its,r,⟨ob,e,c⟩,q⟩:=x;exact⟨z,its,r,⟨ob,k _ _ (.inl rfl) e,c⟩,q.imp id λ⟨o2,e2,d2⟩=>⟨o2,k _ _ (.inl rfl) e2,d2⟩⟩
 | dK kvs=>obtain⟨z,y,vs,r,ob,es,ep,e,c⟩:=x;exact⟨z,y,vs,r,ob,es,ep,k _ _ (.inl rfl) e,c⟩
 | dT kvs=>
  obtain⟨z,y,xs,r,ob,es,ep,e,c⟩:=x;exact⟨z,y,xs,Paired.mapP r λp q z=>⟨z.1,ht _ _ z.2.1,z.2.2⟩,ob,es,ep,k _ _ (.inl rfl) e,c⟩
 | set S n=>obtain⟨ob,es,ep,t,e,c⟩:=x;exact⟨ob,es,ep,t,k _ _ (.inl rfl) e,c⟩
 | ins C dx fs=>
  obtain⟨d,z,ne,e,mA,⟨od,es,ep,e2,c⟩,r⟩:=x;exact⟨ho _ d,z,ne,k _ _ (.inl rfl) e,mA,⟨od,es,ep,k _ _ (.inr d) e2,c⟩,r⟩
 | own y=>obtain⟨ob,e⟩:=x;exact⟨ob,k _ _ (.inl rfl) e⟩
 | xd fs=>obtain⟨mA,⟨od,es,ep,e,c⟩,r⟩:=x;exact⟨mA,⟨od,es,ep,k _ _ (.inl rfl) e,c⟩,r⟩
 | rng lo hi=>obtain⟨t,u,v,e⟩:=x;exact⟨t,u,v,k _ _ (.inl rfl) e⟩
 | frz ob u ih=>obtain⟨e,q⟩:=x;exact⟨k _ _ (.inl rfl) e,ih q⟩
 | tbl ps q=>
  obtain⟨m,e,tr,al⟩:=x;exact⟨m,k a _ (.inl rfl) e,tr,λp cv z=>let ⟨c,oc,vs,t,e1,e2,e3⟩:=al p cv z;⟨c,oc,vs,t,e1,hf _ _ _ e2,e3⟩⟩
 | met f y=>
  have e:=x;exact k a _ (.inl rfl) e
 | ext φ=>obtain⟨p,⟨o,e⟩,st⟩:=x;exact⟨st _ _ p λo q=>k _ _ (.inl rfl) q,⟨o,k _ _ (.inl rfl) e⟩,st⟩
theorem HOk.lt (x:HOk P w H h)(e:H a=some o):a < h.objs.size:=(x a o e).lt
theorem HOk.fresh (x:HOk P w H h)(e:h.objs.size<=a):H a=none:=by
 cases q:H a with
 | none=>rfl
 | some u=>exact absurd (aI (x.lt q) e) (bH _)
theorem HOk.kept (x:HOk P w H h)(k:∀b u,h.get? b=some u->h'.get? b=some u):HOk P w H h' :=λa o e=>
 (x a o e).stay (λb u _ q=>k b u q) (λ_ q=>q) λ_ _ q=>q
theorem HOk.laid (x:HOk P w H h)(k:∀b u,h.get? b=some u->h'.get? b=some u)(hp:h.objs.size<=a)(new:Z1 P w (upd H a o) h' a o):HOk P w (upd H a o) h' :=λb u e=>by
 have hn:=x.fresh hp
 by_cases hb:b=a
 ·subst hb;rw[zD]at e;cases e;exact new
 ·rw[zk hb]at e;exact(x b u e).stay (λc v _ q=>k c v q) (λc q=>by rw[zk (zF q hn)];exact q) (λc xs q=>by rw[zk (zF q hn)];exact q) λc o u q=>by rw[zk (zF q hn)];exact q
end
def Rd (H:Hp)(a:Addr)(u:HO):Prop:=H a=some u\/∃o,H a=some (.frz o u)
theorem Rd.ok (r:Rd H a u)(x:HOk P w H h):Z1 P w H h a u:=by
 rcases r with r | ⟨o,r⟩
 ·exact x a u r
 ·obtain⟨_,q⟩:=x a _ r;exact q
noncomputable def Mut:Option HO->Prop
 | some (.lst _)=>True
 | some (.dK _)=>True
 | some (.dT _)=>True
 | some (.set _ _)=>True
 | some (.ins _ _ _)=>True
 | some (.ext _)=>True
 | _=>False
section
theorem HOk.write (ok:HOk P w H h)(mu:Mut (H x))(he:e=x\/H e=some (.own x))(k:∀b u,b ≠ e->h.get? b=some u->h'.get? b=some u)(heo:∃u,h'.get? e=some u)
  (new:Z1 P w (upd H x o') h' x o'):HOk P w (upd H x o') h' :=λb u q=>by
 have nown:∀c y,H c=some (.own y)->c ≠ x:=λc y r z=>by subst z;rw[r]at mu;exact mu
 have ntup:∀c xs,H c=some (.tup xs)->c ≠ x:=λc xs r z=>by subst z;rw[r]at mu;exact mu
 by_cases hb:b=x
 ·subst hb;rw[zD]at q;cases q;exact new
 ·rw[zk hb]at q
  by_cases hbe:b=e
  ·have q' :H b=some (.own x):=by
    rcases he with z | z
    ·exact absurd (hbe.trans z) hb
    ·rw[hbe];exact z
   rw[q]at q';cases q';obtain⟨v,hv⟩:=heo;exact⟨v,by rw[hbe];exact hv⟩
  ·refine(ok b u q).stay (λc v hc r=>k c v ?_ r) (λc r=>by rw[zk (nown c b r)];exact r) (λc xs r=>by rw[zk (ntup c xs r)];exact r) λc o u r=>by rw[zk (λz=>by subst z;rw[r]at mu;exact mu)];exact r
   rcases hc with rfl | hc
   ·exact hbe
   ·rintro rfl
    rcases he with z | z
    ·exact nown c b hc z
    ·rw[hc]at z;cases z;exact hb rfl
end
structure Un (fs ex:List Addr) (H H' :Hp) (h h' :Heap):Prop where
 keep:∀b o,h.get? b=some o->H b=none->b ∉ fs->b ∉ ex->h'.get? b=some o
 slot:∀b o,h.get? b=some o->H b=none->b∈fs->b ∉ ex->∃sl,h'.get? b=some { o with slots:=sl }
 free:∀b o,h.get? b=some o->H b=none->b ∉ ex->H' b=none
 there:∀b o,h.get? b=some o->b ∉ ex->∃o',h'.get? b=some o'
 tups:∀b xs,H b=some (.tup xs)->H' b=some (.tup xs)
 frzs:∀b o u,H b=some (.frz o u)->H' b=some (.frz o u)
 tbls:∀b ps q,H b=some (.tbl ps q)->H' b=some (.tbl ps q)
section
variable {fs fs' ex ex' :List Addr}{H H1 H2:Hp}{h h1 h2 h' :Heap}{a x e:Addr}{o:HO}
theorem Un.any (u:Un fs ex H H1 h h1)(q:h.get? b=some ob)(n:H b=none)(hx:b ∉ ex):∃sl,h1.get? b=some { ob with slots:=sl }:=by
 by_cases hb:b∈fs
 ·exact u.slot b ob q n hb hx
 ·exact⟨ob.slots,u.keep b ob q n hb hx⟩
theorem Un.kept (k:∀b u,h.get? b=some u->h'.get? b=some u):Un fs ex H H h h' :=
 ⟨λb ob q _ _ _=>k b ob q,λb ob q _ _ _=>⟨ob.slots,k b ob q⟩,λ_ _ _ n _=>n,λb ob q _=>⟨ob,k b ob q⟩,λ_ _ q=>q,λ_ _ _ q=>q,λ_ _ _ q=>q⟩
theorem Un.refl:Un fs ex H H h h:=Un.kept λ_ _ q=>q
theorem Un.laid (k:∀b u,h.get? b=some u->h'.get? b=some u)(hp:h.objs.size<=a)(hn:H a=none):Un fs ex H (upd H a o) h h' where
 keep:=λb u q _ _ _=>k b u q
 slot:=λb u q _ _ _=>⟨u.slots,k b u q⟩
 free:=λb u q n _=>by rw[zk (aC (aI (aq q) hp))];exact n
 there:=λb u q _=>⟨u,k b u q⟩
 tups:=λb xs q=>by rw[zk (zF q hn)];exact q
 frzs:=λb u xs q=>by rw[zk (zF q hn)];exact q
 tbls:=λb ps q e=>by rw[zk (zF e hn)];exact e
theorem Un.write (mu:Mut (H x))(he:e=x\/H e=some (.own x))(k:∀b u,b ≠ e->h.get? b=some u->h'.get? b=some u)(heo:∃u,h'.get? e=some u):Un fs ex H (upd H x o) h h' :=by
 have hx:∀b,H b=none->b ≠ x:=λb n z=>by subst z;rw[n]at mu;exact mu
 have hb:∀b,H b=none->b ≠ e:=λb n z=>by
  subst z;rcases he with r | r
  ·exact hx b n r
  ·rw[n]at r;cases r
 have hm:∀b u,H b=some u->¬ Mut (some u)->b ≠ x:=λb u q nm z=>by subst z;rw[q]at mu;exact nm mu
 refine⟨λb u q n _ _=>k b u (hb b n) q,λb u q n _ _=>⟨u.slots,k b u (hb b n) q⟩,λb u q n _=>by rw[zk (hx b n)];exact n,λb u q _=> ?_,
  λb xs q=>by rw[zk (hm b _ q λz=>z)];exact q,λb u xs q=>by rw[zk (hm b _ q λz=>z)];exact q,λb ps q e=>by rw[zk (hm b _ e λz=>z)];exact e⟩
 by_cases hbe:b=e
 ·subst hbe;exact heo
 ·exact⟨u,k b u hbe q⟩
end
def trk (h:Heap)(H:Hp):List Addr:=(aX h.objs.size).filter λa=>(H a).isSome
def gc (h:Heap)(H:Hp):Heap:=PySem.W.hideAll h (trk h H)
theorem Yt (h:Heap)(H:Hp):(gc h H).objs.size=h.objs.size:=PySem.W.hideAll_size _ _
theorem vS (e:h.get? b=some o)(n:H b=none):(gc h H).get? b=some o:=
 PySem.W.hideAll_get _ e λhm=>by
  have q:=(cU.mp hm).2;rw[n]at q;simp at q
theorem Xx (e:(gc h H).get? b=some o):h.get? b=some o/\H b=none:=by
 have e' :=PySem.W.of_hideAll _ e;refine⟨e', ?_⟩;cases q:H b with
 | none=>rfl
 | some x=>
  have hm:b∈trk h H:=cU.mpr ⟨aZ.mpr (aq e'),by simp[q]⟩
  have z:(gc h H).get? b=none:=PySem.W.hideAll_none _ hm;rw[z]at e;cases e
end L2
namespace L2
open PySem PySem.Spec PyProof.Rows
structure Mod (K:ae) (mg:Str->Option Value) (base:Heap):Prop where
 kin:K.In base
 glob:base.Ns mainGlobals mg
 blt:∃mb,base.Ns builtinsNs mb/\∀x:Str,x ≠ "__name__"->mb x=bootBuiltins x
 nolimit:base.NoLimit
structure Cx where
 prog:Program
 w:World
 K:ae
 mg:Str->Option Value
 base:Heap
 A:Around
 N:List Str
 s₀:Shared
 H₀:Hp
 env:Env
 outer:List Env
 stack:List Env
 ex:List Addr
 fn:Str->Bool
 calm:Bool
 pn:List (Addr×Obj)
 xe:Value->Shared->Prop
noncomputable def frs (l:List Env):List Addr:=l.filterMap (·.frame)
abbrev Cx.fs (X:Cx):List Addr:=frs X.outer
noncomputable def Vis (sc:Scope)(x:Str):Prop:=sc.names.lookup x=some .local\/sc.names.lookup x=some .cell\/sc.names.lookup x=some .free
noncomputable def Loc (sc:Scope)(x:Str):Prop:=sc.names.lookup x=some .local\/sc.names.lookup x=some .cell
noncomputable def Look (env:Env)(h:Heap)(m:Str->Option Value)(x:Str)(u:Value):Prop:=
 (env.kindOf x=some .local/\m x=some u)\/((env.kindOf x=some .cell\/env.kindOf x=some .free)/\∃c,env.cells.lookup x=some c/\h.IsCell c (some u))
structure Cx.Ok (X:Cx):Prop where
 mod:Mod X.K X.mg X.base
 kind:X.env.scope.kind= .function
 glob:X.env.globals=mainGlobals
 blt:X.env.builtins=builtinsNs
 above:X.s₀.heap.objs.size<=X.env.locals
 inj:∀x y c,X.env.cells.lookup x=some c->X.env.cells.lookup y=some c->x=y
 has:∀x,(X.env.kindOf x=some .cell\/X.env.kindOf x=some .free)->∃c,X.env.cells.lookup x=some c
 cab:∀x c,X.fn x=true->X.env.cells.lookup x=some c->X.s₀.heap.objs.size<=c
 hd:X.calm=true->X.A.handled=none
 frames:X.A.frames=some X.stack
 stk:X.stack=X.outer\/(X.stack=X.env :: X.outer/\X.env.frame=some X.env.locals)
 exf:∀b∈X.ex,b ≠ X.env.locals/\∀x c,X.env.cells.lookup x=some c->c ≠ b
 bs:∀b o,X.base.get? b=some o->X.s₀.heap.get? b=some o/\X.H₀ b=none
 bsz:X.base.objs.size<=X.s₀.heap.objs.size
 noex:∀b o,X.base.get? b=some o->b ∉ X.ex
 exfs:∀b∈X.ex,b ∉ X.fs
 funs:X.s₀.heap.FunFrames X.base X.outer
 frf:∀b∈X.fs,X.H₀ b=none
structure Inv (X:Cx) (pins:List (Addr×Obj)) (σ:List (Option V)) (H:Hp) (s:Shared):Prop where
 ok:X.Ok
 os:s.os=X.s₀.os
 bare:AllBare s.gens
 base:Un X.fs X.ex X.H₀ H X.s₀.heap s.heap
 loc:∃m,s.heap.Ns X.env.locals m/\∀(i:Nat) (x:Str) (v:V),X.N[i]? =some x->σ[i]? =some (some v)->Vis X.env.scope x->∃u,RelV v u/\Look X.env s.heap m x u
 cell:∀x c,X.env.cells.lookup x=some c->∃v,s.heap.IsCell c v
 free:H X.env.locals=none
 freeC:∀x c,X.env.cells.lookup x=some c->H c=none
 pin:∀p∈X.pn++pins,s.heap.get? p.1=some p.2/\H p.1=none/\p.1 ≠ X.env.locals/\p.1 ∉ X.fs/\∀v,p.2.data ≠ .cell v
 hok:HOk X.prog X.w H s.heap
 len:σ.length=X.N.length
section
variable {X:Cx}{pins:List (Addr×Obj)}{σ:List (Option V)}{H H' :Hp}{s:Shared}{h' :Heap}
theorem Cx.Ok.nofr (ok:X.Ok){b:Addr}{o:Obj}(e:X.base.get? b=some o):b ∉ X.fs:=λhb=>by
 have:=(ok.funs.mem hb).1;rw[e]at this;cases this
theorem Inv.bs (I:Inv X pins σ H s):∀b o,X.base.get? b=some o->s.heap.get? b=some o/\H b=none:=λb o e=>
 ⟨I.base.keep b o (I.ok.bs b o e).1 (I.ok.bs b o e).2 (I.ok.nofr e) (I.ok.noex b o e),I.base.free b o (I.ok.bs b o e).1 (I.ok.bs b o e).2 (I.ok.noex b o e)⟩
theorem Inv.bk (I:Inv X pins σ H s):∀b o,X.base.get? b=some o->s.heap.get? b=some o:=λb o e=>(I.bs b o e).1
theorem Inv.mod (I:Inv X pins σ H s):Mod X.K X.mg X.base:=I.ok.mod
theorem Inv.kIn (I:Inv X pins σ H s):X.K.In s.heap:=I.ok.mod.kin.keeps I.bk
theorem Inv.lt (I:Inv X pins σ H s):X.env.locals < s.heap.objs.size:=let ⟨_,hn,_⟩:=I.loc;hn.lt
theorem Inv.sz (I:Inv X pins σ H s):X.s₀.heap.objs.size<=s.heap.objs.size:=ao I.ok.above (fq I.lt)
theorem Inv.nofs (I:Inv X pins σ H s)(h:s.heap.objs.size<=a):a ∉ X.fs:=λhb=>by
 obtain⟨_,o,ho,_⟩:=I.ok.funs.mem hb;exact absurd (aI (aq ho) (ao I.sz h)) (bH _)
theorem Inv.cne (I:Inv X pins σ H s):∀x c,X.env.cells.lookup x=some c->c ≠ X.env.locals:=λx c e z=>by
 obtain⟨v,o,ho,hd⟩:=I.cell x c e;obtain⟨m,⟨o',es,ep,ho',hd',_⟩,_⟩:=I.loc;rw[z,ho']at ho;cases ho;rw[hd']at hd;cases hd
theorem Inv.funs (I:Inv X pins σ H s):s.heap.FunFrames X.base X.outer:=by
 have all:∀(l:List Env),(∀b∈frs l,b∈X.fs)->X.s₀.heap.FunFrames X.base l->s.heap.FunFrames X.base l:=by
  intro l
  induction l with
  | nil=>intro _ _;trivial
  | cons env r ih=>
   intro hs hl;obtain⟨hk,⟨L,o,hf,hn,ho,hd⟩,hr⟩:=hl;have hL:=hs L (by unfold frs;rw[dh,hf];exact a9)
   obtain⟨sl,e⟩:=I.base.slot L o ho (I.ok.frf L hL) hL λz=>I.ok.exfs L z hL;exact⟨hk,⟨L,_,hf,hn,e,hd⟩,ih (λb hb=>hs b (by unfold frs;rw[dh,hf];exact a8 _ hb)) hr⟩
 exact all _ (λ_ hb=>hb) I.ok.funs
theorem Inv.stack (I:Inv X pins σ H s):s.heap.FunFrames X.base X.stack:=by
 rcases I.ok.stk with e | ⟨e,hf⟩
 ·rw[e];exact I.funs
 ·rw[e];obtain⟨m,hn,_⟩:=I.loc;refine .cons (by rw[I.ok.kind];decide) hf hn ?_ I.funs
  exact Heap.get?_none_of_le (ao I.ok.bsz I.ok.above)
theorem Inv.stkSub (I:Inv X pins σ H s):∀b∈frs X.stack,b∈X.env.locals :: X.fs:=λb hb=>by
 rcases I.ok.stk with e | ⟨e,hf⟩
 ·rw[e]at hb;exact a8 _ hb
 ·rw[e]at hb;unfold frs at hb;rw[dh,hf]at hb;exact hb
theorem Inv.stkFree (I:Inv X pins σ H s):∀b∈frs X.stack,H b=none:=λb hb=>by
 rcases ak.mp (I.stkSub b hb) with e | hb
 ·rw[e];exact I.free
 ·obtain⟨_,o,ho,_⟩:=I.ok.funs.mem hb;exact I.base.free b o ho (I.ok.frf b hb) λz=>I.ok.exfs b z hb
theorem Inv.step {g' :Array GenState}{t' :Nat}{d' :Drawn}{ch:List Addr}(I:Inv X pins σ H s)
  (hch:∀b∈ch,(b∈X.ex\/X.s₀.heap.objs.size<=b)/\b ≠ X.env.locals/\(∀x c,X.env.cells.lookup x=some c->c ≠ b)/\∀p∈X.pn++pins,p.1 ≠ b)
  (keep:∀b o,b ≠ X.env.locals->b ∉ X.fs->b ∉ ch->s.heap.get? b=some o->H b=none->h'.get? b=some o)
  (slot:∀b o,b ≠ X.env.locals->b∈X.fs->b ∉ ch->s.heap.get? b=some o->H b=none->∃sl,h'.get? b=some { o with slots:=sl }) (free:∀b o,b ∉ ch->s.heap.get? b=some o->H b=none->H' b=none)
  (there:∀b o,b ∉ ch->s.heap.get? b=some o->∃o',h'.get? b=some o')
  (tups:∀b xs,H b=some (.tup xs)->H' b=some (.tup xs)) (frzs:∀b o u,H b=some (.frz o u)->H' b=some (.frz o u)) (tbls:∀b ps q,H b=some (.tbl ps q)->H' b=some (.tbl ps q))
  (ns:∀m,s.heap.Ns X.env.locals m->h'.Ns X.env.locals m) (hok:HOk X.prog X.w H' h') (hg:AllBare g'):
  Inv X pins σ H' { s with heap:=h',gens:=g',drawn:=d',toks:=t' }:=by
 have neL:∀b o,X.s₀.heap.get? b=some o->b ≠ X.env.locals:=λb o e=>aC (aI (aq e) I.ok.above);have neC:∀b o,X.s₀.heap.get? b=some o->b ∉ X.ex->b ∉ ch:=λb o e hx hb=>by
  rcases(hch b hb).1 with z | z
  ·exact hx z
  ·exact absurd (aI (aq e) z) (bH _)
 have cellK:∀x c,X.env.cells.lookup x=some c->∀v,s.heap.IsCell c v->h'.IsCell c v:=λx c e v ⟨o,ho,hd⟩=>by
  have nch:=λz=>(hch c z).2.2.1 x c e rfl
  by_cases hc:c∈X.fs
  ·obtain⟨sl,q⟩:=slot c o (I.cne x c e) hc nch ho (I.freeC x c e);exact⟨_,q,hd⟩
  ·exact⟨o,keep c o (I.cne x c e) hc nch ho (I.freeC x c e),hd⟩
 refine⟨I.ok,I.os,hg,⟨λb o e n hb hx=> ?_,λb o e n hb hx=> ?_,λb o e n hx=> ?_,λb o e hx=> ?_,λb xs e=>tups b xs (I.base.tups b xs e),λb o xs e=>frzs b o xs (I.base.frzs b o xs e),λb ps q e=>tbls b ps q (I.base.tbls b ps q e)⟩, ?_,λx c e=> ?_, ?_,λx c e=> ?_,λp hp=> ?_,hok,I.len⟩
 ·exact keep b o (neL b o e) hb (neC b o e hx) (I.base.keep b o e n hb hx) (I.base.free b o e n hx)
 ·obtain⟨sl,e1⟩:=I.base.slot b o e n hb hx;obtain⟨sl',e2⟩:=slot b _ (neL b o e) hb (neC b o e hx) e1 (I.base.free b o e n hx);exact⟨sl',e2⟩
 ·obtain⟨o',e1⟩:=I.base.there b o e hx;exact free b o' (neC b o e hx) e1 (I.base.free b o e n hx)
 ·obtain⟨o',e1⟩:=I.base.there b o e hx;exact there b o' (neC b o e hx) e1
 ·obtain⟨m,hn,hl⟩:=I.loc;refine⟨m,ns m hn,λi x v e1 e2 e3=> ?_⟩;obtain⟨u,r,l⟩:=hl i x v e1 e2 e3;refine⟨u,r, ?_⟩;rcases l with l | ⟨k,c,e,z⟩
  ·exact .inl l
  ·exact .inr ⟨k,c,e,cellK x c e _ z⟩
 ·obtain⟨v,z⟩:=I.cell x c e;exact⟨v,cellK x c e v z⟩
 ·obtain⟨m,⟨o,_,_,ho,_⟩,_⟩:=I.loc;exact free _ o (λz=>(hch _ z).2.1 rfl) ho I.free
 ·obtain⟨v,o,ho,hd⟩:=I.cell x c e;exact free c o (λz=>(hch c z).2.2.1 x c e rfl) ho (I.freeC x c e)
 ·obtain⟨e,n,ne,nf,d⟩:=I.pin p hp;have nch:=λz=>(hch p.1 z).2.2.2 p hp rfl;exact⟨keep p.1 p.2 ne nf nch e n,free p.1 p.2 nch e n,ne,nf,d⟩
theorem Inv.un {t' :Nat}(I:Inv X pins σ H s)(u:Un X.fs [] H H' s.heap h')(hok:HOk X.prog X.w H' h'):Inv X pins σ H' { s with heap:=h',toks:=t' }:=by
 obtain⟨m,⟨o,es,ep,ho,r⟩,_⟩:=id I.loc;obtain⟨sl,hL⟩:=u.any ho I.free (by simp)
 exact I.step (ch:=[]) (λ_ z=>nomatch z) (λb o _ hb _ e n=>u.keep b o e n hb (by simp)) (λb o _ hb _ e n=>u.slot b o e n hb (by simp)) (λb o _ e n=>u.free b o e n (by simp)) (λb o _ e=>u.there b o e (by simp)) u.tups u.frzs u.tbls (λm' hm=>by
  obtain⟨o',es',ep',ho',r'⟩:=hm;rw[ho]at ho';cases ho';exact⟨_,es',ep',hL,r'⟩) hok I.bare
theorem Inv.call {g' :Array GenState}{t' :Nat}{d' :Drawn}{ch:List Addr}(I:Inv X pins σ H s)(u:Un (frs X.stack) ch H H' s.heap h')(hok:HOk X.prog X.w H' h')(hg:AllBare g')
  (hch:∀b∈ch,(b∈X.ex\/X.s₀.heap.objs.size<=b)/\b ≠ X.env.locals/\(∀x c,X.env.cells.lookup x=some c->c ≠ b)/\∀p∈X.pn++pins,p.1 ≠ b):
  Inv X pins σ H' { s with heap:=h',gens:=g',drawn:=d',toks:=t' }:=by
 obtain⟨m,⟨o,es,ep,ho,r⟩,_⟩:=id I.loc;obtain⟨sl,hL⟩:=u.any ho I.free λz=>(hch _ z).2.1 rfl;exact I.step hch (λb o hL hb hc e n=>u.keep b o e n (λz=>(ak.mp (I.stkSub b z)).elim hL hb) hc) (λb o _ _ hc e n=>u.any e n hc) (λb o hc e n=>u.free b o e n hc) (λb o hc e=>u.there b o e hc) u.tups u.frzs u.tbls (λm' hm=>by
  obtain⟨o',es',ep',ho',r'⟩:=hm;rw[ho]at ho';cases ho';exact⟨_,es',ep',hL,r'⟩) hok hg
theorem Inv.turned {t' :Nat}{it:Addr}(I:Inv X pins σ H s)(k:∀b o,b ≠ it->s.heap.get? b=some o->h'.get? b=some o)(hn:H it=none)(hL:it ≠ X.env.locals)
  (h1:it∈X.ex\/X.s₀.heap.objs.size<=it) (h2:∀x c,X.env.cells.lookup x=some c->c ≠ it) (h3:∀p∈X.pn++pins,p.1 ≠ it):Inv X pins σ H { s with heap:=h',toks:=t' }:=by
 have nit:∀b u,H b=some u->b ≠ it:=λb u e z=>by rw[z,hn]at e;cases e
 refine I.step (ch:=[it]) (λb hb=> ?_) (λb o _ _ hc e _=>k b o (λz=>hc (by simp[z])) e) (λb o _ _ hc e _=>⟨o.slots,k b o (λz=>hc (by simp[z])) e⟩) (λ_ _ _ _ n=>n)
  (λb o hc e=>⟨o,k b o (λz=>hc (by simp[z])) e⟩) (λ_ _ e=>e) (λ_ _ _ e=>e) (λ_ _ _ e=>e) (λm hm=> ?_) (λb u e=> ?_) I.bare
 ·have e:=by simpa using hb
  subst e;exact⟨h1,hL,h2,h3⟩
 ·obtain⟨o,es,ep,ho,r⟩:=hm;exact⟨o,es,ep,k _ o (bK hL) ho,r⟩
 ·refine(I.hok b u e).stay (λc v hc q=>k c v ?_ q) (λ_ q=>q) λ_ _ q=>q;rcases hc with z | z
  ·rw[z];exact nit b u e
  ·exact nit c _ z
theorem Inv.tok (I:Inv X pins σ H s)(t:Nat):Inv X pins σ H { s with toks:=t }:=I.un Un.refl I.hok
theorem Inv.kept (I:Inv X pins σ H s)(k:∀b u,s.heap.get? b=some u->h'.get? b=some u):Inv X pins σ H { s with heap:=h',toks:=t' }:=I.un (Un.kept k) (I.hok.kept k)
theorem Inv.laid (I:Inv X pins σ H s)(k:∀b u,s.heap.get? b=some u->h'.get? b=some u)(hp:s.heap.objs.size<=a)(new:Z1 X.prog X.w (upd H a o) h' a o):
  Inv X pins σ (upd H a o) { s with heap:=h',toks:=t' }:=I.un (Un.laid k hp (I.hok.fresh hp)) (I.hok.laid k hp new)
theorem Inv.write (I:Inv X pins σ H s)(mu:Mut (H x))(he:e=x\/H e=some (.own x))(k:∀b u,b ≠ e->s.heap.get? b=some u->h'.get? b=some u)(heo:∃u,h'.get? e=some u)
  (new:Z1 X.prog X.w (upd H x o) h' x o):Inv X pins σ (upd H x o) { s with heap:=h',toks:=t' }:=I.un (Un.write mu he k heo) (I.hok.write mu he k heo new)
theorem Inv.pins_of (I:Inv X pins σ H s)(h:∀p∈pins',s.heap.get? p.1=some p.2/\H p.1=none/\p.1 ≠ X.env.locals/\p.1 ∉ X.fs/\∀v,p.2.data ≠ .cell v):Inv X pins' σ H s:=
 ⟨I.ok,I.os,I.bare,I.base,I.loc,I.cell,I.free,I.freeC,λp hp=>(dr.mp hp).elim (λz=>I.pin p (d6 _ z)) (h p),I.hok,I.len⟩
theorem W3 {N:List Str}(hN:N.Nodup){i j:Nat}{x:Str}(a:N[i]? =some x)(b:N[j]? =some x):i=j:=by
 obtain⟨h1,e1⟩:=au.mp a;obtain⟨h2,e2⟩:=au.mp b;exact(iI hN).mp (e1.trans e2.symm)
theorem WO {M:Model}{A:Around}{E:Value->Shared->Prop}{i:Nat}{x:Str}{v:V}{u:Value}{Q:Unit->Shared->Prop}(I:Inv X pins σ H s)(hN:X.N.Nodup)(hi:X.N[i]? =some x)(hx:Loc X.env.scope x)(r:RelV v u)
  (h:∀s',Inv X pins (σ.set i (some v)) H s' ->(∃a,cP a s.heap s'.heap/\(a=X.env.locals\/X.env.cells.lookup x=some a))->Q () s') (hf:X.fn x=true\/X.env.scope.names.lookup x=some .local:=by first | exact .inl rfl | exact .inr rfl | assumption):wpAny M A (storeName X.env x u) Q E s:=by
 obtain⟨m,hn,hl⟩:=id I.loc;have hcls:(X.env.scope.kind == .class || (X.env.scope.kind == .module && X.env.locals != X.env.globals))=false:=by rw[I.ok.kind];rfl
 have hiσ:i < σ.length:=by rw[I.len];exact(au.mp hi).1
 have cne:=I.cne;have tracked:∀{a:Addr} {h' :Heap},(∃o,s.heap.get? a=some o/\H a=none)->cP a _ h' ->HOk _ X.w H h' :=λ{a h'} ha hs b ob e=>by
  obtain⟨_,_,hfree⟩:=ha;refine(I.hok b ob e).stay (λc w' hc q=>(hs.2 c ?_).trans q) (λ_ q=>q) λ_ _ q=>q
  rintro rfl
  rcases hc with rfl | hc
  ·rw[hfree]at e;cases e
  ·rw[hfree]at hc;cases hc
 rcases hx with hk | hk
 ·refine wpAny_storeName_local hk hn (λh' hn' hs=> ?_) hcls;obtain⟨oL,_,_,hoL,_⟩:=id hn;refine h _ ⟨I.ok,I.os,I.bare,⟨λb o e n hb hx=> ?_,λb o e n hb hx=> ?_,I.base.free,λb o e hx=> ?_,I.base.tups,I.base.frzs,I.base.tbls⟩,⟨_,hn',λj y v' e1 e2 e3=> ?_⟩,λy c e=> ?_,I.free,I.freeC,λp hp=> ?_,tracked ⟨oL,hoL,I.free⟩ hs,by simpa using I.len⟩ ⟨_,hs,.inl rfl⟩
  ·exact(hs.2 b (aC (aI (aq e) I.ok.above))).trans (I.base.keep b o e n hb hx)
  ·obtain⟨sl,e1⟩:=I.base.slot b o e n hb hx;exact⟨sl,(hs.2 b (aC (aI (aq e) I.ok.above))).trans e1⟩
  ·obtain⟨o',e1⟩:=I.base.there b o e hx;exact⟨o',(hs.2 b (aC (aI (aq e) I.ok.above))).trans e1⟩
  ·by_cases hj:j=i
   ·subst hj;rw[hi]at e1;cases e1;rw[aW hiσ]at e2;cases e2;exact⟨u,r,.inl ⟨hk,by simp⟩⟩
   ·rw[aH (bK hj)]at e2;obtain⟨u',r',q⟩:=hl j y v' e1 e2 e3;refine⟨u',r', ?_⟩;rcases q with ⟨k,e⟩ | ⟨k,c,e,z⟩
    ·refine .inl ⟨k, ?_⟩;have:y ≠ x:=λe=>hj (W3 hN e1 (e ▸ hi));simp[this,e]
    ·exact .inr ⟨k,c,e,z.sameBut hs (cne y c e)⟩
  ·obtain⟨w',z⟩:=I.cell y c e;exact⟨w',z.sameBut hs (cne y c e)⟩
  ·obtain⟨e,n,ne,nf,d⟩:=I.pin p hp;exact⟨(hs.2 p.1 ne).trans e,n,ne,nf,d⟩
 ·have hfn:X.fn x=true:=by
   rcases hf with z | z
   ·exact z
   ·rw[z]at hk;cases hk
  obtain⟨c,hc⟩:=I.ok.has x (.inl hk);obtain⟨w',z⟩:=I.cell x c hc;refine wpAny_storeName_cell I.ok.kind hk hc z (λh' hc' hs=> ?_);obtain⟨oc,hoc,hocd⟩:=id z;refine h _ ⟨I.ok,I.os,I.bare,⟨λb o e n hb hx=> ?_,λb o e n hb hx=> ?_,I.base.free,λb o e hx=> ?_,I.base.tups,I.base.frzs,I.base.tbls⟩,⟨m,hn.sameBut hs (bK (cne x c hc)),λj y v' e1 e2 e3=> ?_⟩,λy c' e=> ?_,I.free,I.freeC,λp hp=> ?_,tracked ⟨oc,hoc,I.freeC x c hc⟩ hs,by simpa using I.len⟩ ⟨c,hs,.inr hc⟩
  ·exact(hs.2 b (aC (aI (aq e) (I.ok.cab x c hfn hc)))).trans (I.base.keep b o e n hb hx)
  ·obtain⟨sl,e1⟩:=I.base.slot b o e n hb hx;exact⟨sl,(hs.2 b (aC (aI (aq e) (I.ok.cab x c hfn hc)))).trans e1⟩
  ·obtain⟨o',e1⟩:=I.base.there b o e hx;exact⟨o',(hs.2 b (aC (aI (aq e) (I.ok.cab x c hfn hc)))).trans e1⟩
  ·by_cases hj:j=i
   ·subst hj;rw[hi]at e1;cases e1;rw[aW hiσ]at e2;cases e2;exact⟨u,r,.inr ⟨.inl hk,c,hc,hc'⟩⟩
   ·rw[aH (bK hj)]at e2;obtain⟨u',r',q⟩:=hl j y v' e1 e2 e3;refine⟨u',r', ?_⟩;rcases q with q | ⟨k,c',e,z'⟩
    ·exact .inl q
    ·refine .inr ⟨k,c',e,z'.sameBut hs ?_⟩
     rintro rfl
     exact hj (W3 hN e1 (I.ok.inj _ _ _ e hc ▸ hi))
  ·by_cases hcc:c' =c
   ·subst hcc;exact⟨_,hc'⟩
   ·obtain⟨w2,z2⟩:=I.cell y c' e;exact⟨w2,z2.sameBut hs hcc⟩
  ·obtain⟨e,n,ne,nf,d⟩:=I.pin p hp;refine⟨(hs.2 p.1 ?_).trans e,n,ne,nf,d⟩;intro q;rw[q,hoc]at e;have q' :=aL e;exact d w' (by rw[← q'];exact hocd)
theorem jI {Q:Unit->Shared->Prop}(I:Inv X pins σ H s)(hN:X.N.Nodup)(hi:X.N[i]? =some x)(hx:Loc X.env.scope x)(r:RelV v u)
  (h:∀s',Inv X pins (σ.set i (some v)) H s' ->Q () s') (hf:X.fn x=true\/X.env.scope.names.lookup x=some .local:=by first | exact .inl rfl | exact .inr rfl | assumption):wpAny M A (storeName X.env x u) Q E s:=
 WO I hN hi hx r (λs' I' _=>h s' I') hf
theorem Inv.call' (I:Inv X pins σ H s)(ho:s'.os=s.os)(u:Un (frs X.stack) ch H H' s.heap s'.heap)(hok:HOk X.prog X.w H' s'.heap)(hg:AllBare s'.gens)
  (hch:∀b∈ch,(b∈X.ex\/X.s₀.heap.objs.size<=b)/\b ≠ X.env.locals/\(∀x c,X.env.cells.lookup x=some c->c ≠ b)/\∀p∈X.pn++pins,p.1 ≠ b):Inv X pins σ H' s' :=by
 obtain⟨h',g',d',t',o'⟩:=s';have e:=ho;subst e;exact I.call u hok hg hch
end
abbrev XK:=Value->Option Addr->Hp->Prop
noncomputable abbrev St:=List (Option V)
abbrev VK:=V->Hp->Prop
abbrev TE:=St->Hp->VK->Prop
abbrev TT:=St->Hp->(Bool->Hp->Prop)->Prop
abbrev TA:=St->Hp->(List V->Hp->Prop)->Prop
structure vT where
 nx:St->Hp->Prop
 rt:VK
 bk:St->Hp->Prop:=λ_ _=>False
 ct:St->Hp->Prop:=λ_ _=>False
abbrev TS:=vT->St->Hp->Prop
def EP (X:Cx)(pins:List (Addr×Obj))(σ:St)(Q:VK)(u:Value)(s' :Shared):Prop:=∃v H',Inv X pins σ H' s' /\RelV v u/\Q v H'
def TP (X:Cx)(pins:List (Addr×Obj))(σ:St)(Q:Bool->Hp->Prop)(b:Bool)(s' :Shared):Prop:=∃H',Inv X pins σ H' s' /\Q b H'
def AP (X:Cx)(pins:List (Addr×Obj))(σ:St)(Q:List V->Hp->Prop)(us:List Value)(s' :Shared):Prop:=∃vs H',Inv X pins σ H' s' /\Vals vs us/\Q vs H'
def SP (X:Cx)(pins:List (Addr×Obj))(D:vT)(f:Flow)(s' :Shared):Prop:=
 match f with
 | .next=>∃σ' H',Inv X pins σ' H' s' /\D.nx σ' H'
 | .brk=>∃σ' H',Inv X pins σ' H' s' /\D.bk σ' H'
 | .cont=>∃σ' H',Inv X pins σ' H' s' /\D.ct σ' H'
 | .ret u=>∃v σ' H',Inv X pins σ' H' s' /\RelV v u/\D.rt v H'
def PE (X:Cx)(e:Expr)(t:TE):Prop:=
 ∀(pins:List (Addr×Obj)) (s:Shared) (σ:St) (H:Hp) (Q:VK),Inv X pins σ H s->t σ H Q->wpAny (model X.prog X.w) X.A (eval e X.env) (EP X pins σ Q) X.xe s
def PT (X:Cx)(e:Expr)(t:TT):Prop:=
 ∀(pins:List (Addr×Obj)) (s:Shared) (σ:St) (H:Hp) (Q:Bool->Hp->Prop),Inv X pins σ H s->t σ H Q->wpAny (model X.prog X.w) X.A (isTrue e X.env (eval e X.env)) (TP X pins σ Q) X.xe s
def PW (X:Cx)(e:Expr)(t:TT):Prop:=
 ∀(whole:Sem Value) (pins:List (Addr×Obj)) (s:Shared) (σ:St) (H:Hp) (Q:Bool->Hp->Prop),Inv X pins σ H s->t σ H Q->wpAny (model X.prog X.w) X.A (isTrue e X.env whole) (TP X pins σ Q) X.xe s
theorem PW.pt (h:PW X e t):PT X e t:=h _
def PA (X:Cx)(es:List Expr)(t:TA):Prop:=
 ∀(pos:Pos) (pins:List _) (s:Shared) (σ:St) (H:Hp) (Q:List V->Hp->Prop),Inv X pins σ H s->t σ H Q->wpAny (model X.prog X.w) X.A (spliced (backTo pos (starEach es X.env))) (AP X pins σ Q) X.xe s
def PS (X:Cx)(st:Stmt)(t:TS):Prop:=
 ∀(pins:List (Addr×Obj)) (s:Shared) (σ:St) (H:Hp) (D:vT),Inv X pins σ H s->t D σ H->wpAny (model X.prog X.w) X.A (exec st X.env) (SP X pins D) X.xe s
def PSs (X:Cx)(st:List Stmt)(t:TS):Prop:=
 ∀(pins:List (Addr×Obj)) (s:Shared) (σ:St) (H:Hp) (D:vT),Inv X pins σ H s->t D σ H->wpAny (model X.prog X.w) X.A (execs st X.env) (SP X pins D) X.xe s
theorem thn {α:Type}{t:Sem α}{Q Q' :α->Shared->Prop}(h:wpAny M A t Q E s)(hQ:∀a s,Q a s->Q' a s):wpAny M A t Q' E s:=c7 h hQ λ_ _ x=>x
end L2
namespace L2
open PySem PySem.Spec PyProof.Rows
section
theorem bin (ha:PE X a ta)(hb:PE X b tb){R:V->V->Hp->Prop}(I:Inv X pins σ H s)(h:ta σ H λx H1=>tb σ H1 λy H2=>R x y H2)
  {α:Type} {Q:α->Shared->Prop} {f:Value->Value->Sem α}
  (hf:∀v u s2 x y H2,Inv X pins σ H2 s2->RelV x v->RelV y u->R x y H2->wpAny (model X.prog X.w) X.A (f v u) Q X.xe s2):
  wpAny (model X.prog X.w) X.A (eval a X.env) (λv s₁=>wpAny (model X.prog X.w) X.A (eval b X.env) (λu s₂=>wpAny (model X.prog X.w) X.A (f v u) Q X.xe s₂) X.xe s₁) X.xe s:=by
 refine thn (ha _ s σ H _ I h) λv s1 ⟨x,H1,I1,r1,q1⟩=> ?_;refine thn (hb _ s1 σ H1 _ I1 q1) λu s2 ⟨y,H2,I2,r2,q2⟩=> ?_;exact hf v u s2 x y H2 I2 r1 r2 q2
def Uz (i:Nat):TE:=λσ H Q=>∃v,σ[i]? =some (some v)/\Q v H
def tC (v:V):TE:=λ_ H Q=>Q v H
theorem Yu (hN:X.N[i]? =some x)(hv:Vis X.env.scope x)(hd:(x == ("__debug__":Str))=false:=by decide)(hcd:(x == ("__classdict__":Str))=false:=by decide):PE X (.Name x pos) (Uz i):=by
 intro pins s σ H Q I h;obtain⟨v,e,h⟩:=h;obtain⟨m,hn,hl⟩:=I.loc;obtain⟨u,r,l⟩:=hl i x v hN e hv;have fin:EP X _ σ Q u s:=⟨v,H,I,r,h⟩;rcases l with ⟨hk,hm⟩ | ⟨hk,c,hc,hcell⟩
 ·exact wpAny_Name (wpAny_loadName_local I.ok.kind hk hn hm fin) hd
 ·rcases hk with hk | hk
  ·exact wpAny_Name (wpAny_loadName_cell I.ok.kind hk hc hcell fin) hd
  ·exact wpAny_Name (wpAny_loadName_free I.ok.kind hk hc hcell fin hcd) hd
theorem gD {i j pos}:PE X (.Constant (.int i) j pos) (tC (.int i)):=λ_ _ _ H _ I h=>wpAny_Constant_int ⟨.int i,H,I.tok _,⟨_,rfl⟩,h⟩
theorem z2b {b j pos}:PE X (.Constant (.bool b) j pos) (tC (.bl b)):=λ_ _ _ H _ I h=>Constant_bool ⟨.bl b,H,I,rfl,h⟩
theorem xy {j pos}:PE X (.Constant .none j pos) (tC .non):=λ_ _ _ H _ I h=>Constant_none ⟨.non,H,I,rfl,h⟩
theorem xz {x j pos}:PE X (.Constant (.str x) j pos) (tC (.str x)):=λ_ _ _ H _ I h=>Calls.Constant_str ⟨.str x,H,I.tok _,⟨_,rfl⟩,h⟩
noncomputable def Gl (X:Cx)(x:Str):Prop:=X.env.kindOf x=some .globalImplicit
theorem W4 (I:Inv X pins σ H s)(hg:Gl X x)(hm:X.mg x=some u)(h:Q u s)
  (hd:(x == ("__debug__":Str))=false:=by decide):wpAny (model X.prog X.w) X.A (eval (.Name x pos) X.env) Q E s:=
 dZ I.ok.kind hg (Calls.loadGlobal_global (by rw[I.ok.glob];exact I.mod.glob.keeps I.bk) hm h) hd
theorem j9 (I:Inv X pins σ H s)(hg:Gl X x)(hm:X.mg x=none)(hv:bootBuiltins x=some u)(h:Q u s)
  (hn:x ≠ "__name__":=by decide) (hd:(x == ("__debug__":Str))=false:=by decide):wpAny (model X.prog X.w) X.A (eval (.Name x pos) X.env) Q E s:=by
 obtain⟨mb,h1,h2⟩:=I.mod.blt;exact dZ I.ok.kind hg (Calls.loadGlobal_builtin (by rw[I.ok.glob];exact I.mod.glob.keeps I.bk) hm (by rw[I.ok.blt];exact h1.keeps I.bk) ((h2 x hn).trans hv) h) hd
theorem Yv (hg:Gl X x)(hm:X.mg x=some u)(r:RelV v u)(hd:(x == ("__debug__":Str))=false:=by decide):PE X (.Name x pos) (tC v):=
 λ_ _ _ H _ I h=>W4 I hg hm ⟨v,H,I,r,h⟩ hd
theorem Yw (hg:Gl X x)(hm:X.mg x=none)(hv:bootBuiltins x=some u)(r:RelV v u)(hn:x ≠ "__name__":=by decide)(hd:(x == ("__debug__":Str))=false:=by decide):PE X (.Name x pos) (tC v):=
 λ_ _ _ H _ I h=>j9 I hg hm hv ⟨v,H,I,r,h⟩ hn hd
variable {tA tB' :TT}{rest:List Expr}
def tAnd (t u:TT):TT:=λσ H Q=>t σ H λc H1=>if c=true then u σ H1 Q else Q false H1
def tOr (t u:TT):TT:=λσ H Q=>t σ H λc H1=>if c=true then Q true H1 else u σ H1 Q
def tNot (t:TT):TT:=λσ H Q=>t σ H λc H1=>Q (!c) H1
theorem Xy (ha:PT X a tA):PW X (.BoolOp .And [a] pos) tA:=by
 intro wh pins s σ H Q I h;refine isTrue_and (thn (ha _ s σ H Q I h) λc s1 e=> ?_);cases c with
 | true=>exact isTrue_and_nil e
 | false=>exact e
theorem gE (ha:PT X a tA):PW X (.BoolOp .Or [a] pos) tA:=by
 intro wh pins s σ H Q I h;refine isTrue_or (thn (ha _ s σ H Q I h) λc s1 e=> ?_);cases c with
 | false=>exact isTrue_or_nil e
 | true=>exact e
theorem gF (ha:PT X a tA)(hb:PW X (.BoolOp .And (b :: rest) pos) tB'):PW X (.BoolOp .And (a :: b :: rest) pos) (tAnd tA tB'):=by
 intro wh pins s σ H Q I h;refine isTrue_and (thn (ha _ s σ H _ I h) λc s1 ⟨H1,I1,q1⟩=> ?_);cases c with
 | true=>exact hb wh _ s1 σ H1 Q I1 q1
 | false=>exact⟨H1,I1,q1⟩
theorem z2c (ha:PT X a tA)(hb:PW X (.BoolOp .Or (b :: rest) pos) tB'):PW X (.BoolOp .Or (a :: b :: rest) pos) (tOr tA tB'):=by
 intro wh pins s σ H Q I h;refine isTrue_or (thn (ha _ s σ H _ I h) λc s1 ⟨H1,I1,q1⟩=> ?_);cases c with
 | true=>exact⟨H1,I1,q1⟩
 | false=>exact hb wh _ s1 σ H1 Q I1 q1
theorem gG (ha:PT X a tA):PT X (.UnaryOp .Not a pos) (tNot tA):=by
 intro pins s σ H Q I h;exact isTrue_not (ha _ s σ H (λc H1=>Q _ H1) I h)
def z2d (ta tb:TE):TE:=λσ H Q=>ta σ H λx H1=>∃c,x= .bl c/\if c=true then tb σ H1 Q else Q (.bl false) H1
def tOrV (ta tb:TE):TE:=λσ H Q=>ta σ H λx H1=>∃c,x= .bl c/\if c=true then Q (.bl true) H1 else tb σ H1 Q
def z2e (ta:TE):TE:=λσ H Q=>ta σ H λx H1=>∃c,x= .bl c/\Q (.bl (!c)) H1
theorem gH {op}(h:PE X a t):PE X (.BoolOp op [a] pos) t:=λpins s σ H Q I hw=>BoolOp_one (h _ s σ H Q I hw)
theorem gI (ha:PE X a ta)(hb:PE X (.BoolOp .And (b :: rest) pos) tb):PE X (.BoolOp .And (a :: b :: rest) pos) (z2d ta tb):=by
 intro pins s σ H Q I h;refine BoolOp_and (thn (ha _ s σ H _ I h) λv s1 ⟨x,H1,I1,r1,q1⟩=> ?_);obtain⟨c,rfl,q1⟩:=q1;cases r1;refine bj ?_;cases c with
 | true=>exact hb _ s1 σ H1 Q I1 q1
 | false=>exact⟨.bl _,H1,I1,rfl,q1⟩
theorem z2f (ha:PE X a ta)(hb:PE X (.BoolOp .Or (b :: rest) pos) tb):PE X (.BoolOp .Or (a :: b :: rest) pos) (tOrV ta tb):=by
 intro pins s σ H Q I h;refine BoolOp_or (thn (ha _ s σ H _ I h) λv s1 ⟨x,H1,I1,r1,q1⟩=> ?_);obtain⟨c,rfl,q1⟩:=q1;cases r1;refine bj ?_;cases c with
 | false=>exact hb _ s1 σ H1 Q I1 q1
 | true=>exact⟨.bl _,H1,I1,rfl,q1⟩
theorem gJ (ha:PE X a ta):PE X (.UnaryOp .Not a pos) (z2e ta):=by
 intro pins s σ H Q I h;refine UnaryOp_ (thn (ha _ s σ H _ I h) λv s1 ⟨x,H1,I1,r1,q1⟩=> ?_);obtain⟨c,rfl,q1⟩:=q1;cases r1;exact not_of (bj ⟨.bl _,H1,I1,rfl,q1⟩)
def tIf (t:TT)(ta tb:TE):TE:=λσ H Q=>t σ H λc H1=>if c=true then ta σ H1 Q else tb σ H1 Q
theorem vU (hc:PT X c tA)(ha:PE X a ta)(hb:PE X b tb):PE X (.IfExp c a b pos) (tIf tA ta tb):=by
 intro pins s σ H Q I h;refine wpAny_IfExp (thn (hc _ s σ H _ I h) λd s1 ⟨H1,I1,q1⟩=> ?_);cases d with
 | true=>exact ha _ s1 σ H1 Q I1 q1
 | false=>exact hb _ s1 σ H1 Q I1 q1
end
end L2
namespace L2
open PySem PySem.Spec PyProof.Rows
def SqL (K:ae)(H:Hp)(a:Addr)(xs:List V):Prop:=
 Rd H a (.lst xs)\/
  ∃(o:Obj) (its:Array Value) (n:Nat),K.lookup a=some o/\o.cls= .type "list"/\o.dict=none/\o.data= .seq its n/\its.size<=sizeLine/\Vals xs its.toList
def SqT (K:ae)(H:Hp)(a:Addr)(xs:List V):Prop:=
 Rd H a (.tup xs)\/
  ∃(o:Obj) (its:Array Value) (n:Nat),K.lookup a=some o/\o.cls= .type "tuple"/\o.data= .seq its n/\its.size<=sizeLine/\Vals xs its.toList
noncomputable def absV:Value->Option V
 | .none=>some .non
 | .bool b=>some (.bl b)
 | .int i _=>some (.int i)
 | .str x _=>some (.str x)
 | .bytes b _=>some (.byt b)
 | .float b _=>some (.flt b)
 | .ref a=>some (.ref a)
 | .type n=>some (.ty n)
 | _=>none
theorem RelV.abs (r:RelV x u):absV u=some x:=by
 cases x with
 | non=>cases r;rfl
 | bl _=>cases r;rfl
 | int _=>obtain⟨t,rfl⟩:=r;rfl
 | str _=>obtain⟨t,rfl⟩:=r;rfl
 | byt _=>obtain⟨t,rfl⟩:=r;rfl
 | flt _=>obtain⟨t,rfl⟩:=r;rfl
 | ref _=>cases r;rfl
 | ty _=>cases r;rfl
theorem RelV.inj (r:RelV x u)(q:RelV y u):x=y:=aL (r.abs.symm.trans q.abs)
theorem Vals.inj:∀{xs ys:List V} {us:List Value},Vals xs us->Vals ys us->xs=ys
 | _,_,_,.nil,.nil=>rfl
 | _,_,_,.cons r t,.cons r' t' =>by rw[r.inj r',Vals.inj t t']
section
variable {X:Cx}{pins:List (Addr×Obj)}{σ:St}{H:Hp}{s:Shared}{a:Addr}{xs ys:List V}
theorem SqL.of {K:ae}(h:H a=some (.lst xs)):SqL K H a xs:= .inl (.inl h)
theorem SqT.of {K:ae}(h:H a=some (.tup xs)):SqT K H a xs:= .inl (.inl h)
theorem Inv.list (I:Inv X pins σ H s)(h:SqL X.K H a xs):∃its:List Value,Vals xs its/\PlainL s.heap a its.toArray/\xs.length<=sizeLine:=by
 rcases h with h | ⟨o,its,n,hk,hc,hd,hs,hz,r⟩
 ·obtain⟨z,its,n,r,e⟩:=h.ok I.hok;exact⟨its,r,⟨_,n,e,rfl,rfl,rfl⟩,z⟩
 ·refine⟨its.toList,r,⟨o,n,I.kIn a o hk,hc,hd,by simpa using hs⟩, ?_⟩
  have e:=r.length;simp only[dR]at e;omega
theorem Inv.tuple (I:Inv X pins σ H s)(h:SqT X.K H a xs):∃its:List Value,Vals xs its/\IsTup s.heap a its.toArray/\xs.length<=sizeLine:=by
 rcases h with h | ⟨o,its,n,hk,hc,hs,hz,r⟩
 ·obtain⟨z,its,r,p,_⟩:=h.ok I.hok;exact⟨its,r,p,z⟩
 ·refine⟨its.toList,r,⟨o,I.kIn a o hk,hc,n,by simpa using hs⟩, ?_⟩
  have e:=r.length;simp only[dR]at e;omega
theorem Inv.list_inj (I:Inv X pins σ H s)(h:SqL X.K H a xs)(h' :SqL X.K H a ys):xs=ys:=by
 obtain⟨its,r,⟨o,n,e,_,_,d⟩,_⟩:=I.list h;obtain⟨its',r',⟨o',n',e',_,_,d'⟩,_⟩:=I.list h';rw[e]at e';cases e';rw[d]at d';injection d' with d1 _;have:=by simpa using congrArg Array.toList d1
 subst this;exact r.inj r'
theorem Inv.tuple_inj (I:Inv X pins σ H s)(h:SqT X.K H a xs)(h' :SqT X.K H a ys):xs=ys:=by
 obtain⟨its,r,⟨o,e,_,n,d⟩,_⟩:=I.tuple h;obtain⟨its',r',⟨o',e',_,n',d'⟩,_⟩:=I.tuple h';rw[e]at e';cases e';rw[d]at d';injection d' with d1 _;have:=by simpa using congrArg Array.toList d1
 subst this;exact r.inj r'
end
noncomputable abbrev Cx.wish (X:Cx)(E:Value->Shared->Prop):Cx:={ X with xe:=E }
abbrev Cx.nox (X:Cx):Cx:=X.wish λ_ _=>False
theorem Cx.Ok.wish {X:Cx}(ok:X.Ok)(E:Value->Shared->Prop):(X.wish E).Ok:=
 ⟨ok.mod,ok.kind,ok.glob,ok.blt,ok.above,ok.inj,ok.has,ok.cab,ok.hd,ok.frames,ok.stk,ok.exf,ok.bs,ok.bsz,ok.noex,ok.exfs,ok.funs,ok.frf⟩
theorem Cx.Ok.unwish {X:Cx}{E:Value->Shared->Prop}(ok:(X.wish E).Ok):X.Ok:=
 ⟨ok.mod,ok.kind,ok.glob,ok.blt,ok.above,ok.inj,ok.has,ok.cab,ok.hd,ok.frames,ok.stk,ok.exf,ok.bs,ok.bsz,ok.noex,ok.exfs,ok.funs,ok.frf⟩
section
variable {X:Cx}{pins:List (Addr×Obj)}{σ:St}{H:Hp}{s:Shared}{E:Value->Shared->Prop}
theorem Inv.wish (I:Inv X pins σ H s)(E:Value->Shared->Prop):Inv (X.wish E) pins σ H s:=⟨I.ok.wish E,I.os,I.bare,I.base,I.loc,I.cell,I.free,I.freeC,I.pin,I.hok,I.len⟩
theorem Inv.unwish (I:Inv (X.wish E) pins σ H s):Inv X pins σ H s:=⟨I.ok.unwish,I.os,I.bare,I.base,I.loc,I.cell,I.free,I.freeC,I.pin,I.hok,I.len⟩
theorem SP.unwish {D:vT}{f:Flow}(h:SP (X.wish E) pins D f s'):SP X pins D f s' :=by
 cases f with
 | next=>obtain⟨σ',H',I,q⟩:=h;exact⟨σ',H',I.unwish,q⟩
 | brk=>obtain⟨σ',H',I,q⟩:=h;exact⟨σ',H',I.unwish,q⟩
 | cont=>obtain⟨σ',H',I,q⟩:=h;exact⟨σ',H',I.unwish,q⟩
 | ret u=>obtain⟨v,σ',H',I,r,q⟩:=h;exact⟨v,σ',H',I.unwish,r,q⟩
theorem PSs.nox {st:List Stmt}{t:TS}(h:PSs X.nox st t):PSs X st t:=λpins s σ H D I hw=>
 c7 (h _ s σ H D (I.wish _) hw) (λ_ _ q=>q.unwish) λ_ _ z=>cQ z
end
section
variable {X:Cx}{st:Stmt}{rest:List Stmt}{t u:TS}{e:Expr}{te:TE}{pos:Pos}
def z2g:TS:=λD σ H=>D.nx σ H
def tSeq (t u:TS):TS:=λD σ H=>t { D with nx:=u D } σ H
theorem Xz:PSs X [] z2g:=λ_ _ σ H _ I h=>wpAny_execs_nil ⟨σ,H,I,h⟩
theorem UA (h1:PS X st t)(h2:PSs X rest u):PSs X (st :: rest) (tSeq t u):=by
 intro pins s σ H D I h;refine wpAny_execs_cons (thn (h1 _ s σ H _ I h) λf s1 q=> ?_);cases f with
 | next=>
  obtain⟨σ',H',I',q⟩:=q;exact h2 _ s1 σ' H' D I' q
 | ret v=>exact q
 | brk=>exact q
 | cont=>exact q
theorem uQ (h1:PS X st t):PSs X [st] t:=by
 intro pins s σ H D I h;refine wpAny_execs_cons (thn (h1 _ s σ H D I h) λf s1 q=> ?_);cases f with
 | next=>exact wpAny_execs_nil q
 | ret v=>exact q
 | brk=>exact q
 | cont=>exact q
theorem Inv.quiet (I:Inv X pins σ H s):interactive X.env=false:=by simp[interactive,I.ok.kind]
def z2h (te:TE):TS:=λD σ H=>te σ H λ_ H1=>D.nx σ H1
theorem uR (he:PE X e te)(hs:swapsWith e none pos.line X.env=pure false:=by rfl):PS X (.Expr e pos) (z2h te):=by
 intro pins s σ H D I h;exact wpAny_Expr_any (thn (he _ s σ H _ I h) λv s1 ⟨x,H1,I1,r1,q1⟩=>⟨σ,H1,I1,q1⟩) I.quiet hs
def tRet (te:TE):TS:=λD σ H=>te σ H D.rt
theorem Yx (he:PE X e te):PS X (.Return (some e) pos) (tRet te):=by
 intro pins s σ H D I h;exact wpAny_Return_some (thn (he _ s σ H _ I h) λv s1 ⟨x,H1,I1,r1,q1⟩=>⟨x,σ,H1,I1,r1,q1⟩)
def tIfS (c:TT)(t u:TS):TS:=λD σ H=>c σ H λb H1=>if b=true then t D σ H1 else u D σ H1
theorem z2i (hc:PT X c tc)(ha:PSs X a t)(hb:PSs X b u):PS X (.If c a b pos) (tIfS tc t u):=by
 intro pins s σ H D I h;refine wpAny_If (thn (hc _ s σ H _ I h) λd s1 ⟨H1,I1,q1⟩=> ?_);cases d with
 | true=>exact ha _ s1 σ H1 D I1 q1
 | false=>exact hb _ s1 σ H1 D I1 q1
end
abbrev TG:=V->St->Hp->(St->Hp->Prop)->Prop
abbrev TGs:=List V->St->Hp->(St->Hp->Prop)->Prop
def PG (X:Cx)(target:Expr)(t:TG):Prop:=
 ∀(pins:List (Addr×Obj)) (s:Shared) (σ:St) (H:Hp) (v:V) (u:Value) (Q:St->Hp->Prop),Inv X pins σ H s->RelV v u->t v σ H Q->
  wpAny (model X.prog X.w) X.A (assign target X.env u) (λ_ s' =>∃σ' H',Inv X pins σ' H' s' /\Q σ' H') X.xe s
def PGs (X:Cx)(ts:List Expr)(t:TGs):Prop:=
 ∀(pins:List (Addr×Obj)) (s:Shared) (σ:St) (H:Hp) (vs:List V) (us:List Value) (Q:St->Hp->Prop),Inv X pins σ H s->Vals vs us->t vs σ H Q->
  wpAny (model X.prog X.w) X.A (assignInOrder ((assignEach ts X.env).map (·.2)) us) (λ_ s' =>∃σ' H',Inv X pins σ' H' s' /\Q σ' H') X.xe s
section
def W5 (i:Nat):TG:=λv σ H Q=>Q (σ.set i (some v)) H
theorem jU (hN:X.N.Nodup)(hi:X.N[i]? =some x)(hx:Loc X.env.scope x)(hf:X.fn x=true\/X.env.scope.names.lookup x=some .local:=by first | exact .inl rfl | exact .inr rfl | assumption):PG X (.Name x pos) (W5 i):=by
 intro pins s σ H v u Q I r h;exact wpAny_assign_Name (jI I hN hi hx r (λs' I' =>⟨_,H,I',h⟩) hf)
def z2j:TGs:=λvs σ H Q=>vs=[]/\Q σ H
def Yy (t:TG)(u:TGs):TGs:=λvs σ H Q=>∃v r,vs=v :: r/\t v σ H λσ' H' =>u r σ' H' Q
theorem Yz:PGs X [] z2j:=by
 intro pins s σ H vs us Q I r h;obtain⟨e,h⟩:=h;exact assignInOrder_nil ⟨σ,H,I,h⟩
theorem Jv {u:TGs}(h1:PG X e t)(h2:PGs X es u)
  (hs:(assignEach (e :: es) X.env).map (·.2)=assign e X.env :: (assignEach es X.env).map (·.2):=by rfl):PGs X (e :: es) (Yy t u):=by
 intro pins s σ H vs us Q I r h;obtain⟨v,vr,e1,h⟩:=h;subst e1;cases r with
 | cons r rr=>
  rw[hs];refine assignInOrder_cons (thn (h1 _ s σ H _ _ _ I r h) λ_ s1 ⟨σ1,H1,I1,q1⟩=> ?_);exact h2 _ s1 σ1 H1 _ _ Q I1 rr q1
def z1s (K:ae)(n:Nat)(t:TGs):TG:=λv σ H Q=>∃a xs,v= .ref a/\SqT K H a xs/\xs.length=n/\t xs σ H Q
theorem xA {t:TGs}(hc:X.calm=true)(h:PGs X es t)
  (hn:(assignEach es X.env).length=n:=by rfl) (hst:(assignEach es X.env).findIdx? (·.1)=none:=by rfl):PG X (.Tuple es k pos) (z1s X.K n t):=by
 intro pins s σ H v u Q I r hw;obtain⟨a,xs,e1,hq,hl,hw⟩:=hw;subst e1;cases r;obtain⟨its,rv,ht,hz⟩:=I.tuple hq;refine assign_Tuple_tuple (I.ok.hd hc) ht (by simp[hn,← hl,rv.length]) hst λh' hx=> ?_
 have I1:Inv X _ σ H { s with heap:=h' }:=I.kept λb o e=>hx b o (aC (aq e)) e;exact h _ _ σ H xs _ Q I1 (by simpa using rv) hw
def tAsg (te:TE)(g:TG):TS:=λD σ H=>te σ H λx H1=>g x σ H1 D.nx
theorem gK (he:PE X e te)(hg:PG X tg g)(hs:swapsWithSole [tg] e pos.line X.env=pure false:=by rfl)(hw:swappedStores [tg] e X.env=pure none:=by rfl)
  (h1:(assignEach [tg] X.env).map (·.2)=[assign tg X.env]:=by rfl):PS X (.Assign [tg] e pos) (tAsg te g):=by
 intro pins s σ H D I h;refine wpAny_Assign_stores (thn (he _ s σ H _ I h) λv s1 ⟨x,H1,I1,r1,q1⟩=> ?_) hs hw;rw[h1];exact thn (hg _ s1 σ H1 x v _ I1 r1 q1) λ_ s2 q=>q
theorem WP (hN:X.N.Nodup)(hi:X.N[i]? =some x)(hx:Loc X.env.scope x)(he:PE X e te)(hs:swapsWith e (some (.Name x pos')) pos.line X.env=pure false:=by rfl)(hf:X.fn x=true\/X.env.scope.names.lookup x=some .local:=by first | exact .inl rfl | exact .inr rfl | assumption):
  PS X (.Assign [.Name x pos'] e pos) (tAsg te (W5 i)):=by
 intro pins s σ H D I h;refine wpAny_Assign_Name (thn (he _ s σ H _ I h) λv s1 ⟨y,H1,I1,r1,q1⟩=> ?_) hs;exact jI I1 hN hi hx r1 (λs2 I2=>⟨_,H1,I2,q1⟩) hf
def tPar (i j:Nat)(ta:TA):TS:=λD σ H=>ta σ H λvs H1=>∃v w,vs=[v,w]/\D.nx ((σ.set i (some v)).set j (some w)) H1
theorem gL {kt k2 pt2}(hc:X.calm=true)(hN:X.N.Nodup)(hi:X.N[i]? =some x)(hj:X.N[j]? =some y)(hij:i ≠ j)
  (hx:X.env.scope.names.lookup x=some .local) (hy:X.env.scope.names.lookup y=some .local) (ha:PA X [a,b] ta)
  (hw:swappedStores [.Tuple [.Name x px,.Name y py] kt pt] (.Tuple [a,b] k2 pt2) X.env=pure (some [x,y]))
  (hs:swapsWithSole [.Tuple [.Name x px,.Name y py] kt pt] (.Tuple [a,b] k2 pt2) pos.line X.env=pure false:=by rfl):
  PS X (.Assign [.Tuple [.Name x px,.Name y py] kt pt] (.Tuple [a,b] k2 pt2) pos) (tPar i j ta):=by
 intro pins s σ H D I h;refine a7 (wpAny_standAt ?_);refine a7 (ar ?_);refine a7 (Tuple_ (thn (ha _ _ s σ H _ I h) λus s1 ⟨vs,H1,I1,r1,q1⟩=> ?_));obtain⟨v,w,e1,q1⟩:=q1;subst e1;obtain⟨u1,u2,rfl,rv,rw'⟩:∃u1 u2,us=[u1,u2]/\RelV v u1/\RelV w u2:=by
  cases r1 with
  | cons p q=>
   cases q with
   | cons p' q' =>
    cases q';exact⟨_,_,rfl,p,p'⟩
 refine bv ?_ (by show 2<=sizeLine;decide)
 have I2:Inv X _ σ H1 { s1 with heap:=s1.heap.push { cls:= .type "tuple",data:= .seq [u1,u2].toArray } }:=I1.kept λb o e=>ag _ e;rw[hw];refine a7 (ar ?_);refine a7 (dL (a7 (unpackItems_tuple (items:= #[u1,u2]) (I.ok.hd hc) (IsTup.new _ _) λh' hx' => ?_)));have I3:=I2.kept (t' :=s1.toks) λb o e=>hx' b o (aC (aq e)) e;refine a7 (assignInOrder_cons (wpAny_bindName (jI I3 hN hj (.inl hy) rw' (λs2 I4=> ?_) (.inr hy))));refine assignInOrder_cons (wpAny_bindName (jI I4 hN hi (.inl hx) rv (λs3 I5=>assignInOrder_nil (ar ?_)) (.inr hx)));rw[List.set_comm _ _ (bK hij)]at I5;exact⟨_,H1,I5,q1⟩
end
section
def gM (c:TT)(tb:TS):TS:=λD σ H=>∃W:Nat->St->Hp->Prop,(∃m,W m σ H)/\∀m σ H,W m σ H->
 c σ H λb H1=>if b=true then ∃N:St->Hp->Prop,(∀σ' H',N σ' H' ->∃m',m' < m/\W m' σ' H')/\tb { D with nx:=N,ct:=N,bk:=D.nx } σ H1 else D.nx σ H1
theorem vV (hp:PassesOwn (model X.prog X.w) X.A X.env X.xe)(hc:PT X c tc)(hb:PSs X body tb):PS X (.While c body [] pos) (gM tc tb):=by
 intro pins s σ H D I h;obtain⟨W,⟨m0,w0⟩,turn⟩:=h;refine wpAny_While (codeAny_whileLoop (λn s' =>∃σ' H',Inv X _ σ' H' s' /\W n σ' H') ?_ m0 ⟨σ,H,I,w0⟩)
 rintro n s1 ⟨σ1,H1,I1,w1⟩
 refine cA hp (thn (hc _ s1 σ1 H1 _ I1 (turn n σ1 H1 w1)) λb s2 ⟨H2,I2,q2⟩=> ?_);cases b with
 | true=>
  obtain⟨N,hN,q2⟩:=q2;refine cA hp (thn (hb _ s2 σ1 H2 _ I2 q2) λf s3 q3=> ?_);cases f with
  | next=>
   obtain⟨σ3,H3,I3,n3⟩:=q3;obtain⟨m',hm,w3⟩:=hN σ3 H3 n3;exact⟨m',hm,σ3,H3,I3,w3⟩
  | cont=>
   obtain⟨σ3,H3,I3,n3⟩:=q3;obtain⟨m',hm,w3⟩:=hN σ3 H3 n3;exact⟨m',hm,σ3,H3,I3,w3⟩
  | brk=>exact q3
  | ret v=>exact q3
 | false=>
  exact wpAny_execs_nil ⟨σ1,H2,I2,q2⟩
end
structure It where
 go:Nat->Hp->Prop
 yld:Nat->Hp->V->Hp->Prop
 stop:Nat->Hp->Prop
def WQ (X:Cx)(pins:List (Addr×Obj))(H:Hp)(b:Addr):Prop:=
 H b=none/\b ≠ X.env.locals/\b ∉ X.fs/\(b∈X.ex\/X.s₀.heap.objs.size<=b)/\(∀x c,X.env.cells.lookup x=some c->c ≠ b)/\∀p∈X.pn++pins,p.1 ≠ b
theorem Inv.fpOk (I:Inv X pins σ H s)(hb:s.heap.objs.size<=b)(hn:H' b=none):WQ X pins H' b:=by
 refine⟨hn,dU (aI I.lt hb),I.nofs hb,.inr (ao I.sz hb),λx c e z=> ?_,λp hp z=> ?_⟩
 ·obtain⟨v,q⟩:=I.cell x c e;exact absurd (aI q.lt (by rw[z];exact hb)) (bH _)
 ·exact absurd (aI (aq (I.pin p hp).1) (by rw[z];exact hb)) (bH _)
structure Yl (P:Program) (w:World) (K:ae) (tg:Expr) (J:It) (fp:List Addr) (it:Addr) (tn:Nat->Heap->Prop):Prop where
 mem:it∈fp
 obj:∀i h,tn i h->∀b∈fp,∃o,h.get? b=some o/\∀v,o.data ≠ .cell v
 keep:∀i h h',tn i h->(∀b∈fp,∀o,h.get? b=some o->h'.get? b=some o)->tn i h'
 item:∀(X:Cx),X.prog=P->X.w=w->X.K=K->X.calm=true->∀(i:Nat) (pins:List (Addr×Obj)) (s:Shared) (σ:St) (H:Hp) (E:Value->Shared->Prop),Inv X pins σ H s->(∀b∈fp,WQ X pins H b)->tn i s.heap->J.go i H->
  wpAny (model P w) X.A (pyNext (.ref it)) (λr s1=>∃u,r=some u/\
   wpAny (model P w) X.A (letOwnedTupleGo tg (.ref it) u) (λ_ s2=>∃x H',Inv X pins σ H' s2/\RelV x u/\J.yld i H x H' /\tn (i+1) s2.heap/\∀b∈fp,H' b=none) E s1) E s
 done:∀(X:Cx),X.prog=P->X.w=w->X.K=K->X.calm=true->∀(i:Nat) (pins:List (Addr×Obj)) (s:Shared) (σ:St) (H:Hp) (E:Value->Shared->Prop),Inv X pins σ H s->(∀b∈fp,WQ X pins H b)->tn i s.heap->J.stop i H->
  wpAny (model P w) X.A (pyNext (.ref it)) (λr s1=>r=none/\Inv X pins σ H s1) E s
 self:∀(A:Around) (i:Nat) (s:Shared) (Q:Value->Shared->Prop) (E:Value->Shared->Prop),tn i s.heap->Q (.ref it) s->wpAny (model P w) A (pyIter (.ref it)) Q E s
abbrev TI:=St->Hp->(It->Hp->Prop)->Prop
def PIE (X:Cx)(pins:List (Addr×Obj))(σ:St)(tg:Expr)(R:It->Hp->Prop)(itv:Value)(s2:Shared):Prop:=
 ∃(it:Addr) (fp:List Addr) (tn:Nat->Heap->Prop) (J:It) (H' :Hp),itv= .ref it/\Inv X pins σ H' s2/\Yl X.prog X.w X.K tg J fp it tn/\tn 0 s2.heap/\(∀b∈fp,WQ X pins H' b)/\R J H'
def PI (X:Cx)(tg iter:Expr)(wi:TI):Prop:=
 ∀(pins:List (Addr×Obj)) (s:Shared) (σ:St) (H:Hp) (R:It->Hp->Prop),Inv X pins σ H s->wi σ H R->
  wpAny (model X.prog X.w) X.A (eval iter X.env) (λv s1=>wpAny (model X.prog X.w) X.A (pyIter v) (PIE X pins σ tg R) X.xe s1) X.xe s
theorem yG {Q:Unit->Shared->Prop}(ho:s.heap.get? it=some o)(hc:o.cls= .type n)(hd:o.data= .fields vs)
  (hn:["enumerate","zip","dict_itemiterator","dict_reverseitemiterator","odict_iterator","itertools.zip_longest","itertools.pairwise"].contains n=false) (hQ:Q () s):wpAny M A (letOwnedTupleGo tg (.ref it) u) Q E s:=by
 cases tg <;> first
  | exact ar hQ
  | (cases u <;> first
    | exact ar hQ
    | (refine a7 (wpAny_load ho ?_);rw[hc,hd];show wpAny M A (if (["enumerate","zip","dict_itemiterator","dict_reverseitemiterator","odict_iterator","itertools.zip_longest","itertools.pairwise"].contains n && vs[0]? == some _)=true then _ else _) Q E s;rw[if_neg (by intro h;rw[hn]at h;cases h)];exact ar hQ))
def Itl (K:ae)(a:Addr):It:=
 ⟨λi H=>∃xs x,SqL K H a xs/\xs[i]? =some x,λi H x H' =>H' =H/\∀xs,SqL K H a xs->xs[i]? =some x,λi H=>∃xs,SqL K H a xs/\xs.length<=i⟩
def Itt (K:ae)(a:Addr):It:=
 ⟨λi H=>∃xs x,SqT K H a xs/\xs[i]? =some x,λi H x H' =>H' =H/\∀xs,SqT K H a xs->xs[i]? =some x,λi H=>∃xs,SqT K H a xs/\xs.length<=i⟩
noncomputable def Itr (lo:Int)(n:Nat):It:=⟨λi _=>i < n,λi H x H' =>H' =H/\x= .int (lo+i),λi _=>n<=i⟩
theorem YA {P:Program}{w:World}{K:ae}{tg:Expr}(a it:Addr):Yl P w K tg (Itl K a) [it] it (λi h=>h.IsListIter it a i) where
 mem:=by simp
 obj:=λi h st b hb=>by
  have e:b=it:=by simpa using hb
  subst e;obtain⟨o,e,c,d⟩:=st;exact⟨o,e,λv z=>by rw[d]at z;cases z⟩
 keep:=λi h h' st k=>st.at λo e=>k it (by simp) o e
 item:=by
  intro X hP hw hK hc i pins s σ H E I hf st hg;subst hP hw hK;obtain⟨xs,x,hq,hx⟩:=hg;obtain⟨its,rv,p,hz⟩:=I.list hq;obtain⟨u,hu,ru⟩:=rv.get hx;obtain⟨f0,f1,f2,f3,f4,f5⟩:=hf it (by simp)
  refine wpAny_pyNext_list_item st p.isList (x:=u) (by simpa using hu) λh' st' sb=> ?_
  have I1:Inv X pins σ H { s with heap:=h' }:=I.turned (t' :=s.toks) (λb o hb e=>(sb.2 b hb).trans e) f0 f1 f3 f4 f5;obtain⟨o,e,c,d⟩:=id st';exact⟨u,rfl,yG (s:={ s with heap:=h' }) e c d (by decide) ⟨x,H,I1,ru,⟨rfl,λys hy=>by rw[I.list_inj hy hq];exact hx⟩,st',λb hb=>(hf b hb).1⟩⟩
 done:=by
  intro X hP hw hK hc i pins s σ H E I hf st hg;subst hP hw hK;obtain⟨xs,hq,hx⟩:=hg;obtain⟨its,rv,p,hz⟩:=I.list hq;obtain⟨f0,f1,f2,f3,f4,f5⟩:=hf it (by simp)
  have hl:=rv.length;exact wpAny_pyNext_list_end (I.ok.hd hc) st p.isList (by simp;omega) λh' eb=>⟨rfl,I.turned (t' :=s.toks) (λb o hb e=>eb b o hb e) f0 f1 f3 f4 f5⟩
 self:=λ_ _ _ _ _ st h=>wpAny_pyIter_listiter st h
theorem yH {P:Program}{w:World}{K:ae}{tg:Expr}(a it:Addr):Yl P w K tg (Itt K a) [it] it (λi h=>h.IsTupleIter it a i) where
 mem:=by simp
 obj:=λi h st b hb=>by
  have e:b=it:=by simpa using hb
  subst e;obtain⟨o,e,c,d⟩:=st;exact⟨o,e,λv z=>by rw[d]at z;cases z⟩
 keep:=λi h h' st k=>st.at λo e=>k it (by simp) o e
 item:=by
  intro X hP hw hK hc i pins s σ H E I hf st hg;subst hP hw hK;obtain⟨xs,x,hq,hx⟩:=hg;obtain⟨its,rv,p,hz⟩:=I.tuple hq;obtain⟨u,hu,ru⟩:=rv.get hx;obtain⟨f0,f1,f2,f3,f4,f5⟩:=hf it (by simp)
  refine wpAny_pyNext_tuple_item st (show s.heap.IsTuple a its.toArray from p) (x:=u) (by simpa using hu) λh' st' sb=> ?_
  have I1:Inv X pins σ H { s with heap:=h' }:=I.turned (t' :=s.toks) (λb o hb e=>(sb.2 b hb).trans e) f0 f1 f3 f4 f5;obtain⟨o,e,c,d⟩:=id st';exact⟨u,rfl,yG (s:={ s with heap:=h' }) e c d (by decide) ⟨x,H,I1,ru,⟨rfl,λys hy=>by rw[I.tuple_inj hy hq];exact hx⟩,st',λb hb=>(hf b hb).1⟩⟩
 done:=by
  intro X hP hw hK hc i pins s σ H E I hf st hg;subst hP hw hK;obtain⟨xs,hq,hx⟩:=hg;obtain⟨its,rv,p,hz⟩:=I.tuple hq;obtain⟨f0,f1,f2,f3,f4,f5⟩:=hf it (by simp)
  have hl:=rv.length;exact wpAny_pyNext_tuple_end (I.ok.hd hc) st (show s.heap.IsTuple a its.toArray from p) (by simp;omega) λh' eb=>⟨rfl,I.turned (t' :=s.toks) (λb o hb e=>eb b o hb e) f0 f1 f3 f4 f5⟩
 self:=λ_ _ _ _ _ st h=>wpAny_pyIter_tupleiter st h
theorem yI {P:Program}{w:World}{K:ae}{tg:Expr}(it:Addr)(lo:Int)(n:Nat):Yl P w K tg (Itr lo n) [it] it (λi h=>IsRangeIter h it (lo+(i:Nat)*1) ((n:Int) - (i:Nat)) 1) where
 mem:=by simp
 obj:=λi h st b hb=>by
  have e:b=it:=by simpa using hb
  subst e;exact⟨_,st,λv z=>by
   have z' :Data.fields _=Data.cell v:=z;cases z'⟩
 keep:=λi h h' st k=>k it (by simp) _ st
 item:=by
  intro X hP hw hK hc i pins s σ H E I hf st hg;subst hP hw hK;obtain⟨f0,f1,f2,f3,f4,f5⟩:=hf it (by simp)
  have W:=Walks.range (prog:=X.prog) (w:=X.w) (I.ok.hd hc) it lo 1 n;refine W.item i s _ _ hg st λv h' tk hv st' kk=> ?_;obtain⟨t,rfl⟩:=hv;have I1:Inv X pins σ H { s with heap:=h',toks:=tk }:=I.turned (λb o hb e=>kk b o (by simpa using hb) e) f0 f1 f3 f4 f5
  refine⟨_,rfl,yG (s:={ s with heap:=h',toks:=tk }) (n:="range_iterator") st' rfl rfl (by decide) ⟨.int (lo+i),H,I1,⟨t, ?_⟩,⟨rfl,rfl⟩,st',λb hb=>(hf b hb).1⟩⟩
  rw[iZ]
 done:=by
  intro X hP hw hK hc i pins s σ H E I hf st hg;subst hP hw hK;obtain⟨f0,f1,f2,f3,f4,f5⟩:=hf it (by simp)
  exact wpAny_pyNext_range_end (I.ok.hd hc) st (by have:n<=i:=hg;omega) λh' eb=>⟨rfl,I.turned (t' :=s.toks) (λb o hb e=>eb b o hb e) f0 f1 f3 f4 f5⟩
 self:=λ_ _ _ _ _ st h=>wpAny_pyIter_rangeiter st h
end L2
namespace L2
open PySem PySem.Spec PyProof.Rows
section
theorem UB {pins:List (Addr×Obj)}{σ:St}{H:Hp}{s:Shared}{R:It->Hp->Prop}{E:Value->Shared->Prop}{lo hi:Int}{t u v:Tok}{tk:Nat}(I:Inv X pins σ H s)(h1: -(2 ^ 62)<=lo)(h2:lo < 2 ^ 62)(h3: -(2 ^ 62)<=hi)(h4:hi < 2 ^ 62)
  (q:R (Itr lo (hi - lo).toNat) H):wpAny (model X.prog X.w) X.A (pyIter (.ref s.heap.objs.size)) (PIE X pins σ tg R) E { s with heap:=s.heap.push { cls:= .type "range",data:= .fields #[.int lo t,.int hi u,.int 1 v] },toks:=tk }:=by
 refine wpAny_pyIter_range (IsRange.new ..) (small_one h1 h2 h3 h4) ?_;have I1:Inv X _ σ H { s with heap:=s.heap.push { cls:= .type "range",data:= .fields #[.int lo t,.int hi u,.int 1 v] },toks:=tk }:=I.kept λb o e=>ag _ e;refine⟨(s.heap.push _).objs.size,[(s.heap.push _).objs.size],_,_,H,rfl,
  I1.kept λb o e=>ag _ e,yI _ lo _, ?_,λb hb=> ?_,q⟩
 ·have e1:lo+((0:Nat))*1=lo:=by simp
  have e2:(((hi - lo).toNat):Int) - ((0:Nat))=eX lo hi 1:=by rw[rangeSize_one];split <;> omega
  rw[e1,e2];exact aj _ rfl
 ·have e:b=(s.heap.push { cls:= .type "range",data:= .fields #[.int lo t,.int hi u,.int 1 v] }).objs.size:=by simpa using hb
  subst e;exact I1.fpOk (am _) (I1.hok.fresh (am _))
def z2k (ta:TA):TI:=λσ H R=>ta σ H λvs H1=>∃j:Int,vs=[.int j]/\ -(2 ^ 62)<=j/\j < 2 ^ 62/\R (Itr 0 j.toNat) H1
def z2l (ta:TA):TI:=λσ H R=>ta σ H λvs H1=>∃i j:Int,vs=[.int i,.int j]/\(-(2 ^ 62)<=i/\i < 2 ^ 62/\ -(2 ^ 62)<=j/\j < 2 ^ 62)/\R (Itr i (j - i).toNat) H1
theorem YB {a:Expr}{ta:TA}{p pos:Pos}(hg:Gl X "range")(hm:X.mg "range"=none)(ha:PA X [a] ta)(hs:starEach [a] X.env=[(false,eval a X.env)]:=by rfl):PI X tg (.Call (.Name "range" p) [a] [] pos) (z2k ta):=by
 intro pins s σ H R I h;refine Call_ (j9 I hg hm boot_range (aT (thn (ha pos _ s σ H _ I h) λus s1 ⟨vs,H1,I1,r1,q1⟩=> ?_) hs rfl));obtain⟨j,e,q1,q2,q⟩:=q1;subst e;cases r1 with
 | cons r rr=>
  cases rr;obtain⟨t,rfl⟩:=r;exact call_range_1 (UB I1 (by omega) (by omega) q1 q2 (by simpa using q))
theorem YC (hg:Gl X "range")(hm:X.mg "range"=none)(ha:PA X [a,b] ta)(hs:starEach [a,b] X.env=[(false,eval a X.env),(false,eval b X.env)]:=by rfl)(hs2:starEach [b] X.env=[(false,eval b X.env)]:=by rfl):
  PI X tg (.Call (.Name "range" p) [a,b] [] pos) (z2l ta):=by
 intro pins s σ H R I h;refine Call_ (j9 I hg hm boot_range (aT (thn (ha pos _ s σ H _ I h) λus s1 ⟨vs,H1,I1,r1,q1⟩=> ?_) (by rw[hs,hs2]) (by rw[hs2];rfl)))
 obtain⟨i,j,e,⟨q1,q2,q3,q4⟩,q⟩:=q1;subst e;cases r1 with
 | cons r rr=>
  cases rr with
  | cons r' rr=>
   cases rr;obtain⟨t,rfl⟩:=r;obtain⟨t',rfl⟩:=r';exact call_range_2 (UB I1 q1 q2 q3 q4 q)
def tFor (wi:TI)(g:TG)(tb:TS):TS:=λD σ H=>wi σ H λJ H1=>∃W:Nat->Nat->St->Hp->Prop,(∃m,W 0 m σ H1)/\∀i m σ H,W i m σ H->
 (J.stop i H/\D.nx σ H)\/(J.go i H/\∃N:St->Hp->Prop,(∀σ' H',N σ' H' ->∃m',m' < m/\W (i+1) m' σ' H')/\∀x H',J.yld i H x H' ->g x σ H' λσ2 H2=>tb { D with nx:=N,ct:=N,bk:=D.nx } σ2 H2)
noncomputable def UC (fp:List Addr)(h:Heap):List (Addr×Obj):=fp.filterMap λb=>(h.get? b).map λo=>(b,o)
theorem jp (hb:b∈fp)(e:h.get? b=some o):(b,o)∈UC fp h:=d_.mpr ⟨b,hb,by rw[e];rfl⟩
theorem YD {p:Addr×Obj}(hp:p∈UC fp h):p.1∈fp/\h.get? p.1=some p.2:=by
 obtain⟨b,hb,e⟩:=d_.mp hp;cases q:h.get? b with
 | none=>rw[q]at e;cases e
 | some o=>
  rw[q]at e;have e' :=aL e;subst e';exact⟨hb,q⟩
theorem Inv.pinned (I:Inv X pins σ H s)(hf:∀b∈fp,WQ X pins H b)(ho:∀b∈fp,∃o,s.heap.get? b=some o/\∀v,o.data ≠ .cell v):Inv X (pins++UC fp s.heap) σ H s:=
 I.pins_of λp hp=>(dr.mp hp).elim (λz=>I.pin p (bc _ z)) λz=>by
  obtain⟨hb,e⟩:=YD z;obtain⟨f0,f1,f2,_⟩:=hf p.1 hb;obtain⟨o,e',d⟩:=ho p.1 hb;rw[e]at e';cases e';exact⟨e,f0,f1,f2,d⟩
theorem Inv.unpinned (I:Inv X (pins++pl) σ H s):Inv X pins σ H s:=I.pins_of λp hp=>I.pin p (bc _ (d6 _ hp))
theorem gN (hp:PassesOwn (model X.prog X.w) X.A X.env X.xe)(hc:X.calm=true)(hi:PI X tg iter wi)(hg:PG X tg g)(hb:PSs X body tb)
  (hs:∀x,foldedSetIterable iter X.env x=pure x:=by intro _;rfl):PS X (.For tg iter body [] pos) (tFor wi g tb):=by
 intro pins s σ H D I h;refine wpAny_For (thn (hi _ s σ H _ I h) λv s1 h1=>thn h1 λitv s2 h2=> ?_) hs;obtain⟨it,fp,tn,J,H2,e,I2,T,st2,f2,W,⟨m0,w0⟩,turn⟩:=h2;subst e;have stat:∀{H' :Hp},(∀b∈fp,H' b=none)->∀b∈fp,WQ X _ H' b:=λhn b hb=>⟨hn b hb,(f2 b hb).2⟩;refine codeAny_forLoop_any (λn s' =>∃i σ' H',Inv X _ σ' H' s' /\tn i s'.heap/\(∀b∈fp,H' b=none)/\W i n σ' H') ?_ m0 ⟨0,σ,H2,I2,st2,λb hb=>(f2 b hb).1,w0⟩
 rintro n s3 ⟨i,σ3,H3,I3,st3,fr3,w3⟩
 rcases turn i n σ3 H3 w3 with ⟨stop,qn⟩ | ⟨go,N,hN,step⟩
 ·refine cA hp (thn (T.done X rfl rfl rfl hc i _ s3 σ3 H3 _ I3 (stat fr3) st3 stop) λr s4 ⟨hr,I4⟩=> ?_);subst hr;exact wpAny_execs_nil ⟨σ3,H3,I4,qn⟩
 ·refine cA hp (thn (T.item X rfl rfl rfl hc i _ s3 σ3 H3 _ I3 (stat fr3) st3 go) λr s4 ⟨u,hr,h4⟩=> ?_);subst hr;refine cA hp (thn h4 λ_ s5 ⟨x,H5,I5,r5,y5,st5,fr5⟩=> ?_);have I5' :=I5.pinned (stat fr5) (T.obj _ _ st5);refine cA hp (thn (hg _ s5 σ3 H5 x u _ I5' r5 (step x H5 y5)) λ_ s6 ⟨σ6,H6,I6,q6⟩=> ?_);refine cA hp (thn (hb _ s6 σ6 H6 _ I6 q6) λf s7 q7=> ?_);have again:∀{σ7:St} {H7:Hp},Inv X (pins++UC fp _) σ7 H7 s7->N σ7 H7->∃m,m < n/\∃i σ' H',Inv X _ σ' H' s7/\tn i _/\(∀b∈fp,H' b=none)/\W i m σ' H' :=λ{σ7 H7} I7 n7=>by
   obtain⟨m',hm,w7⟩:=hN σ7 H7 n7;refine⟨m',hm,i+1,σ7,H7,I7.unpinned,T.keep _ _ _ st5 λb hb o e=>(I7.pin _ (bc _ (bc _ (jp hb e)))).1,λb hb=> ?_,w7⟩;obtain⟨o,e,d⟩:=T.obj _ _ st5 b hb;exact(I7.pin _ (bc _ (bc _ (jp hb e)))).2.1
  cases f with
  | next=>obtain⟨σ7,H7,I7,n7⟩:=q7;exact again I7 n7
  | cont=>obtain⟨σ7,H7,I7,n7⟩:=q7;exact again I7 n7
  | brk=>obtain⟨σ7,H7,I7,q7⟩:=q7;exact⟨σ7,H7,I7.unpinned,q7⟩
  | ret v=>obtain⟨x7,σ7,H7,I7,r7,q7⟩:=q7;exact⟨x7,σ7,H7,I7.unpinned,r7,q7⟩
end
end L2
namespace L2
open PySem PySem.Spec PyProof.Rows
abbrev R2:=V->V->Hp->VK->Prop
def OpR (X:Cx)(f:Value->Value->Sem Value)(r:R2):Prop:=
 ∀(pins:List (Addr×Obj)) (s:Shared) (σ:St) (H:Hp) (x y:V) (v u:Value) (Q:VK),Inv X pins σ H s->RelV x v->RelV y u->r x y H Q->
  wpAny (model X.prog X.w) X.A (f v u) (EP X pins σ Q) X.xe s
def UnR (X:Cx)(f:Value->Sem Value)(r:V->Hp->VK->Prop):Prop:=
 ∀(pins:List (Addr×Obj)) (s:Shared) (σ:St) (H:Hp) (x:V) (v:Value) (Q:VK),Inv X pins σ H s->RelV x v->r x H Q->
  wpAny (model X.prog X.w) X.A (f v) (EP X pins σ Q) X.xe s
def Zk (X:Cx)(f:Value)(r:List V->Hp->VK->Prop):Prop:=
 ∀(pins:List (Addr×Obj)) (s:Shared) (σ:St) (H:Hp) (xs:List V) (us:List Value) (Q:VK),Inv X pins σ H s->Vals xs us->r xs H Q->
  wpAny (model X.prog X.w) X.A (call f us) (EP X pins σ Q) X.xe s
def TruR (X:Cx)(r:V->Hp->(Bool->Hp->Prop)->Prop):Prop:=
 ∀(pins:List _) (s:Shared) (σ:St) (H:Hp) (x:V) (v:Value) (Q:Bool->Hp->Prop),Inv X pins σ H s->RelV x v->r x H Q->
  wpAny (model X.prog X.w) X.A (truthy v) (TP X pins σ Q) X.xe s
def tOp (r:R2)(ta tb:TE):TE:=λσ H Q=>ta σ H λx H1=>tb σ H1 λy H2=>r x y H2 Q
def tUn (r:V->Hp->VK->Prop)(ta:TE):TE:=λσ H Q=>ta σ H λx H1=>r x H1 Q
def rI (C:Int->Int->Prop)(g:Int->Int->V):R2:=λx y H Q=>∃i j,x= .int i/\y= .int j/\C i j/\Q (g i j) H
def rI0 (g:Int->Int->V):R2:=λx y H Q=>∃i j,x= .int i/\y= .int j/\Q (g i j) H
def rU (g:Int->V):V->Hp->VK->Prop:=λx H Q=>∃i,x= .int i/\Q (g i) H
section
theorem z2m (ha:PE X a ta)(hb:PE X b tb){R:V->V->Hp->Prop}(I:Inv X pins σ H s)
  (h:ta σ H λx H1=>tb σ H1 λy H2=>R x y H2) {Q:Value->Shared->Prop} {f:Value->Value->Sem Value}
  (hf:∀v u s2 x y H2,Inv X pins σ H2 s2->RelV x v->RelV y u->R x y H2->wpAny (model X.prog X.w) X.A (f v u) Q X.xe s2):
  wpAny (model X.prog X.w) X.A (eval a X.env) (λv s₁=>wpAny (model X.prog X.w) X.A (eval b X.env) (λu s₂=>wpAny (model X.prog X.w) X.A (f v u) Q X.xe s₂) X.xe s₁) X.xe s:=by
 refine thn (ha _ s σ H _ I h) λv s1 ⟨x,H1,I1,r1,q1⟩=> ?_;refine thn (hb _ s1 σ H1 _ I1 q1) λu s2 ⟨y,H2,I2,r2,q2⟩=> ?_;exact hf v u s2 x y H2 I2 r1 r2 q2
theorem z2n (ho:OpR X (binaryOp op) r)(ha:PE X a ta)(hb:PE X b tb):PE X (.BinOp a op b pos) (tOp r ta tb):=by
 intro pins s σ H Q I h;exact wpAny_BinOp (z2m ha hb I h λv u s2 x y H2 I2 rx ry q=>ho _ s2 σ H2 x y v u Q I2 rx ry q)
theorem z2o {op:UnaryOp}{r:V->Hp->VK->Prop}(ho:UnR X (unaryOp op) r)(ha:PE X a ta):PE X (.UnaryOp op a pos) (tUn r ta):=by
 intro pins s σ H Q I h;exact UnaryOp_ (thn (ha _ s σ H _ I h) λv s1 ⟨x,H1,I1,r1,q1⟩=>ho _ s1 σ H1 x v Q I1 r1 q1)
theorem opI {f:Value->Value->Sem Value}{C:Int->Int->Prop}{g:Int->Int->Int}
  (rule:∀(i j:Int) (t u:Tok) (s:Shared) (Q:Value->Shared->Prop) (E:Value->Shared->Prop),C i j->Q (.int (g i j) s.toks) { s with toks:=s.toks+1 }->wpAny (model X.prog X.w) X.A (f (.int i t) (.int j u)) Q E s):
  OpR X f (rI C λi j=> .int (g i j)):=by
 intro pins s σ H x y v u Q I rx ry h;obtain⟨i,j,rfl,rfl,hc,q⟩:=h;obtain⟨t,rfl⟩:=rx;obtain⟨t',rfl⟩:=ry;exact rule i j t t' s _ _ hc ⟨.int _,H,I.tok _,⟨_,rfl⟩,q⟩
theorem opI0 {f:Value->Value->Sem Value}{g:Int->Int->Int}
  (rule:∀(i j:Int) (t u:Tok) (s:Shared) (Q:Value->Shared->Prop) (E:Value->Shared->Prop),Q (.int (g i j) s.toks) { s with toks:=s.toks+1 }->wpAny (model X.prog X.w) X.A (f (.int i t) (.int j u)) Q E s):
  OpR X f (rI0 λi j=> .int (g i j)):=by
 intro pins s σ H x y v u Q I rx ry h;obtain⟨i,j,rfl,rfl,q⟩:=h;obtain⟨t,rfl⟩:=rx;obtain⟨t',rfl⟩:=ry;exact rule i j t t' s _ _ ⟨.int _,H,I.tok _,⟨_,rfl⟩,q⟩
theorem z1t {f:Value->Value->Sem Value}{g:Int->Int->Bool}
  (rule:∀(i j:Int) (t u:Tok) (s:Shared) (Q:Value->Shared->Prop) (E:Value->Shared->Prop),Q (.bool (g i j)) s->wpAny (model X.prog X.w) X.A (f (.int i t) (.int j u)) Q E s):
  OpR X f (rI0 λi j=> .bl (g i j)):=by
 intro pins s σ H x y v u Q I rx ry h;obtain⟨i,j,rfl,rfl,q⟩:=h;obtain⟨t,rfl⟩:=rx;obtain⟨t',rfl⟩:=ry;exact rule i j t t' s _ _ ⟨.bl _,H,I,rfl,q⟩
noncomputable def CDiv (i j:Int):Prop:=0 < j/\j < 1073741824
noncomputable def uM (i j:Int):Prop:=(-(2 ^ 64) < i/\i < 2 ^ 64)\/(-(2 ^ 64) < j/\j < 2 ^ 64)
theorem uM.ok (h:uM i j):IntMulOk i j:=by
 rcases h with ⟨h1,h2⟩ | ⟨h1,h2⟩
 ·exact .of_left (intBits_le_64 h1 h2)
 ·exact .of_right (intBits_le_64 h1 h2)
theorem gO:OpR X (binaryOp .Add) (rI0 λi j=> .int (i+j)):=opI0 λ_ _ _ _ _ _ _ q=>add_int q
theorem gP:OpR X (binaryOp .Sub) (rI0 λi j=> .int (i - j)):=opI0 λ_ _ _ _ _ _ _ q=>sub_int q
theorem gQ:OpR X (binaryOp .Mult) (rI uM λi j=> .int (i*j)):=opI λ_ _ _ _ _ _ _ hc q=>mul_int q hc.ok
theorem XA:OpR X (binaryOp .FloorDiv) (rI CDiv λi j=> .int (i / j)):=opI λi j _ _ _ _ _ hc q=>by
 have h1:=hc.1;have h2:=hc.2;exact floordiv_int (by omega) (by rw[e9 i (by omega)];exact q) (.inl (PyProof.noPylong_small (by omega)))
theorem gR:OpR X (binaryOp .Mod) (rI (λ_ j=>0 < j) λi j=> .int (i % j)):=opI λi j _ _ _ _ _ hc q=>by
 exact mod_int' (by omega) (by rw[Int.fmod_eq_emod_of_nonneg i (by omega)];exact q)
theorem unI {f:Value->Sem Value}{g:Int->Int}
  (rule:∀(i:Int) (t:Tok) (s:Shared) (Q:Value->Shared->Prop) (E:Value->Shared->Prop),Q (.int (g i) s.toks) { s with toks:=s.toks+1 }->wpAny (model X.prog X.w) X.A (f (.int i t)) Q E s):
  UnR X f (rU λi=> .int (g i)):=by
 intro pins s σ H x v Q I rx h;obtain⟨i,rfl,q⟩:=h;obtain⟨t,rfl⟩:=rx;exact rule i t s _ _ ⟨.int _,H,I.tok _,⟨_,rfl⟩,q⟩
theorem gS:UnR X (unaryOp .USub) (rU λi=> .int (-i)):=unI λ_ _ _ _ _ q=>neg_int q
theorem YE:OpR X (binaryOp .Add) (λx y H Q=>∃i k,x= .int i/\y= .bl k/\Q (.int (i+b2i k)) H):=by
 intro pins s σ H x y v u Q I rx ry h;obtain⟨i,k,rfl,rfl,q⟩:=h;obtain⟨t,rfl⟩:=rx;cases ry;exact add_int_bool ⟨.int _,H,I.tok _,⟨_,rfl⟩,q⟩
end
section
theorem z2p:OpR X (compareOp .Lt) (rI0 λi j=> .bl (decide (i < j))):=z1t λ_ _ _ _ _ _ _ q=>lt_int q
theorem z2q:OpR X (compareOp .LtE) (rI0 λi j=> .bl (decide (i<=j))):=z1t λ_ _ _ _ _ _ _ q=>le_int q
theorem z2r:OpR X (compareOp .Gt) (rI0 λi j=> .bl (decide (j < i))):=z1t λ_ _ _ _ _ _ _ q=>gt_int q
theorem z2s:OpR X (compareOp .GtE) (rI0 λi j=> .bl (decide (j<=i))):=z1t λ_ _ _ _ _ _ _ q=>ge_int q
theorem jJ (b:Expr)(h:op ≠ .In:=by decide)(h2:op ≠ .NotIn:=by decide):behindInMarks op b=false:=by
 have e1:(op == CmpOp.In)=false:=by cases op <;> first | rfl | exact absurd rfl h
 have e2:(op == CmpOp.NotIn)=false:=by cases op <;> first | rfl | exact absurd rfl h2
 cases b <;> simp[behindInMarks,e1,e2]
theorem XB (ho:OpR X (compareOp op) r)(ha:PE X a ta)(hb:PE X b tb)(hm:behindInMarks op b=false):PE X (.Compare a [op] [b] pos) (tOp r ta tb):=by
 intro pins s σ H Q I h;exact wpAny_Compare1 (z2m ha hb I h λv u s2 x y H2 I2 rx ry q=>ho _ s2 σ H2 x y v u Q I2 rx ry q) hm
def gT (t:TE):TT:=λσ H Q=>t σ H λx H' =>∃k,x= .bl k/\Q k H'
theorem YF (ho:OpR X (compareOp op) r)(ha:PE X a ta)(hb:PE X b tb)(hm:behindInMarks op b=false):PT X (.Compare a [op] [b] pos) (gT (tOp r ta tb)):=by
 intro pins s σ H Q I h;refine wpAny_isTrue_Compare1 (thn (ha _ s σ H _ I h) λv s1 ⟨x,H1,I1,r1,q1⟩=>thn (hb _ s1 σ H1 _ I1 q1) λu s2 ⟨y,H2,I2,r2,q2⟩=>
  thn (ho _ s2 σ H2 x y v u _ I2 r1 r2 q2) λc s3 ⟨z,H3,I3,r3,k,e,q3⟩=> ?_) hm
 subst e;cases r3;exact bj ⟨H3,I3,q3⟩
def xB (r r' :R2)(ta tb tc:TE):TE:=λσ H Q=>ta σ H λx H1=>tb σ H1 λy H2=>r x y H2 λz H3=>∃k,z= .bl k/\
 (if k=true then tc σ H3 λw' H4=>r' y w' H4 Q else Q (.bl false) H3)
theorem vW (ho:OpR X (compareOp op) r)(ho' :OpR X (compareOp op') r')(ha:PE X a ta)(hb:PE X b tb)(hc:PE X c tc)
  (hm:lastMarks [op,op'] [b,c]=false:=by with_unfolding_all rfl):PE X (.Compare a [op,op'] [b,c] pos) (xB r r' ta tb tc):=by
 intro pins s σ H Q I h;refine Compare_chain (thn (ha _ s σ H _ I h) λv s1 ⟨x,H1,I1,r1,q1⟩=>chain_link (thn (hb _ s1 σ H1 _ I1 q1) λu s2 ⟨y,H2,I2,r2,q2⟩=>
  thn (ho _ s2 σ H2 x y v u _ I2 r1 r2 q2) λd s3 ⟨z,H3,I3,r3,k,e,q3⟩=> ?_)) hm
 subst e;cases r3;refine bj ?_;cases k with
 | false=>exact ite_ff ⟨.bl _,H3,I3,rfl,q3⟩
 | true=>exact ite_tt (chain_last (thn (hc _ s3 σ H3 _ I3 q3) λw' s4 ⟨z',H4,I4,r4,q4⟩=>ho' _ s4 σ H4 y z' u w' Q I4 r2 r4 q4))
theorem vX (ho:OpR X (compareOp op) r)(ho' :OpR X (compareOp op') r')(ha:PE X a ta)(hb:PE X b tb)(hc:PE X c tc)
  (hm:lastMarks [op,op'] [b,c]=false:=by with_unfolding_all rfl):PT X (.Compare a [op,op'] [b,c] pos) (gT (xB r r' ta tb tc)):=by
 intro pins s σ H Q I h;refine isTrue_chain (thn (ha _ s σ H _ I h) λv s1 ⟨x,H1,I1,r1,q1⟩=>test_link (thn (hb _ s1 σ H1 _ I1 q1) λu s2 ⟨y,H2,I2,r2,q2⟩=>
  thn (ho _ s2 σ H2 x y v u _ I2 r1 r2 q2) λd s3 ⟨z,H3,I3,r3,k,e,q3⟩=> ?_)) hm
 subst e;cases r3;refine bj ?_;cases k with
 | false=>
  obtain⟨k',e',q'⟩:=q3;cases e';exact ite_ff ⟨H3,I3,q'⟩
 | true=>
  refine ite_tt (test_last (thn (hc _ s3 σ H3 _ I3 q3) λw' s4 ⟨z',H4,I4,r4,q4⟩=>thn (ho' _ s4 σ H4 y z' u w' _ I4 r2 r4 q4) λd' s5 ⟨z2,H5,I5,r5,k2,e2,q5⟩=> ?_));subst e2;cases r5;exact bj ⟨H5,I5,q5⟩
def TruV (K:ae)(x:V)(H:Hp)(k:Bool):Prop:=
 match x with
 | .non=>k=false
 | .bl b=>k=b
 | .int i=>k=(i != 0)
 | .str y=>y.length<=sizeLine/\k=((y.length:Int) != 0)
 | .byt y=>y.size<=sizeLine/\k=((y.size:Int) != 0)
 | .ref p=>(∃xs,SqL K H p xs/\k= !xs.isEmpty)\/(∃xs,SqT K H p xs/\k= !xs.isEmpty)\/∃kvs,H p=some (.dK kvs)/\k= !kvs.isEmpty
 | _=>False
theorem yJ {κ:Type}{kvs:List (κ×V)}{vs:List (κ×Value)}(r:KV kvs vs):(!vs.isEmpty)= !kvs.isEmpty:=by
 cases r <;> rfl
theorem wG (r:Vals xs its):(!its.toArray.isEmpty)= !xs.isEmpty:=by
 cases r <;> simp
theorem WR:(sizeLine:Nat) < 2 ^ 63:=by decide
theorem gU:TruR X (λx H Q=>∃k,TruV X.K x H k/\Q k H):=by
 intro pins s σ H x v Q I rx h;obtain⟨k,e,q⟩:=h;have hs:=cj;cases x with
 | non=>
  cases rx;have e' :k=false:=e;subst e';exact truthy_none ⟨H,I,q⟩
 | bl b=>
  cases rx;have e' :k=b:=e;subst e';exact bj ⟨H,I,q⟩
 | int i=>
  obtain⟨t,rfl⟩:=rx;have e' :k=(i != 0):=e;subst e';exact PySem.P.truthy_int ⟨H,I,q⟩
 | str y=>
  obtain⟨t,rfl⟩:=rx;obtain⟨hy,e'⟩:y.length<=sizeLine/\k=((y.length:Int) != 0):=e;subst e';exact PySem.P.truthy_str (by omega) ⟨H,I.tok _,q⟩
 | byt y=>
  obtain⟨t,rfl⟩:=rx;obtain⟨hy,e'⟩:y.size<=sizeLine/\k=((y.size:Int) != 0):=e;subst e';exact PySem.W.truthy_bytes (by omega) ⟨H,I.tok _,q⟩
 | ref p=>
  cases rx;have e' :=e;rcases e' with ⟨xs,hx,e'⟩ | ⟨xs,hx,e'⟩ | ⟨kvs,hx,e'⟩
  ·subst e';obtain⟨its,r,pl,hz⟩:=I.list hx;have hlen:=r.length;exact wpAny_truthy_list pl.isList (by simp only[aE];omega) ⟨H,I.tok _,by rw[wG r];exact q⟩
  ·subst e';obtain⟨its,r,pl,hz⟩:=I.tuple hx;have hlen:=r.length;exact truthy_tuple pl (by simp only[aE];omega) ⟨H,I.tok _,by rw[wG r];exact q⟩
  ·subst e';obtain⟨hz,hS,vs,r,m⟩:kvs.length<=sizeLine/\(p == sysModules)=false/\∃vs,KV kvs vs/\s.heap.DictOf _ p vs:=I.hok p _ hx;have hlen:=Paired.length r;exact wpAny_truthy_dict hS m (by omega) ⟨H,I.tok _,by rw[yJ r];exact q⟩
 | _=>exact(e).elim
theorem vY (ha:PE X a ta)(he:∀whole,isTrue a X.env whole=(do let v ← whole;standAt a.pos;holding [v] (truthy v))):
  PT X a (λσ H Q=>ta σ H λx H' =>∃k,TruV X.K x H' k/\Q k H'):=by
 intro pins s σ H Q I h;exact isTrue_plain (thn (ha _ s σ H _ I h) λv s1 ⟨x,H1,I1,r1,q1⟩=>gU _ s1 σ H1 x v Q I1 r1 q1) (he _)
theorem yK:OpR X (binaryOp .Add) (λx y H Q=>∃i j,x= .str i/\y= .str j/\i.length+j.length<=sizeLine/\Q (.str (i++j)) H):=by
 intro pins s σ H x y v u Q I rx ry h;obtain⟨i,j,rfl,rfl,hz,q⟩:=h;obtain⟨t,rfl⟩:=rx;obtain⟨t',rfl⟩:=ry;exact add_str (λt' tk=>⟨.str _,H,I.tok _,⟨_,rfl⟩,q⟩) hz
theorem Zv (r:Vals [x] us):∃u,us=[u]/\RelV x u:=by
 cases r with
 | cons r1 r2=>cases r2;exact⟨_,rfl,r1⟩
theorem yL (r:Vals [x,y] us):∃u w',us=[u,w']/\RelV x u/\RelV y w' :=by
 cases r with
 | cons r1 r2=>
  cases r2 with
  | cons r3 r4=>cases r4;exact⟨_,_,rfl,r1,r3⟩
theorem vZ:Zk X (.builtin "abs") (λxs H Q=>∃i,xs=[.int i]/\Q (.int (if i < 0 then -i else i)) H):=by
 intro pins s σ H xs us Q I r h;obtain⟨i,rfl,q⟩:=h;obtain⟨u,rfl,t,rfl⟩:=Zv r;exact call_abs_int λu tk=>⟨.int _,H,I.tok _,⟨_,rfl⟩,q⟩
theorem YG (hc:X.calm=true):Zk X (.builtin "min") (λxs H Q=>∃i j,xs=[.int i,.int j]/\Q (.int (if j < i then j else i)) H):=by
 intro pins s σ H xs us Q I r h;obtain⟨i,j,rfl,q⟩:=h;obtain⟨u,w',rfl,⟨t,rfl⟩,⟨t',rfl⟩⟩:=yL r;refine min_two_ints (I.ok.hd hc) λh' tk k=>⟨_,H,I.kept k, ?_,q⟩
 by_cases hj:j < i
 ·rw[if_pos hj,if_pos hj];exact⟨_,rfl⟩
 ·rw[if_neg hj,if_neg hj];exact⟨_,rfl⟩
theorem YH:Zk X (.type "int") (λxs H Q=>(∃i,xs=[.int i]/\Q (.int i) H)\/∃k,xs=[.bl k]/\Q (.int (if k then 1 else 0)) H):=by
 intro pins s σ H xs us Q I r h;rcases h with ⟨i,rfl,q⟩ | ⟨k,rfl,q⟩
 ·obtain⟨u,rfl,t,rfl⟩:=Zv r;exact call_int_int ⟨.int i,H,I,⟨_,rfl⟩,q⟩
 ·obtain⟨u,rfl,r1⟩:=Zv r;cases r1;exact call_int_bool ⟨.int _,H,I.tok _,⟨_,rfl⟩,q⟩
end
end L2
namespace L2
open PySem PySem.Spec PyProof.Rows
structure z2t (h:Heap) (x dx C:Addr) (mA:Str->Option Value):Prop where
 obj:h.get? x=some (fG C dx)
 ns:h.Ns1 dx mA
 ne:dx ≠ x
theorem YI {h:Heap}{dx:Addr}{mA:Str->Option Value}(n:h.Ns1 dx mA):∃od,h.get? dx=some od/\∀name,fQ name od=some (mA name):=by
 obtain⟨o,es,ep,ho,hd,hk,_,hm⟩:=n;refine⟨o,ho,λname=> ?_⟩;have e:=hm name;unfold nsFind findBy at e;rw[← Array.find?_toList]at e;unfold fQ;rw[hd];dsimp only;split
 ·rename_i y q;rw[q]at e;exact congrArg _ e
 ·rename_i q;rw[q]at e;have a:es.toList.any (·.refKey)=false:=by
   rw[ij];intro y hy;obtain⟨z,t,hkey⟩:=hk y (Array.mem_toList_iff.mp hy);simp[DictEntry.refKey,hkey]
  have a' :¬ es.toList.any (·.refKey)=true:=by rw[a];exact ay
  rw[if_neg a'];exact congrArg _ e
theorem z2t.look (I:z2t h x dx C mA):∃od,PySem.W.InstAt h x (fG C dx) C (some od)/\∀name,fQ name od=some (mA name):=
 let ⟨od,ho,hl⟩:=YI I.ns
 ⟨od,⟨I.obj,rfl,rfl,ho⟩,hl⟩
section
theorem XD (hok:HOk P w H h)(e:H a=some (.ins C dx fs)):∃mA,z2t h a dx C mA/\(∀f,z2a (fs.lookup f) (mA f))/\PySem.Within mA (fs.map (·.1))/\fs.length<=1000/\H dx=some (.own a):=by
 obtain⟨d,z,ne,ob,mA,n,r,q⟩:=(show Z1 P w H h a _ from hok a _ e);exact⟨mA,⟨ob,n,ne⟩,r,q,z,d⟩
end
structure Cls (K:ae) (C:Addr):Prop where
 pg:iJ K C Str.empty=true
 hd:PySem.W.hasDictIn K C=true
 po:PySem.W.plainOver K C=true
 sa:dC K (.ref C) "__setattr__"=some (some (.builtin "object.__setattr__"))
theorem Cls.get {K:ae}{C:Addr}(c:Cls K C)(f:Str):iJ K C f=true:=c.pg
section
end
section
end
section
inductive yM (K:ae) (H:Hp):V->Value->Prop where
 | non:yM K H .non (.type "NoneType")
 | bl (x:Bool):yM K H (.bl x) (.type "bool")
 | int (i:Int):yM K H (.int i) (.type "int")
 | str (x:Str):yM K H (.str x) (.type "str")
 | flt (x:UInt64):yM K H (.flt x) (.type "float")
 | lst {a:Addr} {xs:List V} (e:H a=some (.lst xs)):yM K H (.ref a) (.type "list")
 | frz {a:Addr} {o:Obj} {xs:List V} (e:H a=some (.frz o (.lst xs))):yM K H (.ref a) (.type "list")
 | tup {a:Addr} {xs:List V} (e:H a=some (.tup xs)):yM K H (.ref a) (.type "tuple")
 | dK {a:Addr} {kvs:List (Key×V)} (e:H a=some (.dK kvs)):yM K H (.ref a) (.type "dict")
 | dT {a:Addr} {kvs:List (List Key×V)} (e:H a=some (.dT kvs)):yM K H (.ref a) (.type "dict")
 | ins {a C dx:Addr} {fs:List (Str×V)} (e:H a=some (.ins C dx fs)) (cl:Cls K C) (ha:dC K (.ref C) "__class__"=some (some (.builtin "object.__class__")))
   (hn:ik K (.builtin "object.__class__") "__get__"=some (some (.builtin "getset_descriptor.__get__"))) (htk:l6 K (.builtin "object.__class__")=some true)
   (hm:hV K C (.type "object")=some true):yM K H (.ref a) (.ref C)
theorem YJ (I:Inv X pins σ H s)(rx:RelV x u)(ty:yM X.K H x t)(e:aQ X.K t c=some b)(h:∀tk,Q (.bool b) { s with toks:=tk }):
  wpAny (model X.prog X.w) A (call (.builtin "isinstance") [u,c]) Q E s:=by
 cases ty with
 | non=>cases (rx);exact bI PySem.W.kitx_none I.kIn True.intro e (λz=>nomatch z) h
 | bl y=>cases (rx);exact bI PySem.W.kitx_bool I.kIn True.intro e (λz=>nomatch z) h
 | int i=>obtain⟨t,q⟩:=(rx);cases q;exact bI PySem.W.kitx_int I.kIn True.intro e (λz=>nomatch z) h
 | str y=>obtain⟨t,q⟩:=(rx);cases q;exact bI PySem.W.kitx_str I.kIn True.intro e (λz=>nomatch z) h
 | flt y=>obtain⟨t,q⟩:=(rx);cases q;exact bI PySem.W.kitx_float I.kIn True.intro e (λz=>nomatch z) h
 | @lst a xs ea=>
  cases (rx);obtain⟨_,_,n,_,h1⟩:=(show Z1 _ X.w H _ a _ from I.hok a _ ea);exact bI il I.kIn ⟨_,h1,rfl⟩ e (λz=>nomatch z) h
 | @frz a ob xs ea=>
  cases (rx);obtain⟨_,_,_,n,_,h1⟩:=(show Z1 _ X.w H _ a _ from I.hok a _ ea);exact bI il I.kIn ⟨_,h1,rfl⟩ e (λz=>nomatch z) h
 | @tup a xs ea=>
  cases (rx);obtain⟨_,_,_,p,_⟩:=(show Z1 _ X.w H _ a _ from I.hok a _ ea);obtain⟨o,h1,h2,_⟩:=p;exact bI PySem.W.kitx_tuple I.kIn ⟨o,h1,h2⟩ e (λz=>nomatch z) h
 | @dK a kvs ea=>
  cases (rx);obtain⟨_,_,vs,_,p⟩:=(show Z1 _ X.w H _ a _ from I.hok a _ ea);obtain⟨o,es,ep,h1,h2,_⟩:=p;exact bI im I.kIn ⟨o,h1,h2.1⟩ e (λz=>nomatch z) h
 | @dT a kvs ea=>
  cases (rx);obtain⟨_,_,xs,_,o,es,ep,h1,h2,_⟩:=(show Z1 _ X.w H _ a _ from I.hok a _ ea);exact bI im I.kIn ⟨o,h1,h2.1⟩ e (λz=>nomatch z) h
 | @ins a C dx fs ea cl ha hn htk hm=>
  cases (rx);obtain⟨mA,O,_⟩:=XD I.hok ea;obtain⟨od,J,_⟩:=O.look;exact bI (PySem.W.kitx_own (cl.get _) cl.hd ha hn htk hm) I.kIn J e (λz=>nomatch z) h
end
end L2
namespace L2
open PySem PySem.Spec PyProof.Rows
structure jq (k:Nat) (A:Around):Prop where
 hd:A.handled=none
 dp:A.depth+3*k+5 < recursionLimit
 un:A.units+16*k+200 < cLine
 gd:A.guards=some []
theorem jq.mono (r:jq k A)(h:j<=k):jq j A:=⟨r.hd,by have:=r.dp;omega,by have:=r.un;omega,r.gd⟩
theorem jq.deeper (r:jq (k+1) A)(env:Env):jq k (A.deeper env):=
 ⟨r.hd,by have:=r.dp;show A.depth+1+3*k+5 < _;omega,by have:=r.un;show A.units+3+16*k+200 < _;omega,r.gd⟩
theorem jq.depth (r:jq k A):A.depth < recursionLimit:=by have:=r.dp;omega
theorem jq.units (r:jq k A):A.units+64 < cLine:=by have:=r.un;omega
def tNil:TA:=λ_ H Q=>Q [] H
def z2u (ta:TE)(tr:TA):TA:=λσ H Q=>ta σ H λx H1=>tr σ H1 λxs H2=>Q (x :: xs) H2
section
theorem zP:PA X [] tNil:=λ_ _ _ _ H Q I h=>io ⟨[],H,I,.nil,h⟩
theorem zv (ha:PE X e te)(hr:PA X es t)(hs:starEach (e :: es) X.env=(false,eval e X.env) :: starEach es X.env:=by rfl):PA X (e :: es) (z2u te t):=by
 intro pos pins s σ H Q I h;rw[hs];refine i4 (thn (ha _ s σ H _ I h) λu s1 ⟨x,H1,I1,r1,q1⟩=> ?_);exact thn (hr pos _ s1 σ H1 _ I1 q1) λus s2 ⟨xs,H2,I2,r2,q2⟩=>⟨x :: xs,H2,I2,.cons r1 r2,q2⟩
def tTup (t:TA):TE:=λσ H Q=>t σ H λxs H1=>xs.length<=sizeLine/\∀p,H1 p=none->Q (.ref p) (upd H1 p (.tup xs))
def tLst (t:TA):TE:=λσ H Q=>t σ H λxs H1=>xs.length<=sizeLine/\∀p,H1 p=none->Q (.ref p) (upd H1 p (.lst xs))
theorem gW {x1}(h:PA X es t):PE X (.Tuple es x1 pos) (tTup t):=by
 intro pins s σ H Q I hq;refine wpAny_Tuple_spliced (thn (h pos _ s σ H _ I hq) λus s1 ⟨xs,H1,I1,r,z,q⟩=>⟨by rw[← r.length];exact z, ?_⟩)
 have hf:=I1.hok.fresh (am _);refine⟨.ref _,upd H1 _ _,I1.laid (λb u e=>ag _ e) (am _) ?_,rfl,q _ hf⟩;exact⟨z,us,r,⟨_,aj _ rfl,rfl,_,rfl⟩,.inr ⟨_,aj _ rfl,rfl⟩⟩
theorem xC (h:PA X es t):PE X (.List es pos) (tLst t):=by
 intro pins s σ H Q I hq;refine wpAny_List_spliced (thn (h pos _ s σ H _ I hq) λus s1 ⟨xs,H1,I1,r,z,q⟩=>⟨by rw[← r.length];exact z, ?_⟩)
 have hf:=I1.hok.fresh (am _);refine⟨.ref _,upd H1 _ _,I1.laid (λb u e=>ag _ e) (am _) ?_,rfl,q _ hf⟩;exact⟨z,us,0,r,aj _ rfl⟩
end
abbrev Sp:=List V->Hp->VK->XK->Prop
abbrev CXT:=List Env->Hp->Shared->XK->Value->Shared->Prop
structure z1u (P:Program) (w:World) (K:ae) (mg:Str->Option Value) (base:Heap) (A:Around) (outer:List Env) (s:Shared) (H:Hp):Prop where
 frames:A.frames=some outer
 mod:Mod K mg base
 bs:∀b o,base.get? b=some o->s.heap.get? b=some o/\H b=none
 bsz:base.objs.size<=s.heap.objs.size
 funs:s.heap.FunFrames base outer
 frf:∀b∈frs outer,H b=none
 hok:HOk P w H s.heap
 bare:AllBare s.gens
def CE (outer:List Env)(P:Program)(w:World)(H:Hp)(s:Shared)(Q:VK)(u:Value)(s' :Shared):Prop:=
 ∃v H',s'.os=s.os/\AllBare s'.gens/\Un (frs outer) [] H H' s.heap s'.heap/\HOk P w H' s'.heap/\RelV v u/\Q v H'
def CR (CX:CXT)(outer:List Env)(P:Program)(w:World)(H:Hp)(s:Shared)(Q:VK)(E:XK)(r:Result)(s' :Shared):Prop:=
 match r with
 | .ok (.ret u)=>CE outer P w H s Q u s'
 | .ok _=>False
 | .error e=>CX outer H s E e s'
structure ww (P:Program) (w:World) (K:ae) (mg:Str->Option Value) (base:Heap) (CX:CXT) (k:Nat) (f:Addr) (fd:FuncData) (ps:List Str) (sp:Sp):Prop where
 len:∀vs H Q E,sp vs H Q E->vs.length=ps.length
 run:∀(A:Around) (outer:List Env) (s:Shared) (H:Hp) (args:Args) (us:List Value) (vs:List V) (Q:VK) (E:XK),jq k A->z1u P w K mg base A outer s H->BindsTo s fd args (ps.zip us)->Vals vs us->sp vs H Q E->
  codeAny (model P w) A (.call (.ref f) args) (CR CX outer P w H s Q E) s
section
theorem Inv.env0 (I:Inv X pins σ H s):z1u X.prog X.w X.K X.mg X.base X.A X.stack s H:=
 ⟨I.ok.frames,I.ok.mod,I.bs,ao I.ok.bsz I.sz,I.stack,I.stkFree,I.hok,I.bare⟩
theorem Inv.after (I:Inv X pins σ H s)(h:CE X.stack X.prog X.w H s Q u s'):EP X pins σ Q u s' :=by
 obtain⟨v,H',os,bare,un,hok,r,q⟩:=h;obtain⟨hh,g,d,t,os'⟩:=s';obtain rfl:os' =s.os:=os;exact⟨v,H',I.call un hok bare (λb z=>absurd z (by simp)),r,q⟩
end
def z2v (sp:Sp)(dvs:List V)(E:XK)(t:TA):TE:=λσ H Q=>t σ H λvs H1=>sp (vs++dvs) H1 Q E
noncomputable def Binds (K:ae)(fd:FuncData)(ps:List Str)(ds:List Value):Prop:=
 ∀(s:Shared) (us:List Value),K.In s.heap->(us++ds).length=ps.length->BindsTo s fd ⟨us,[]⟩ (ps.zip (us++ds))
theorem Binds.all {K:ae}{fd:FuncData}{ps:List Str}(h:∀us:List Value,us.length=ps.length->bindArgs fd ⟨us,[]⟩=pure (ps.zip us)):Binds K fd ps []:=λs us _ hl=>by
 rw[bJ]at hl ⊢;exact .of_eq (h us hl)
def ZL (CX:CXT)(X:Cx)(E:XK):Prop:=∀(pins:List (Addr×Obj)) (σ:St) (H:Hp) (s:Shared) (e:Value) (s' :Shared),Inv X pins σ H s->CX X.stack H s E e s' ->X.xe e s'
section
theorem gX (F:ww X.prog X.w X.K X.mg X.base CX k f fd ps sp)(hr:jq k X.A)(hb:Binds X.K fd ps ds)(hd:Vals dvs ds)(hx:ZL CX X E)
  (I:Inv X pins σ H s) (r:Vals vs us) (h:sp (vs++dvs) H Q E):wpAny (model X.prog X.w) X.A (call (.ref f) us) (EP X pins σ Q) X.xe s:=by
 have r2:=r.append hd;have hl:(us++ds).length=ps.length:=by rw[← r2.length];exact F.len _ _ _ _ h
 refine wpAny_call (codeAny_mono (F.run X.A _ s H _ _ _ Q E hr I.env0 (hb s us I.kIn hl) r2 h) λr s' hq=> ?_);cases r with
 | error e=>exact hx _ σ H s e s' I hq
 | ok fl=>
  cases fl with
  | ret u=>exact I.after hq
  | next=>exact cQ hq
  | brk=>exact cQ hq
  | cont=>exact cQ hq
theorem uS (F:ww X.prog X.w X.K X.mg X.base CX k f fd ps sp)(hr:jq k X.A)(hg:Gl X x)(hm:X.mg x=some (.ref f))(hk:bZ X.K (.ref f)=true)(hb:Binds X.K fd ps ds)(hd:Vals dvs ds)(hx:ZL CX X E)
  (ha:PA X (e :: es) t) (hdb:(x == ("__debug__":Str))=false:=by decide) (he:starEach (e :: es) X.env=(false,eval e X.env) :: starEach es X.env:=by rfl) (hpl:(backTo pos (starEach es X.env)).any (·.1)=false:=by rfl):
  PE X (.Call (.Name x p) (e :: es) [] pos) (z2v sp dvs E t):=by
 intro pins s σ H Q I h;refine wpAny_Call_Name_kw (W4 I hg hm ?_ hdb);refine PySem.W.callWith_K I.ok.mod.kin hk (thn (ha pos _ s σ H _ I h) λus s1 ⟨vs,H1,I1,r,q⟩=>⟨I1.kIn, ?_⟩) he hpl;exact gX F hr hb hd hx I1 r q
end
section
variable {kws:List Keyword}{nm:Option Str}
variable {g:List Value->List Value->List Value}{gV:List V->List V->List V}
end
structure ja (N P:List Str) (sc:Scope):Prop where
 kind:sc.kind= .function
 co:sc.isCoroutine=false
 gen:sc.isGenerator=false
 nd:N.Nodup
 pre:N.take P.length=P
 par:∀x∈P,sc.names.lookup x=some .local\/sc.names.lookup x=some .cell
 nofree:∀y∈sc.names,y.2 ≠ .free
theorem WS {kindOf:Str->Option NameKind}{x:Str}:∀{binds:List (Str×Value)} {m:Str->Option Value},(∀v,(x,v) ∉ binds)->bindL kindOf binds m x=m x
 | [],_,_=>rfl
 | (n,v) :: r,m,h=>by
  unfold bindL;rw[WS λw hw=>h w (a8 _ hw)];split
  ·have:x ≠ n:=by rintro rfl;exact h v a9
   simp[this]
  ·rfl
theorem WT {kindOf:Str->Option NameKind}{x:Str}:∀{binds:List (Str×Value)} {m:Str->Option Value},(∀v,(x,v) ∉ binds)->bindC kindOf binds m x=m x
 | [],_,_=>rfl
 | (n,v) :: r,m,h=>by
  unfold bindC;rw[WT λw hw=>h w (a8 _ hw)];split
  ·rfl
  ·have:x ≠ n:=by rintro rfl;exact h v a9
   simp[this]
theorem WU {kindOf:Str->Option NameKind}{x:Str}{v:Value}:∀{P:List Str} {vs:List Value} {i:Nat} {m:Str->Option Value},P.Nodup->P[i]? =some x->vs[i]? =some v->kindOf x=some .local->
  bindL kindOf (P.zip vs) m x=some v
 | [],_,_,_,_,h,_,_=>by simp at h
 | _ :: _,[],_,_,_,_,h,_=>by simp at h
 | p :: P,w :: vs,0,m,nd,h1,h2,hk=>by
  simp at h1 h2;subst h1;subst h2;show bindL _ ((p,w) :: P.zip vs) m p=_;unfold bindL;rw[WS λv hv=>(cV.mp nd).1 (c8 hv).1,if_pos hk];simp
 | p :: P,w :: vs,i+1,m,nd,h1,h2,hk=>by
  show bindL _ ((p,w) :: P.zip vs) m x=_;exact WU (cV.mp nd).2 (by simpa using h1) (by simpa using h2) hk
theorem WV {kindOf:Str->Option NameKind}{x:Str}{v:Value}:∀{P:List Str} {vs:List Value} {i:Nat} {m:Str->Option Value},P.Nodup->P[i]? =some x->vs[i]? =some v->kindOf x ≠ some .local->
  bindC kindOf (P.zip vs) m x=some v
 | [],_,_,_,_,h,_,_=>by simp at h
 | _ :: _,[],_,_,_,_,h,_=>by simp at h
 | p :: P,w :: vs,0,m,nd,h1,h2,hk=>by
  simp at h1 h2;subst h1;subst h2;show bindC _ ((p,w) :: P.zip vs) m p=_;unfold bindC;rw[WT λv hv=>(cV.mp nd).1 (c8 hv).1,if_neg hk];simp
 | p :: P,w :: vs,i+1,m,nd,h1,h2,hk=>by
  show bindC _ ((p,w) :: P.zip vs) m x=_;exact WV (cV.mp nd).2 (by simpa using h1) (by simpa using h2) hk
def start (N:List Str)(vs:List V):St:=vs.map some++af (N.length - vs.length) none
def Jw (CX:CXT)(P:Program)(w:World)(K:ae)(mg:Str->Option Value)(base:Heap)(N:List Str)(qual:Str)(scope:Scope)(f:Addr)(cd:Value)(A:Around)(outer:List Env)(s:Shared)(H:Hp)(E:XK):Cx where
 prog:=P
 w:=w
 K:=K
 mg:=mg
 base:=base
 A:=A.deeper (envOfC qual scope s.heap.objs.size f cd)
 N:=N
 s₀:=s
 H₀:=H
 env:=envOfC qual scope s.heap.objs.size f cd
 outer:=outer
 stack:=envOfC qual scope s.heap.objs.size f cd :: outer
 ex:=[]
 calm:=true
 fn:=λ_=>true
 pn:=[]
 xe:=λe s' =>wpAny (model P w) (A.deeper (envOfC qual scope s.heap.objs.size f cd)) (leaving (envOfC qual scope s.heap.objs.size f cd) e) (λ_ s'' =>CX outer H s E e s'') (λe' s'' =>CX outer H s E e' s'') s'
theorem UD {sc:Scope}{n:Nat}{x:Str}(h:sc.names.lookup x=some .cell):∃c,(cellsFrom n sc.names []).lookup x=some c:=by
 have q:=fu _ n [] (.inl h);exact dj.mp q
theorem YK {CX:CXT}{P:Program}{w:World}{K:ae}{mg:Str->Option Value}{base:Heap}{N ps:List Str}{qual:Str}{scope:Scope}{f:Addr}{cd:Value}{A:Around}{outer:List Env}{s s1:Shared}{H:Hp}{E:XK}{us:List Value}{vs:List V}
  (S:ja N ps scope) (hd:A.handled=none) (e0:z1u P w K mg base A outer s H) (hl:vs.length=ps.length) (r:Vals vs us)
  (x:InCallC s s.heap.objs.size (bindL (envOfC qual scope s.heap.objs.size f cd).kindOf (ps.zip us) λ_=>none) (cellsFrom (s.heap.objs.size+1) scope.names []) (bindC (envOfC qual scope s.heap.objs.size f cd).kindOf (ps.zip us) λ_=>none) s1):
  Inv (Jw CX P w K mg base N qual scope f cd A outer s H E) [] (start N vs) H s1:=by
 have hpl:=by have:=congrArg List.length S.pre;rw[bL]at this;omega
 obtain⟨h1,tk,rfl,hk⟩:=x.done;have noA:∀b,b ∉ (Jw CX P w K mg base N qual scope f cd A outer s H E).ex:=λb z=>absurd (show b∈([]:List _) from z) (by simp)
 refine⟨⟨e0.mod,S.kind,rfl,rfl,am _,λy z c h1 h2=> ?_,λy hy=> ?_,λy c _ h=> ?_,λ_=>hd,Around.frames_deeper e0.frames,.inr ⟨rfl,rfl⟩,λb z=>absurd z (noA b),e0.bs,e0.bsz,λb _ _=>noA b,λb z=>absurd z (noA b),e0.funs,e0.frf⟩,
  rfl,e0.bare,Un.kept hk,⟨_,x.toInCall.ns,λi y v h1 h2 h3=> ?_⟩,λy c h=>⟨_,x.cell y c h⟩,e0.hok.fresh (am _),λy c h=> ?_,λp hp=>absurd (show p∈([]:List _) from hp) (by simp),e0.hok.kept hk, ?_⟩
 ·exact name_of_addr x.apart (cb h1) (cb h2)
 ·rcases hy with hy | hy
  ·exact UD hy
  ·exact absurd rfl (S.nofree _ (cb hy))
 ·exact fq (x.above y c (cb h))
 ·have hi:i < vs.length:=by
   unfold start at h2
   by_cases hi:i < vs.length
   ·exact hi
   ·rw[aO (by simpa using hi)]at h2
    rw[aF]at h2;split at h2 <;> cases h2
  have ha:vs[i]? =some v:=by
   unfold start at h2;rw[aR (by simpa using hi),aA]at h2
   cases e:vs[i]? with
   | none=>rw[e]at h2;cases h2
   | some a=>rw[e]at h2;cases h2;rfl
  obtain⟨u,hu,rv⟩:=r.get ha;have hp:ps[i]? =some y:=by
   rw[← S.pre,List.getElem?_take_of_lt (by omega)];exact h1
  have ndP:ps.Nodup:=by rw[← S.pre];exact S.nd.sublist (List.take_sublist _ _)
  refine⟨u,rv, ?_⟩;rcases S.par y (cB hp) with k | k
  ·exact .inl ⟨k,WU ndP hp hu k⟩
  ·obtain⟨c,e⟩:=UD k;refine .inr ⟨.inl k,c,e, ?_⟩;have q:=x.cell y c e;rw[WV ndP hp hu (by show scope.names.lookup y ≠ _;rw[k];decide)]at q
   exact q
 ·exact e0.hok.fresh (fq (x.above y c (cb h)))
 ·unfold start;show _=N.length;rw[ax,aa,aN];omega
theorem gY {CX:CXT}{P:Program}{w:World}{K:ae}{mg:Str->Option Value}{base:Heap}{k:Nat}{f:Addr}{name qual:Str}{params:Arguments}{body:List Stmt}{scope:Scope}{dV kV doc pm cdv ct oc:Value}{an od:Option Addr}
  {osl:Array (Option Value)} {N ps:List Str} {sp:Sp} (lk:K.lookup f=some ⟨oc,od,.func (cg name qual params body scope dV kV doc pm an cdv ct),osl⟩) (hcd:eA K cdv qual=true) (S:ja N ps scope)
  (len:∀vs H Q E,sp vs H Q E->vs.length=ps.length)
  (hbody:∀(A:Around) (outer:List Env) (s:Shared) (H:Hp) (vs:List V) (Q:VK) (E:XK),jq k (A.deeper (envOfC qual scope s.heap.objs.size f cdv))->sp vs H Q E->
   ∃t,PSs (Jw CX P w K mg base N qual scope f cdv A outer s H E) body t/\t { nx:=λ_ H' =>Q .non H',rt:=Q } (start N vs) H):
  ww P w K mg base CX (k+1) f (cg name qual params body scope dV kV doc pm an cdv ct) ps sp:=by
 refine⟨len,λA outer s H args us vs Q E hr e0 hb r hsp=> ?_⟩;have hl:=len _ _ _ _ hsp;have KX:=e0.mod.kin.keeps λb o e=>(e0.bs b o e).1;have lim:=e0.mod.nolimit.keeps λb o e=>(e0.bs b o e).1;have hkind:∀y∈ps.zip us,scope.names.lookup y.1=some _\/(scope.names.lookup y.1=some _/\((cellsFrom (s.heap.objs.size+1) _ []).lookup y.1).isSome=true):=λ⟨n,v⟩ hy=>by
  rcases S.par n (c8 hy).1 with q | q
  ·exact .inl q
  ·exact .inr ⟨q,fu _ _ _ (.inl q)⟩
 refine codeAny_call_function hr.depth (KX _ _ lk) rfl S.co S.gen rfl (PySem.W.codeRec_of KX hcd) (hb _ _ _ _ ?_);refine wpAny_newFunctionEnv_cells S.kind hkind λenv he s1 x=> ?_;subst he;refine⟨lim.keeps x.toInCall.keep,codeAny_func ?_⟩;obtain⟨t,ht,hq⟩:=hbody A _ s H vs Q E (hr.deeper _) hsp;have I:Inv (Jw CX P w K mg _ N _ _ f cdv A _ s H E) [] _ H s1:=YK S hr.hd e0 hl r x;refine c7 (ht [] s1 _ H _ I hq) (λfl s' hs=> ?_) λe s' hs=>hs;have fin:∀{σ' :St} {H' :Hp} {v:V} {u:Value},Inv (Jw CX P w K mg base N qual scope f cdv A outer s H E) [] σ' H' s' ->RelV v u->Q v H' ->CE _ P w H s Q u s' :=
  λ{σ' H' v u} J rv q=>⟨v,H',J.os,J.bare,J.base,J.hok,rv,q⟩
 cases fl with
 | ret u=>
  obtain⟨v,σ',H',J,rv,q⟩:=hs;exact fin J rv q
 | next=>
  obtain⟨σ',H',J,q⟩:=hs;exact fin (v:=V.non) J rfl q
 | brk=>
  obtain⟨_,_,_,q⟩:=hs;exact cQ q
 | cont=>
  obtain⟨_,_,_,q⟩:=hs;exact cQ q
end L2
namespace L2
open PySem PySem.Spec PyProof.Rows
section
variable {X:Cx}{x:Str}{p pos:Pos}{e:Expr}{es:List Expr}{t:TA}{id T:String}{r:List V->Hp->VK->Prop}
def tCB (r:List V->Hp->VK->Prop)(t:TA):TE:=λσ H Q=>t σ H λvs H1=>r vs H1 Q
theorem j0 (hc:Zk X (.builtin id) r)(hg:Gl X x)(hm:X.mg x=none)(hv:bootBuiltins x=some (.builtin id))(ha:PA X (e :: es) t)(hn:x ≠ "__name__":=by decide)(hdb:(x == ("__debug__":Str))=false:=by decide)
  (he:starEach (e :: es) X.env=(false,eval e X.env) :: starEach es X.env:=by rfl) (hpl:(backTo pos (starEach es X.env)).any (·.1)=false:=by rfl):PE X (.Call (.Name x p) (e :: es) [] pos) (tCB r t):=by
 intro pins s σ H Q I h;refine wpAny_Call_Name_kw (j9 I hg hm hv ?_ hn hdb);exact PyProof.Rows.callWith_builtin1 (thn (ha pos _ s σ H _ I h) λus s1 ⟨vs,H1,I1,r1,q1⟩=>hc _ s1 σ H1 vs us Q I1 r1 q1) he hpl
theorem jb (hc:Zk X (.type T) r)(hg:Gl X x)(hm:X.mg x=none)(hv:bootBuiltins x=some (.type T))(ha:PA X (e :: es) t)(hn:x ≠ "__name__":=by decide)(hdb:(x == ("__debug__":Str))=false:=by decide)
  (he:starEach (e :: es) X.env=(false,eval e X.env) :: starEach es X.env:=by rfl) (hpl:(backTo pos (starEach es X.env)).any (·.1)=false:=by rfl):PE X (.Call (.Name x p) (e :: es) [] pos) (tCB r t):=by
 intro pins s σ H Q I h;refine wpAny_Call_Name_kw (j9 I hg hm hv ?_ hn hdb);exact aT (thn (ha pos _ s σ H _ I h) λus s1 ⟨vs,H1,I1,r1,q1⟩=>hc _ s1 σ H1 vs us Q I1 r1 q1) he hpl
end
end L2
namespace HT
open PySem PyProof.Rows
section
open PySem.SeqAt
open PySem.AutoSeq1 (wpAny_loadPart')
open PySem.MeetsSeq PySem.MeetsSeq2 PySem.MeetsSeq3
end
section
theorem cat_tup (ht:IsTup s.heap t vs.toArray)(hb:IsTup s.heap b ws.toArray)(hv:vs ≠ [])
  (h1:ws=[]->Q (.ref t) s) (h2:ws ≠ []->Q (.ref s.heap.objs.size) { s with heap:=s.heap.push { cls:= .type "tuple",data:= .seq (vs++ws).toArray } })
  (hsz:vs.length+ws.length<=sizeLine):wpAny (model prog w) A (binaryOp .Add (.ref t) (.ref b)) Q E s:=by
 obtain⟨⟨cls,dd,data,sl⟩,ho,hc,n,hd⟩:=id ht;obtain⟨⟨cls2,dd2,data2,sl2⟩,ho2,hc2,n2,hd2⟩:=id hb;subst hc hd hc2 hd2;have e:vs.toArray++ws.toArray=(vs++ws).toArray:=by simp
 by_cases hw:ws=[]
 ·exact concat_meets ⟨_,ho,rfl⟩ ⟨_,ho2,rfl⟩ noFill_tuple_add seq_tuple_add dD dv (dk _ _)
   (tuple_addW1 t b _ _ n n2 dd dd2 sl sl2 (by simpa using hv) (by simp[hw])) ⟨ho,ho2,h1 hw⟩
 ·refine concat_meets ⟨_,ho,rfl⟩ ⟨_,ho2,rfl⟩ noFill_tuple_add seq_tuple_add dD dv (dk _ _)
   (tuple_addW2 t b _ _ n n2 dd dd2 sl sl2 (by simpa using hv) (by simpa using hw) (by exact hsz)) ⟨ho,ho2, ?_⟩
  rw[e];exact h2 hw
noncomputable def sIx (n d:Nat):Option Int->Nat
 | none=>d
 | some v=>if v < 0 then (v+(n:Int)).toNat else min v.toNat n
theorem sIx_none (n d:Nat):sIx n d none=d:=rfl
theorem sIx_nat (n d k:Nat):sIx n d (some (k:Int))=min k n:=by
 show (if (k) < 0 then ((k:Int)+(n)).toNat else min _ n)=min k n
 rw[if_neg (by omega),aY]
theorem YL (v:Int)(n d:Nat):(if v < 0 then max (v+(n:Int)) 0 else min v (n:Int))=((sIx n d (some v):Nat):Int):=by
 show (if v < 0 then max _ 0 else min v (n))=(((if v < 0 then (v+(n)).toNat else min _ n):Nat):Int)
 by_cases hv:v < 0
 ·simp only[if_pos hv];omega
 ·simp only[if_neg hv];omega
theorem yN (lo hi:Option Int)(n:Nat):eJ lo hi 1 (n:Int)=(((sIx n 0 lo:Nat):Int),((sIx n n hi:Nat):Int)):=by
 refine Prod.ext ?_ ?_
 ·cases lo with
  | none=>rfl
  | some v=>exact YL v n 0
 ·cases hi with
  | none=>rfl
  | some v=>exact YL v n n
theorem yO (i j:Nat):df (i:Int) (j:Int) 1=j - i:=by
 unfold df;split <;> omega
theorem wH {o:Option Int}{Q:Option Int->Shared->Prop}(p:IsPart v o)(h:Q o s):wpAny (model prog w) A (Builtin.Slice.slicePartIndex v) Q E s:=by
 cases p with
 | none=>exact slicePart_none h
 | int i t=>exact slicePart_int h
theorem sliceApplied_gen {lo hi:Option Int}{Q:Int×Int×Nat->Shared->Prop}(hs:s.heap.IsSliceOf sl vl vu .none)(pl:IsPart vl lo)(pu:IsPart vu hi)
  (h:Q (((sIx n 0 lo:Nat):Int),1,sIx n n hi - sIx n 0 lo) s):wpAny (model prog w) A (Builtin.Slice.sliceApplied (.ref sl) (pure (n:Int))) Q E s:=by
 obtain⟨os,hos,hcs,hds⟩:=id hs;refine a7 (a7 (bn hos hds rfl (a7 (bn hos hds rfl (a7 (bn hos hds rfl (ar ?_)))))));refine a7 (slicePart_none ?_);refine a7 (wH pl (a7 (wH pu (a7 (ar ?_)))));show wpAny _ _ (match eJ lo hi 1 _ with | (lo,hi)=>pure (lo,(1:Int),df lo hi 1)) _ _ s
 rw[yN lo hi n];show wpAny _ _ (pure _) _ _ s;rw[yO];exact ar h
theorem V0 (xs:Array Value)(i k:Nat):((aX k).filterMap λ(m:Nat)=>xs[((i:Int)+(m:Int)*1).toNat]?).toArray=((xs.toList.drop i).take k).toArray:=by
 have e:(λ(m:Nat)=>xs[((i:Int)+(m)*1).toNat]?)=λm=>xs[i+m]? :=by
  funext m
  have:((i:Int)+(m)*1).toNat=i+m:=by omega
  rw[this]
 rw[e];have:=pick_run xs i k;rw[List.filterMap_map]at this;have e2:((λx=>xs[x]?) ∘ λx=>i+x)=λm=>xs[i+m]? :=rfl;rw[e2]at this;rw[this]
theorem getItem_tuple_cut {lo hi:Option Int}(ht:IsTup s.heap t items)(hs:s.heap.IsSliceOf sl vl vu .none)(pl:IsPart vl lo)(pu:IsPart vu hi)
  (hw:¬ (sIx items.size 0 lo=0/\sIx items.size items.size hi=items.size))
  (h:Q (.ref s.heap.objs.size) { s with heap:=s.heap.push { cls:= .type "tuple",data:= .seq ((items.toList.drop (sIx items.size 0 lo)).take (sIx items.size items.size hi - sIx items.size 0 lo)).toArray } })
  (hsz:items.size<=sizeLine):wpAny (model prog w) A (getItem (.ref t) (.ref sl)) Q E s:=by
 have htake:sizeOk (.seq ((items.toList.drop (sIx items.size 0 lo)).take (sIx items.size items.size hi - sIx items.size 0 lo)).toArray):=by
  show ((items.toList.drop _).take _).toArray.size<=sizeLine;rw[aE,bL,cq,dR];omega
 obtain⟨os,hos,hcs,hds⟩:=id hs;have hTs:s.TypeIs (.ref sl) _:=⟨os,hos,hcs⟩;unfold getItem
 try with_reducible refine ck ?_
 refine a7 (wpAny_sequenceKey ht.typeIs (by decide) ?_)
 refine a7 (bz ht.typeIs bq
  (bV bq ht.typeIs entry_tuple_getitem ?_ (args_tuple_getitem _ _)))
 show wpAny _ _ (eB _ >>= _) _ _ s;refine a7 (tupleItemsOf_ ht ?_);refine a7 (db hTs ?_);refine a7 (sliceApplied_gen hs pl pu ?_);have hno:¬ ((((sIx items.size 0 lo):Int) == 0 && (1:Int) == 1 && (sIx items.size items.size hi - sIx items.size 0 lo) == items.size)=true):=by
  intro q;rw[ac,ac]at q;have q1:=eq_of_beq q.1.1;have q2:=eq_of_beq q.2;exact hw ⟨by omega,by omega⟩
 show wpAny _ _ (if (((sIx _ 0 lo:Nat):Int) == 0 && (1) == 1 && (sIx _ _ hi - sIx _ 0 lo) == items.size)=true then _ else _) _ _ s
 rw[if_neg hno,V0]
 first
  | exact a7 (bv (ar ⟨_,rfl,ar h⟩) htake)
  | exact a7 _
  | exact a7 _
  | exact a7 _
end
end HT
namespace L2
open PySem PySem.Spec PyProof.Rows
abbrev TO:=St->Hp->(Option Int->Hp->Prop)->Prop
def PO (X:Cx)(e:Option Expr)(t:TO):Prop:=
 ∀(pins:List (Addr×Obj)) (s:Shared) (σ:St) (H:Hp) (Q:Option Int->Hp->Prop),Inv X pins σ H s->t σ H Q->
  wpAny (model X.prog X.w) X.A (evalPart e X.env) (λu s' =>∃o H',Inv X pins σ H' s' /\IsPart u o/\Q o H') X.xe s
def XF:TO:=λ_ H Q=>Q none H
def z2w (t:TE):TO:=λσ H Q=>t σ H λx H1=>∃i,x= .int i/\Q (some i) H1
section
variable {X:Cx}{e:Expr}{te:TE}{lo hi:Option Expr}{tl th:TO}{pos p2:Pos}
theorem XG:PO X none XF:=by
 intro pins s σ H Q I h;exact ar ⟨none,H,I,.none,h⟩
theorem XH (h:PE X e te):PO X (some e) (z2w te):=by
 intro pins s σ H Q I hw;refine thn (h _ s σ H _ I hw) λu s1 ⟨x,H1,I1,r1,q1⟩=> ?_;obtain⟨i,rfl,q⟩:=q1;obtain⟨t,rfl⟩:=r1;exact⟨some i,H1,I1,.int i t,q⟩
def SlR (X:Cx)(r:V->Option Int->Option Int->Hp->VK->Prop):Prop:=
 ∀(pins:List (Addr×Obj)) (s:Shared) (σ:St) (H:Hp) (x:V) (v vl vu:Value) (lo hi:Option Int) (sl:Addr) (Q:VK),Inv X pins σ H s->RelV x v->s.heap.IsSliceOf sl vl vu .none->IsPart vl lo->IsPart vu hi->r x lo hi H Q->
  ∃T id,typeLookup (.type T) "__getitem__"=pure (some (.builtin id))/\s.TypeIs v T/\wpAny (model X.prog X.w) X.A (getItem v (.ref sl)) (EP X pins σ Q) X.xe s
theorem SlR.or {r r' :V->Option Int->Option Int->Hp->VK->Prop}(h:SlR X r)(h' :SlR X r'):SlR X (λx lo hi H Q=>r x lo hi H Q\/r' x lo hi H Q):=by
 intro pins s σ H x v vl vu lo hi sl Q I rx hs pl pu q;rcases q with q | q
 ·exact h _ s σ H x v vl vu lo hi sl Q I rx hs pl pu q
 ·exact h' _ s σ H x v vl vu lo hi sl Q I rx hs pl pu q
def tSl (r:V->Option Int->Option Int->Hp->VK->Prop)(te:TE)(tl th:TO):TE:=λσ H Q=>te σ H λx H1=>tl σ H1 λl H2=>th σ H2 λu H3=>r x l u H3 Q
theorem V1 {r:V->Option Int->Option Int->Hp->VK->Prop}(hr:SlR X r)(he:PE X e te)(hl:PO X lo tl)(hu:PO X hi th):PE X (.Subscript e (.Slice lo hi none p2) pos) (tSl r te tl th):=by
 intro pins s σ H Q I h;refine Subscript_ (thn (he _ s σ H _ I h) λv s1 ⟨x,H1,I1,r1,q1⟩=> ?_);refine wpAny_Slice (thn (hl _ s1 σ H1 _ I1 q1) λvl s2 ⟨l,H2,I2,pl,q2⟩=>thn (hu _ s2 σ H2 _ I2 q2) λvu s3 ⟨u,H3,I3,pu,q3⟩=> ?_);refine ar ?_;have I4:Inv X _ σ H3 { s3 with heap:=s3.heap.push { cls:= .type "slice",data:= .fields #[vl,vu,.none] } }:=I3.kept λb ob q=>ag _ q;obtain⟨T,id,hT,ht,hg⟩:=hr _ _ σ H3 x v vl vu l u _ Q I4 r1 (Heap.IsSliceOf.new ..) pl pu q3;exact tail_any ht hT hg (by with_unfolding_all rfl)
noncomputable def gh (xs:List V)(lo hi:Option Int):List V:=(xs.drop (HT.sIx xs.length 0 lo)).take (HT.sIx xs.length xs.length hi - HT.sIx xs.length 0 lo)
theorem JJ (xs:List V)(lo hi:Option Int):(gh xs lo hi).length<=xs.length:=by
 unfold gh;rw[bL,cq];omega
def rSlT (K:ae):V->Option Int->Option Int->Hp->VK->Prop:=λx lo hi H Q=>∃a xs,x= .ref a/\SqT K H a xs/\
 ¬ (HT.sIx xs.length 0 lo=0/\HT.sIx xs.length xs.length hi=xs.length)/\∀p,H p=none->Q (.ref p) (upd H p (.tup (gh xs lo hi)))
theorem gZ:SlR X (rSlT X.K):=by
 intro pins s σ H x v vl vu lo hi sl Q I rx hs pl pu h;obtain⟨a,xs,rfl,hx,hw,q⟩:=h;cases rx;obtain⟨its,r,ht,hz⟩:=I.tuple hx;have hlen:its.toArray.size=xs.length:=by exact r.length.symm
 refine⟨"tuple",_,bq.lookup,ht.typeIs, ?_⟩;refine HT.getItem_tuple_cut ht hs pl pu (by rw[hlen];exact hw) ?_ (by rw[hlen];exact hz)
 rw[hlen];refine⟨.ref _,_,I.laid (λb ob q=>ag _ q) (am _) ?_,rfl,q _ (I.hok.fresh (am _))⟩;exact⟨ao (JJ xs lo hi) hz,_,(r.drop _).take _,ITN.new _ _⟩
def z2x (K:ae):R2:=λx y H Q=>∃a b xs ys,x= .ref a/\y= .ref b/\SqT K H a xs/\SqT K H b ys/\xs ≠ []/\xs.length+ys.length<=sizeLine/\
 (ys=[]->Q (.ref a) H)/\(ys ≠ []->∀p,H p=none->Q (.ref p) (upd H p (.tup (xs++ys))))
theorem Vals.nil_iff (r:Vals xs us):us=[]↔xs=[]:=by
 cases r with
 | nil=>simp
 | cons _ _=>simp
theorem XI:OpR X (binaryOp .Add) (z2x X.K):=by
 intro pins s σ H x y v u Q I rx ry h;obtain⟨a,b,xs,ys,rfl,rfl,ha,hb,hx,hz,q1,q2⟩:=h;cases rx;cases ry;obtain⟨its,r1,p1,_⟩:=I.tuple ha;obtain⟨its2,r2,p2,_⟩:=I.tuple hb;refine HT.cat_tup p1 p2 (λz=>hx (r1.nil_iff.mp z)) (λz=>⟨.ref a,H,I,rfl,q1 (r2.nil_iff.mp z)⟩) (λz=> ?_) (by rw[← r1.length,← r2.length];exact hz)
 refine⟨.ref _,_,I.laid (λb ob q=>ag _ q) (am _) ?_,rfl,q2 (λw=>z (r2.nil_iff.mpr w)) _ (I.hok.fresh (am _))⟩;exact⟨by rw[ax];exact hz,_,r1.append r2,ITN.new _ _⟩
end
end L2
namespace L2
open PySem PySem.Spec PyProof.Rows
noncomputable def ixN (n:Nat)(i:Int):Option Nat:=if 0<=i then (if i < n then some i.toNat else none) else if -(n:Int)<=i then some (i+n).toNat else none
def atI {α:Type}(xs:List α)(i:Int):Option α:=(ixN xs.length i).bind λj=>xs[j]?
theorem XJ (h:ixN n i=some j):seqIndex? i n=some j/\j < n/\ -(n:Int)<=i/\i < n:=by
 unfold ixN at h
 by_cases h0:0<=i
 ·rw[if_pos h0]at h
  by_cases h1:i < n
  ·rw[if_pos h1]at h;have e:=aL h;exact⟨by rw[seqIndex_of h0 h1,e],by omega,by omega,h1⟩
  ·rw[if_neg h1]at h;cases h
 ·rw[if_neg h0]at h
  by_cases h1: -(n)<=i
  ·rw[if_pos h1]at h;have e:=aL h;exact⟨by rw[seqIndex_neg (by omega) h1,e],by omega,h1,by omega⟩
  ·rw[if_neg h1]at h;cases h
theorem uT {α:Type}{xs:List α}{v:α}(h:atI xs i=some v):∃j,seqIndex? i xs.length=some j/\xs[j]? =some v/\j < xs.length/\ -(xs.length:Int)<=i/\i < xs.length:=by
 unfold atI at h;cases e:ixN _ i with
 | none=>rw[e]at h;cases h
 | some j=>
  rw[e]at h;obtain⟨h1,h2,h3,h4⟩:=XJ e;exact⟨j,h1,h,h2,h3,h4⟩
theorem Zw {α:Type}{xs:List α}{j:Nat}{v:α}(h:xs[j]? =some v):atI xs (j:Int)=some v:=by
 have hj:=(au.mp h).1;have e:ixN xs.length (j)=some j:=by
  unfold ixN;rw[if_pos (by omega),if_pos (by omega)];simp
 unfold atI;rw[e];exact h
noncomputable def YM (b:Expr):Prop:=∀o i,subscripted b false o i=operate [o,i] (getItem o i)
def IxR (X:Cx)(r:R2):Prop:=
 ∀(value slice:Expr) (pins:List (Addr×Obj)) (s:Shared) (σ:St) (H:Hp) (x y:V) (v u:Value) (Q:VK),Inv X pins σ H s->RelV x v->RelV y u->r x y H Q->
  subscripted slice false v u=operate [v,u] (getItem v u)->wpAny (model X.prog X.w) X.A (subscriptTail value slice v u) (EP X pins σ Q) X.xe s
def MtR (X:Cx)(id:String)(r:V->List V->Hp->VK->Prop):Prop:=
 ∀(pins:List (Addr×Obj)) (s:Shared) (σ:St) (H:Hp) (x:V) (xs:List V) (v:Value) (us:List Value) (Q:VK),Inv X pins σ H s->RelV x v->Vals xs us->r x xs H Q->
  wpAny (model X.prog X.w) X.A (call (.builtin id) (v :: us)) (EP X pins σ Q) X.xe s
section
variable {X:Cx}{a b:Expr}{ta tb:TE}{pos:Pos}
theorem IxR.or (h:IxR X r)(h' :IxR X r'):IxR X (λx y H Q=>r x y H Q\/r' x y H Q):=by
 intro value slice pins s σ H x y v u Q I rx ry q hs;rcases q with q | q
 ·exact h _ _ _ s σ H x y v u Q I rx ry q hs
 ·exact h' _ _ _ s σ H x y v u Q I rx ry q hs
theorem G1 (hr:IxR X r)(ha:PE X a ta)(hb:PE X b tb)(hs:YM b):PE X (.Subscript a b pos) (tOp r ta tb):=by
 intro pins s σ H Q I h;exact Subscript_ (z2m ha hb I h λv u s2 x y H2 I2 rx ry q=>hr a b _ s2 σ H2 x y v u Q I2 rx ry q (hs _ _))
def rIxL (K:ae):R2:=λx y H Q=>∃p xs i v,x= .ref p/\y= .int i/\SqL K H p xs/\atI xs i=some v/\Q v H
def rIxT (K:ae):R2:=λx y H Q=>∃p xs i v,x= .ref p/\y= .int i/\SqT K H p xs/\atI xs i=some v/\Q v H
def rIxS:R2:=λx y H Q=>∃z i c,x= .str z/\y= .int i/\z.length<=sizeLine/\atI z.cps.toList i=some c/\Q (.str ⟨#[c]⟩) H
theorem XL:IxR X (rIxL X.K):=by
 intro value slice pins s σ H x y v u Q I rx ry h hs;obtain⟨p,xs,i,z,rfl,rfl,hq,he,q⟩:=h;cases rx;obtain⟨t,rfl⟩:=ry;obtain⟨its,r,pl,hz⟩:=I.list hq;obtain⟨j,h1,h2,h3,h4,h5⟩:=uT he;obtain⟨w,ew,rw'⟩:=r.get h2;have hl:=r.length;have hn:=WR;have fin:EP X _ σ Q w s:=⟨z,H,I,rw',q⟩
 by_cases h0:0<=i
 ·have hj:=by
   rw[seqIndex_of h0 h5]at h1;exact aL h1
  exact item_listR pl.isList h0 (by omega) (by rw[hj];simpa using ew) fin hs
 ·have hj:(i+(its.toArray.size)).toNat=j:=by
   rw[seqIndex_neg (by omega) h4]at h1
   rw[aE,← hl];exact aL h1
  exact subscriptTail_builtinR pl.isList.typeIs slot_list_getitem.lookup
   (wpAny_getItem_list_neg pl.isList (by omega) (by rw[aE] <;> omega) (by omega) (by rw[hj];simpa using ew) ⟨rfl,fin⟩) hs
theorem G4:IxR X (rIxT X.K):=by
 intro value slice pins s σ H x y v u Q I rx ry h hs;obtain⟨p,xs,i,z,rfl,rfl,hq,he,q⟩:=h;cases rx;obtain⟨t,rfl⟩:=ry;obtain⟨its,r,pl,hz⟩:=I.tuple hq;obtain⟨j,h1,h2,h3,h4,h5⟩:=uT he;obtain⟨w,ew,rw'⟩:=r.get h2;have hl:=r.length;have hn:=WR;have fin:EP X _ σ Q w s:=⟨z,H,I,rw',q⟩;exact subscriptTail_builtinR pl.typeIs slot_tuple_getitem.lookup
  (getItem_tuple pl (by omega) (by omega) (by rw[aE,← hl];exact h1) (by simpa using ew) ⟨rfl,fin⟩) hs
theorem G5:IxR X rIxS:=by
 intro value slice pins s σ H x y v u Q I rx ry h hs;obtain⟨z,i,c,rfl,rfl,hz,he,q⟩:=h;obtain⟨t,rfl⟩:=rx;obtain⟨t',rfl⟩:=ry;obtain⟨j,h1,h2,h3,h4,h5⟩:=uT he;have hl:z.cps.toList.length=z.length:=by simp[i5]
 rw[hl]at h1 h4 h5;have hn:=WR;exact tail_any (typeIs_str s z t) slot_str_getitem.lookup (getItem_str (by
  have e1:decide (i < -(2 ^ 63))=false:=decide_eq_false (by omega)
  have e2:decide (i ≥ 2 ^ 63)=false:=decide_eq_false (by omega)
  rw[e1,e2,Bool.or_false]) (by rw[h1];simpa using h2) ⟨.str _,H,I.tok _,⟨_,rfl⟩,q⟩) hs
def rIx (K:ae):R2:=λx y H Q=>rIxL K x y H Q\/rIxT K x y H Q\/rIxS x y H Q
theorem G6:IxR X (rIx X.K):=XL.or (G4.or G5)
theorem WW (lo hi:Option Int)(n:Nat):(sliceBounds lo hi none n).1=((HT.sIx n 0 lo:Nat):Int)/\(sliceBounds lo hi none n).2.1=((HT.sIx n n hi:Nat):Int)/\(sliceBounds lo hi none n).2.2=1:=by
 refine⟨?_, ?_,rfl⟩
 ·cases lo with
  | none=>simp[sliceBounds,HT.sIx]
  | some i=>
   simp only[sliceBounds,HT.sIx,iK,show (1) > 0 by decide,if_true]
   by_cases h:i < 0
   ·simp only[h,if_true] <;> omega
   ·simp only[h,if_false] <;> omega
 ·cases hi with
  | none=>simp[sliceBounds,HT.sIx]
  | some i=>
   simp only[sliceBounds,HT.sIx,iK,show (1) > 0 by decide,if_true]
   by_cases h:i < 0
   ·simp only[h,if_true] <;> omega
   ·simp only[h,if_false] <;> omega
theorem W6 (its:List Value)(lo hi:Option Int):slicePick its.toArray lo hi none=((its.drop (HT.sIx its.length 0 lo)).take (HT.sIx its.length its.length hi - HT.sIx its.length 0 lo)).toArray:=by
 obtain⟨h1,h2,h3⟩:=WW lo hi _;unfold slicePick;rw[h1,h2,h3];simp only[sliceRange_one,pick_run,aE] <;> rfl
def rSlL (K:ae):V->Option Int->Option Int->Hp->VK->Prop:=λx lo hi H Q=>∃a xs,x= .ref a/\SqL K H a xs/\∀p,H p=none->Q (.ref p) (upd H p (.lst (gh xs lo hi)))
theorem XM:SlR X (rSlL X.K):=by
 intro pins s σ H x v vl vu lo hi sl Q I rx hs pl pu h;obtain⟨a,xs,rfl,hx,q⟩:=h;cases rx;obtain⟨its,r,ht,hz⟩:=I.list hx;have hlen:=r.length;refine⟨"list",_,slot_list_getitem.lookup,ht.isList.typeIs, ?_⟩;refine wpAny_getItem_list_slice ht.isList hs pl pu .none (by simp) ?_ (by rw[aE] <;> omega)
 rw[W6,← hlen];refine⟨.ref _,_,I.laid (λb ob q=>ag _ q) (am _) ?_,rfl,q _ (I.hok.fresh (am _))⟩;exact⟨ao (JJ xs lo hi) hz,_,0,(r.drop _).take _,aj _ rfl⟩
theorem WX:Zk X (.builtin "len") (λxs H Q=>∃p ys,xs=[.ref p]/\(SqL X.K H p ys\/SqT X.K H p ys)/\Q (.int ys.length) H):=by
 intro pins s σ H xs us Q I r h;obtain⟨p,ys,rfl,hq,q⟩:=h;obtain⟨u,rfl,rx⟩:=Zv r;cases rx;have hn:=WR;rcases hq with hq | hq
 ·obtain⟨its,r',pl,hz⟩:=I.list hq;have hlen:=r'.length;exact Calls.call_len_list pl.isList (by simp only[aE] <;> omega) ⟨.int _,H,I.tok _,⟨s.toks+1,by rw[aE,hlen]⟩,q⟩
 ·obtain⟨its,r',pl,hz⟩:=I.tuple hq;have hlen:=r'.length;exact len_tuple pl (by simp only[aE] <;> omega) ⟨.int _,H,I.tok _,⟨s.toks+1,by rw[aE,hlen]⟩,q⟩
theorem WY:Zk X (.builtin "len") (λxs H Q=>∃z,xs=[.str z]/\z.length<=sizeLine/\Q (.int z.length) H):=by
 intro pins s σ H xs us Q I r h;obtain⟨z,rfl,hz,q⟩:=h;obtain⟨u,rfl,t,rfl⟩:=Zv r;have hn:=WR;exact len_str (by omega) ⟨.int _,H,I.tok _,⟨_,rfl⟩,q⟩
theorem Zk.or {r r' :List V->Hp->VK->Prop}(h:Zk X f r)(h' :Zk X f r'):Zk X f (λxs H Q=>r xs H Q\/r' xs H Q):=by
 intro pins s σ H xs us Q I rs q;rcases q with q | q
 ·exact h _ s σ H xs us Q I rs q
 ·exact h' _ s σ H xs us Q I rs q
theorem W7:Zk X (.type "tuple") (λxs H Q=>∃p ys,xs=[.ref p]/\((SqL X.K H p ys/\∀l,H l=none->Q (.ref l) (upd H l (.tup ys)))\/(SqT X.K H p ys/\Q (.ref p) H))):=by
 intro pins s σ H xs us Q I r h;obtain⟨p,ys,rfl,h⟩:=h;obtain⟨u,rfl,rx⟩:=Zv r;cases rx;rcases h with ⟨hq,q⟩ | ⟨hq,q⟩
 ·obtain⟨its,r',pl,hz⟩:=I.list hq;have hlen:=r'.length;refine call_tuple_list pl.isList (λh' kp=> ?_) (by simp only[aE] <;> omega)
  have I1:Inv X _ σ H { s with heap:=h' }:=I.kept kp;have I2:Inv X _ σ (upd H _ (.tup ys)) { s with heap:=h'.push _ }:=
   I1.laid (λb o e=>ag _ e) (am _) (show Z1 _ X.w _ _ _ _ from ⟨hz,its,r',ITN.new _ _⟩)
  exact⟨.ref _,_,I2,rfl,q _ (I1.hok.fresh (am _))⟩
 ·obtain⟨its,r',pl,hz⟩:=I.tuple hq;exact call_tuple_same pl ⟨.ref p,H,I,rfl,q⟩
def tyV (K:ae)(T:String)(x:V)(H:Hp):Prop:=match x with
 | .str _=>T="str"
 | .int _=>T="int"
 | .ref p=>(T="list"/\∃xs,SqL K H p xs)\/(T="tuple"/\∃o,K.lookup p=some o/\o.cls= .type "tuple"/\o.dict=none)\/
   (T="dict"/\((∃kvs,H p=some (.dK kvs))\/∃kvs,H p=some (.dT kvs)))\/(T="set"/\∃S n,H p=some (.set S n))
 | _=>False
theorem xD (I:Inv X pins σ H s)(r:RelV x v)(ty:tyV X.K T x H):
  s.TypeIs v T/\∀a,v= .ref a->∃ob,s.heap.get? a=some ob/\ob.dict=none:=by
 cases x with
 | str z=>
  obtain⟨t,rfl⟩:=r;cases (ty);exact⟨typeIs_str s z t,λ_ e=>nomatch e⟩
 | int i=>
  obtain⟨t,rfl⟩:=r;cases (ty);exact⟨typeIs_int s i t,λ_ e=>nomatch e⟩
 | ref p=>
  cases r;rcases ty with ⟨rfl,xs,hq⟩ | ⟨rfl,o,hk,hc,hd⟩ | ⟨rfl,hk⟩ | ⟨rfl,S,n,hk⟩
  ·obtain⟨its,_,pl,_⟩:=I.list hq;refine⟨pl.isList.typeIs,λa e=> ?_⟩;cases e;obtain⟨o,n,e,c,hd,_⟩:=pl;exact⟨o,e,hd⟩
  ·refine⟨⟨o,I.kIn p o hk,hc⟩,λa e=> ?_⟩;cases e;exact⟨o,I.kIn _ o hk,hd⟩
  ·have z:∃o,s.heap.get? p=some o/\o.ExactDict:=by
    rcases hk with ⟨kvs,hk⟩ | ⟨kvs,hk⟩
    ·obtain⟨_,_,_,_,o,_,_,e,ex,_⟩:=I.hok p _ hk;exact⟨o,e,ex⟩
    ·obtain⟨_,_,_,_,o,_,_,e,ex,_⟩:=I.hok p _ hk;exact⟨o,e,ex⟩
   obtain⟨o,e,ex⟩:=z;refine⟨⟨o,e,ex.1⟩,λa e2=> ?_⟩;cases e2;exact⟨o,e,ex.2.1⟩
  ·obtain⟨o,_,_,_,e,ex,_⟩:=I.hok p _ hk;refine⟨⟨o,e,ex.1⟩,λa e2=> ?_⟩;cases e2;exact⟨o,e,ex.2.1⟩
 | _=>exact cQ ty
def tBM0 (K:ae)(T:String)(r:V->List V->Hp->VK->Prop)(to:TE):TE:=λσ H Q=>to σ H λx H1=>tyV K T x H1/\r x [] H1 Q
def tBM (K:ae)(T:String)(r:V->List V->Hp->VK->Prop)(to:TE)(t:TA):TE:=λσ H Q=>to σ H λx H1=>tyV K T x H1/\t σ H1 λxs H2=>r x xs H2 Q
variable {o e:Expr}{es:List Expr}{to:TE}{t:TA}{name:Str}{apos cpos:Pos}{T id:String}{r:V->List V->Hp->VK->Prop}
theorem G7 (pa:PlainAttrs T)(slot:Slot T name id)(hty:typeOf (.builtin id)=pure (.type "method_descriptor"))(hm:MtR X id r)(ho:PE X o to)
  (hbase:attributeBase o name X.env (eval o X.env)=eval o X.env:=by rfl) (hline:(apos.endLine == cpos.line)=true:=by rfl):PE X (.Call (.Attribute o name apos) [] [] cpos) (tBM0 X.K T r to):=by
 intro pins s σ H Q I h;refine wpAny_Call_method0_late hbase hline (thn (ho _ s σ H _ I h) λv s1 ⟨x,H1,I1,r1,ty,q1⟩=> ?_);obtain⟨h1,h2⟩:=xD I1 r1 ty;exact⟨T,id,pa,slot,hty,h1,h2,fw rfl (PySem.evalArgs_none (hm _ s1 σ H1 x [] v [] Q I1 r1 .nil q1))⟩
theorem YN (pa:PlainAttrs T)(slot:Slot T name id)(hty:typeOf (.builtin id)=pure (.type "method_descriptor"))(hm:MtR X id r)(ho:PE X o to)(ha:PA X (e :: es) t)
  (hbase:attributeBase o name X.env (eval o X.env)=eval o X.env:=by rfl)
  (hfew:((backTo cpos (starEach (e :: es) X.env)).all (λx=> !x.1) && (backToKw cpos (keywordEach [] X.env)).all (λx=>x.1.isSome)
   && decide ((e :: es).length+([]:List Keyword).length+(if ([]:List Keyword).isEmpty then 0 else 1) < 30))=true:=by rfl)
  (hline:(apos.endLine == cpos.line)=true:=by rfl) (hs:starEach (e :: es) X.env=(false,eval e X.env) :: starEach es X.env:=by rfl) (hplain:(backTo cpos (starEach es X.env)).any (·.1)=false:=by rfl):
  PE X (.Call (.Attribute o name apos) (e :: es) [] cpos) (tBM X.K T r to t):=by
 intro pins s σ H Q I h;refine wpAny_Call_method_late hbase hfew hline rfl (thn (ho _ s σ H _ I h) λv s1 ⟨x,H1,I1,r1,ty,q1⟩=> ?_);obtain⟨h1,h2⟩:=xD I1 r1 ty;refine⟨T,id,pa,slot,hty,h1,h2, ?_⟩;have hA:=ha cpos _ s1 σ H1 _ I1 q1;rw[hs]at hA ⊢;refine fw (by show (false || (backTo _ _).any _)=false;rw[hplain] <;> rfl) (fR ?_)
 exact thn hA λus s2 ⟨vs,H2,I2,r2,q2⟩=>hm _ s2 σ H2 x vs v us Q I2 r1 r2 q2
end
end L2
namespace L2
open PySem PySem.Spec PyProof.Rows
def MtM (X:Cx)(id:String)(r:V->List V->Hp->VK->Prop):Prop:=
 ∀(pins:List (Addr×Obj)) (s:Shared) (σ:St) (H:Hp) (x:V) (xs:List V) (v:Value) (us:List Value) (Q:VK),Inv X pins σ H s->RelV x v->Vals xs us->r x xs H Q->
  wpAny (model X.prog X.w) X.A (call (.builtin id) (v :: us)) (EP X pins σ Q) X.xe s
theorem Vals.one:∀{x:V} {us:List Value},Vals [x] us->∃u,us=[u]/\RelV x u
 | _,_,.cons r .nil=>⟨_,rfl,r⟩
theorem Vals.rep (h:Vals xs us):∀k:Nat,Vals (af k xs).flatten (af k us).flatten
 | 0=> .nil
 | k+1=>by
  exact Vals.append h (Vals.rep h k)
theorem jK (its:List Value):∀(k:Nat) (acc:List Value),
  eC (λx1 x2=>x1++x2) acc.toArray (af k its.toArray)=(acc++(af k its).flatten).toArray
 | 0,acc=>by simp
 | k+1,acc=>by
  have e:acc.toArray++its.toArray=(acc++its).toArray:=by simp
  have e2:(acc++its)++(af k its).flatten=acc++(af (k+1) its).flatten:=by
   rw[bM,eM,aU]
  rw[← e2,← jK its k _,← e,bM,l7]
section
theorem Inv.lset {its its' :List Value}{n:Nat}{f:Array Value->Array Value}{t' :Nat}(I:Inv X pins σ H s)(hH:H l=some (.lst xs))
  (e:s.heap.get? l=some { cls:= .type "list",data:= .seq its.toArray n }) (hf:f its.toArray=its'.toArray) (hv:Vals ys its') (hz:ys.length<=sizeLine):
  Inv X pins σ (upd H l (.lst ys)) { s with heap:=s.heap.update l (Obj.mapSeq f),toks:=t' }:=by
 have q:=PySem.IsL.update e f;rw[hf]at q;refine I.write (by rw[hH];exact trivial) (.inl rfl) (λb' u hb hu=>(Heap.get?_update_other _ _ (bK hb)).trans hu) ⟨_,q⟩ ?_
 exact⟨hz,its',_,hv,q⟩
theorem Inv.lnew (I:Inv X pins σ H s)(hv:Vals ys its)(hz:ys.length<=sizeLine):
  Inv X pins σ (upd H s.heap.objs.size (.lst ys)) { s with heap:=s.heap.push { cls:= .type "list",data:= .seq its.toArray },toks:=t' }:=
 I.laid (λ_ _ q=>ag _ q) (am _) ⟨hz,its,0,hv,aj _ rfl⟩
theorem Inv.fresh (I:Inv X pins σ H s):H s.heap.objs.size=none:=I.hok.fresh (am _)
theorem Inv.lstM (I:Inv X pins σ H s)(hH:H l=some (.lst xs)):xs.length<=sizeLine/\∃(its:List Value) (n:Nat),Vals xs its/\xs.length=its.length/\s.heap.get? l=some { cls:= .type "list",data:= .seq its.toArray n }:=by
 obtain⟨z,its,n,r,e⟩:=I.hok l _ hH;exact⟨z,its,n,r,r.length,e⟩
theorem UE (h:n<=sizeLine):dm n=false:=by
 exact decide_eq_false (by omega)
end
section
variable {X:Cx}
def XN:V->List V->Hp->VK->Prop:=λx vs H Q=>∃l xs y,x= .ref l/\vs=[y]/\H l=some (.lst xs)/\xs.length < sizeLine/\Q .non (upd H l (.lst (xs++[y])))
theorem WZ:MtM X "list.append" XN:=by
 intro pins s σ H x vs v us Q I rx rv h;obtain⟨l,xs,y,rfl,rfl,hH,hz,q⟩:=h;cases rx;obtain⟨u,rfl,ru⟩:=rv.one;obtain⟨z,its,n,r,hl,e⟩:=I.lstM hH;refine du F.slot_list_append ⟨_,e,rfl⟩ F.entry_list_append (F.args_list_append_2 _ _) (PySem.list_append l _ n u (by rw[aE];omega)) ⟨e, ?_⟩
 refine⟨.non,_,I.lset hH e (by simp) (r.append (.cons ru .nil)) ?_,rfl,q⟩
 rw[ax,aB];omega
def XO:V->List V->Hp->VK->Prop:=λx vs H Q=>∃l b xs zs,x= .ref l/\vs=[.ref b]/\H l=some (.lst xs)/\H b=some (.lst zs)/\xs.length+zs.length<=sizeLine/\Q .non (upd H l (.lst (xs++zs)))
theorem YO:MtM X "list.extend" XO:=by
 intro pins s σ H x vs v us Q I rx rv h;obtain⟨l,b,xs,zs,rfl,rfl,hH,hB,hz,q⟩:=h;cases rx;obtain⟨u,rfl,ru⟩:=rv.one;cases ru;obtain⟨z,its,n,r,hl,e⟩:=I.lstM hH;obtain⟨z2,its2,n2,r2,hl2,e2⟩:=I.lstM hB;have hsz:its.toArray.size+its2.toArray.size<=sizeLine:=by rw[aE,aE];omega
 have hlong:¬ (!its.toArray.isEmpty && dm (its.toArray.size+its2.toArray.size))=true:=by
  rw[UE hsz,Bool.and_false];exact ay
 refine du F.slot_list_extend ⟨_,e,rfl⟩ F.entry_list_extend (F.args_list_extend_2 _ _)
  (AutoSeq1.list_extend_list_list_0 l _ n b _ n2 hlong (by omega) (by omega)) ⟨e,e2, ?_⟩
 refine⟨.non,_,I.lset hH e (by simp) (r.append r2) ?_,rfl,q⟩
 rw[ax];omega
def rCat:R2:=λx y H Q=>∃l b xs zs,x= .ref l/\y= .ref b/\H l=some (.lst xs)/\H b=some (.lst zs)/\xs.length+zs.length<=sizeLine/\∀p,H p=none->Q (.ref p) (upd H p (.lst (xs++zs)))
theorem G8:OpR X (binaryOp .Add) rCat:=by
 intro pins s σ H x y v u Q I rx ry h;obtain⟨l,b,xs,zs,rfl,rfl,hH,hB,hz,q⟩:=h;cases rx;cases ry;obtain⟨z,its,n,r,hl,e⟩:=I.lstM hH;obtain⟨z2,its2,n2,r2,hl2,e2⟩:=I.lstM hB;refine PySem.P.add_list e e2 ?_ (by rw[aE,aE];omega)
 have ea:its.toArray++its2.toArray=(its++its2).toArray:=by simp
 rw[ea];exact⟨.ref _,_,I.lnew (r.append r2) (by rw[ax];omega),rfl,q _ I.fresh⟩
def rRep:R2:=λx y H Q=>∃l k xs,x= .ref l/\y= .int k/\H l=some (.lst xs)/\ -(2 ^ 63)<=k/\k < 2 ^ 63/\xs.length*k.toNat<=sizeLine/\
 ∀p,H p=none->Q (.ref p) (upd H p (.lst (af k.toNat xs).flatten))
theorem jV {α:Type}(xs:List α)(k:Nat):(af k xs).flatten.length=k*xs.length:=by
 induction k with
 | zero=>simp
 | succ k ih=>rw[bM,eM,ax,ih,fx,ip]
theorem G9:OpR X (binaryOp .Mult) rRep:=by
 intro pins s σ H x y v u Q I rx ry h;obtain⟨l,k,xs,rfl,rfl,hH,h1,h2,hz,q⟩:=h;cases rx;obtain⟨t,rfl⟩:=ry;obtain⟨z,its,n,r,hl,e⟩:=I.lstM hH;have hlen:its.toArray.size*k.toNat<=sizeLine:=by rw[aE,← hl];exact hz
 have hcap:¬ its.toArray.size*k.toNat > (2 ^ 63 - 1) / 8:=by
  have:(sizeLine)<=(2 ^ 63 - 1) / 8:=by decide
  omega
 have hfit:¬ (!Builtin.List.listFitsIndex k)=true:=by
  rw[fitsIndex_both h1 h2];exact ay
 have hlong:¬ dm (its.toArray.size*k.toNat)=true:=by
  rw[UE hlen];exact ay
 have hnew:eC (λx1 x2=>x1++x2) #[] (af (if its.toArray.isEmpty=true then 0 else k.toNat) its.toArray)=(af k.toNat its).flatten.toArray:=by
  have f0:∀m,eC (λx1 x2=>x1++x2) #[] _=(af m its).flatten.toArray:=λm=>by
   have:=jK its m [];exact this
  rw[f0];cases its with
  | nil=>simp
  | cons a r' =>rw[if_neg (by simp)]
 refine wpAny_binaryOp_repeat_ref (by decide) ⟨_,e,rfl⟩ (λs' =>typeIs_int s' k t) noFill_list_mul l8 dP repeat_list iL.lookup
  (du dP (typeIs_int s k t) iM (iq _ _) (int___rmul___int_list k t l _ n)
   ⟨e,rfl,⟨_,e,rfl⟩,du F.slot_list_mul ⟨_,e,rfl⟩ F.entry_list_mul (F.args_list_mul_2 _ _) (AutoListH.list___mul___list_int_3 l _ n k t hfit hcap hlong) ⟨e, ?_⟩⟩)
 rw[hnew];exact⟨.ref _,_,I.lnew (r.rep _) (by rw[jV,cR];exact hz),rfl,q _ I.fresh⟩
end
section
end
section
end
end L2
namespace Att
open PySem PySem.W PySem.Calls PyProof.Rows
theorem JK {P:Params}:∀(ns:List Int) (vs:List Value),WellAll P h vs (ns.map WData.int)->IntsAre vs ns:=by
 intro ns
 induction ns with
 | nil=>
  intro vs w;cases w;exact .nil
 | cons n ns ih=>
  intro vs w;cases w with
  | cons a b=>
   cases a;exact .cons _ _ (ih _ b)
theorem YQ {l:OpenLaw}(hn:l.most=some n){P:Params}{args:List WData}
  (hpre:l.row.toRowW.claim.pre args=true) (hwl:WellAll P h vals args):
  ∃a vs ns,vals=[Value.ref a]/\args=[WData.list (ns.map WData.int)]/\h.get? a=some { cls:= .type "list",data:= .seq vs.toArray }/\IntsAre vs ns/\ns.length<=n:=by
 have hsh:=(pre_splitW hpre).1;have hc:=(pre_splitW hpre).2;obtain⟨d,r,rfl,h1,h2⟩:=hasAllW_cons hsh;obtain rfl:=hasAllW_nil h2;obtain⟨xs,rfl,h3⟩:=hasW_list h1;obtain⟨ns,rfl⟩:=items_int h3;have hlen:ns.length<=n:=by
  have h4:=by
   have h4:=(holds_andW hc).1;rw[hn]at h4;exact h4
  have h5:=condW_of h4 (w_not (w_lt w_lit (w_len_list (w_arg rfl))));rw[aa]at h5;refine Nat.le_of_not_lt λq=> ?_;have q' :(n) < ((ns.length):Int):=by omega
  first
   | (rw[decide_eq_true q']at h5;exact absurd h5 (by decide))
   | (simp at h5)
 cases hwl with
 | cons w1 w2=>
  cases w2;cases w1 with
  | list ho hall=>exact⟨_,_,ns,rfl,rfl,ho,JK ns _ hall,hlen⟩
theorem YR (l:OpenLaw)(args:List WData):l.row.toRowW.claim.post args (.bool true) args=true:=
 postW_of
  (show WShape.has [] _ _=true by first | rfl | decide | simp[WShape.has,WShape.arms,WShape.armsAll])
  (show (WTm.eq _ _).value [] _=some _ from w_eq_bool (w_res rfl) w_lit) rfl
theorem attach_call {l:OpenLaw}{XP:(Str->Option Value)->Heap->Prop}{YP:World->Heap->Prop}{d:DefRec}
  (hn:l.most=some n) (hdf:d.params.defaults=[])
  (call:∀(w:World) (s₀ s₁:Shared) (mg mb:Str->Option Value) (fa:Addr) (o:Obj) (pm cd doc:Value) (a:Addr) (vs:List Value) (ns:List Int),
   Ground q loose [] XP w s₀ mg mb s₁.heap->YP w s₁.heap->
   s₁.heap.get? fa=some o->o.data= .func (docDef d.name d.params d.body d.scope pm cd doc)->s₁.heap.CodeRec cd d.name->mg d.name=some (.ref fa)->
   s₁.heap.get? a=some { cls:= .type "list",data:= .seq vs.toArray }->IntsAre vs ns->ns.length<=n->s₁.gens= #[]->
   codeAny (model l.prog w) callerA (.call (.ref fa) ⟨[.ref a],[]⟩) (λr s' =>r= .ok (.ret (.bool true))/\OldK s₁.heap s'.heap/\s'.os=s₁.os/\AllBare s'.gens) s₁):
  WalkO q loose XP YP l.row.toRowW d [] (λf vs=>li f vs):=by
 intro w s₀ s₁ mg mb G Y fa o pm cd doc dV kV ho hd hcd hD hmg hg args vals as hpre hlay hrd hwl hlo;obtain rfl:dV= .none:=Dflts.none hD hdf;obtain rfl:kV= .none:=Dflts.noKw hD;obtain⟨a,vs,ns,rfl,rfl,hobj,hints,hlen⟩:=YQ hn hpre hwl;refine enter_call (codeAny_mono (call w _ _ mg mb fa o pm cd doc a vs ns G Y ho (fd_plain hd) hcd hmg hobj hints hlen hg) λr s' hq=> ?_);obtain⟨rfl,h2,h3,h4⟩:=hq;exact⟨.inl ⟨.bool _,.bool _,[],rfl,λ_=>rfl,.bool _,YR l _,λ_=>⟨List.Pairwise.nil,λ_ hm=>(nomatch hm)⟩⟩,h2,h3,h4⟩
end Att
namespace L2
open PySem PySem.Spec PyProof.Rows
theorem jL:∀{vs:List Value} {ns:List Int},IntsAre vs ns->Vals (ns.map V.int) vs
 | _,_,.nil=> .nil
 | _,_,.cons n t h=> .cons ⟨t,rfl⟩ (jL h)
def z1v (H:Hp):Prop:=∀b,H b=none\/∃o xs,H b=some (.frz o (.lst xs))
theorem V2 {P:Program}{w:World}{K:ae}{mg mb:Str->Option Value}{CX:CXT}{k:Nat}{fa a:Addr}{fd:FuncData}{x:Str}{sp:Sp}{s₁:Shared}{vs:List Value}{ns:List Int}
  (KX:K.In s₁.heap) (hns:s₁.heap.Ns mainGlobals mg) (hb:s₁.heap.Ns builtinsNs mb) (hbb:∀x:Str,x ≠ "__name__"->mb x=bootBuiltins x) (hlim:s₁.heap.NoLimit) (hg:s₁.gens= #[])
  (ha:s₁.heap.get? a=some { cls:= .type "list",data:= .seq vs.toArray }) (hi:IntsAre vs ns) (hl:ns.length<=sizeLine) (hr:jq k callerA)
  (F:∀base:Heap,K.In base->base.Ns mainGlobals mg->ww P w K mg base CX k fa fd [x] sp) (hbind:∀(s:Shared) (u:Value),BindsTo s fd ⟨[u],[]⟩ [(x,u)])
  (hsp:∀H:Hp,z1v H->SqL K H a (ns.map V.int)->sp [.ref a] H (λv _=>v= .bl true) λ_ _ _=>False)
  (hCX:∀H e s',CX [] H s₁ (λ_ _ _=>False) e s' ->False):
  codeAny (model P w) callerA (.call (.ref fa) ⟨[.ref a],[]⟩) (λr s' =>r= .ok (.ret (.bool true))/\OldK s₁.heap s'.heap/\s'.os=s₁.os/\AllBare s'.gens) s₁:=by
 have rv:=jL hi;have lenV:=hi.length;have core:∀H,z1v H->SqL K H a (ns.map V.int)->HOk P w H s₁.heap->(∀b,H b ≠ none->b=a)->(H a ≠ none->K.lookup a=none)->
   codeAny (model P w) callerA (.call (.ref fa) ⟨[.ref a],[]⟩) (λr s' =>r= .ok (.ret (.bool true))/\OldK s₁.heap s'.heap/\s'.os=s₁.os/\AllBare s'.gens) s₁:=by
  intro H hO hS hok hA hK;have base_of:∀{b:Addr} {o:Obj},s₁.heap.get? b=some o->H b=none->(gc _ H).get? b=some o:=λe n=>vS e n;have noA:∀{b:Addr} {o:Obj} {es:Array _} {ep:Nat},s₁.heap.get? b=some o->o.data= .dict es ep->H b=none:=λ{b o es ep} e d=>by
   cases q:H b with
   | none=>rfl
   | some u=>
    have e' :=hA b (by rw[q];simp)
    subst e';rw[ha]at e;cases e;have d' :=d;cases d'
  have nsK:∀{b:Addr} {m:Str->Option _},s₁.heap.Ns b m->(gc _ H).Ns b m:=λ{b m} ⟨o,es,ep,e,d,r⟩=>⟨o,es,ep,base_of e (noA e d),d,r⟩;have hKb:=λb o e=>base_of (KX b o e) (by
   cases q:H b with
   | none=>rfl
   | some u=>
    have e' :=hA b (by rw[q];simp)
    subst e';rw[hK (by rw[q];simp)]at e;cases e)
  have hM:Mod K mg _:=⟨hKb,nsK hns,⟨mb,nsK hb,hbb⟩,let ⟨mc,h1,h2⟩:=hlim;⟨mc,nsK h1,h2⟩⟩;have e0:z1u P w K mg _ callerA [] _ H:=⟨rfl,hM,λb o e=>Xx e,Nat.le_of_eq (Yt _ _),trivial,λb hb=>absurd (show b∈([]:List _) from hb) (by simp),hok,.of_eq hg⟩
  refine codeAny_mono ((F _ hKb (nsK hns)).run _ [] _ H _ _ [.ref a] _ _ hr e0 (hbind _ _) (.cons rfl .nil) (hsp H hO hS)) λr s' h=> ?_;cases r with
  | error e=>exact(hCX H e s' h).elim
  | ok fl=>
   cases fl with
   | next=>exact cQ h
   | brk=>exact cQ h
   | cont=>exact cQ h
   | ret u=>
    obtain⟨v,H',os,bare,un,hok',r',q⟩:=h;have q' :=q;subst q';obtain rfl:u=Value.bool _:=r';refine⟨rfl,OldK.of_keep λb o e=> ?_,os,bare⟩;cases q:H b with
    | none=>exact un.keep b o e q (by intro z;exact absurd (show b∈([]:List _) from z) (by simp)) (by simp)
    | some u=>
     rcases hO b with z | ⟨ob,xs,z⟩
     ·rw[q]at z;cases z
     ·have z2:=un.frzs b ob _ z;obtain⟨e1,_⟩:=hok b _ z;obtain⟨e2,_⟩:=hok' b _ z2;rw[e]at e1;cases e1;exact e2
 cases hk:K.lookup a with
 | some o=>
  have e:=KX a o hk;rw[ha]at e;cases e;refine core (λ_=>none) (λ_=> .inl rfl) (.inr ⟨_,vs.toArray,_,hk,rfl,rfl,rfl,by rw[aE,lenV];exact hl,by simpa using rv⟩) (λb u z=>by have z' :=z;cases z') (λb z=>absurd rfl z) λz=>absurd rfl z
 | none=>
  refine core (λb=>if b=a then some (.frz { cls:= .type "list",data:= .seq vs.toArray } _) else none) (λb=> ?_) (.inl (.inr ⟨{ cls:= .type _,data:= .seq _ },if_pos rfl⟩)) (λb u z=> ?_) (λb z=> ?_) λ_=>hk
  ·by_cases hb:b=a
   ·exact .inr ⟨_,_,if_pos hb⟩
   ·exact .inl (if_neg hb)
  ·by_cases hb:b=a
   ·have z' :=(if_pos hb).symm.trans z;cases z';subst hb;exact⟨ha,by rw[aa];exact hl,vs,_,rv,ha⟩
   ·have z' :=(if_neg hb).symm.trans z;cases z'
  ·by_cases hb:b=a
   ·exact hb
   ·exact absurd (if_neg hb) z
end L2
namespace L2
open PySem PySem.Spec PyProof.Rows
theorem walk_of {l:PySem.W.OpenLaw}{XP:(Str->Option Value)->Heap->Prop}{YP:World->Heap->Prop}{d:DefRec}{K:Params->ae}{CX:World->CXT}{sp:World->Sp}
  (hn:l.most=some n) (hn2:n<=sizeLine) (hdf:d.params.defaults=[]) (hr:jq k callerA)
  (hY:∀(w:World) (h:Heap),YP w h->(K w.params).In h)
  (F:∀(w:World) (mg:Str->Option Value) (fa:Addr) (h:Heap),(K w.params).In h->h.Ns mainGlobals mg->mg d.name=some (.ref fa)->
   ∃fd:FuncData,(∀(s:Shared) (u:Value),BindsTo s fd ⟨[u],[]⟩ [(x,u)])/\
    ∀base:Heap,(K w.params).In base->base.Ns mainGlobals mg->ww l.prog w (K w.params) mg base (CX w) k fa fd [x] (sp w))
  (hsp:∀(w:World) (H:Hp) (a:Addr) (ns:List Int),ns.length<=n->z1v H->SqL (K w.params) H a (ns.map V.int)->sp w [.ref a] H (λv _=>v= .bl true) λ_ _ _=>False)
  (hCX:∀(w:World) (H:Hp) (s:Shared) (e:Value) (s' :Shared),CX w [] H s (λ_ _ _=>False) e s' ->False):
  PySem.W.WalkO q loose XP YP l.row.toRowW d [] (λf vs=>li f vs):=by
 refine Att.attach_call hn hdf λw s₀ s₁ mg mb fa o pm cd doc a vs ns G Y ho hd hcd hmg hobj hints hlen hg=> ?_;have KX:=hY w _ Y;obtain⟨fd,hb,hF⟩:=F w mg fa _ KX G.T.g hmg;exact V2 KX G.T.g G.T.b G.T.builtins G.T.nolimit hg hobj hints (ao hlen hn2) hr hF hb (λH hO hS=>hsp w H a ns hlen hO hS) λH e s' =>hCX w H _ e s'
end L2
namespace L2
open PySem PySem.Spec PyProof.Rows
noncomputable def jd (s:Stmt):Arguments:=match s with
 | .FunctionDef _ a _ _ _ _ _ _ _ _=>a
 | _=>{ posonlyargs:=[],args:=[],vararg:=none,kwonlyargs:=[],kw_defaults:=[],kwarg:=none,defaults:=[] }
noncomputable def Z4 (s:Stmt):List Stmt:=match s with
 | .FunctionDef _ _ b _ _ _ _ _ _ _=>b
 | _=>[]
noncomputable def zj (s:Stmt):Scope:=match s with
 | .FunctionDef _ _ _ _ _ _ sc _ _ _=>sc
 | _=>{ kind:= .function,names:=[],isGenerator:=false,isCoroutine:=false }
abbrev CX0:CXT:=λ_ _ _ _ _ _=>False
structure Fun (K:ae) (x qual:Str) (st:Stmt) (f:Addr) (fd:FuncData):Prop where
 ex:∃(oc:Value) (od:Option Addr) (kV doc pm:Value) (an:Option Addr) (cdv ct:Value) (osl:Array (Option Value)),
  fd=cg x qual (jd st) (Z4 st) (zj st) .none kV doc pm an cdv ct/\K.lookup f=some ⟨oc,od,.func fd,osl⟩/\eA K cdv qual=true
 kp:bZ K (.ref f)=true
section
variable {P:Program}{w:World}{K:ae}{mg:Str->Option Value}{base:Heap}
theorem Fun.ok {x qual:Str}{st:Stmt}{f:Addr}{fd:FuncData}{N ps:List Str}{k:Nat}{sp:Sp}(F:Fun K x qual st f fd)(S:ja N ps (zj st))(len:∀vs H Q E,sp vs H Q E->vs.length=ps.length)
  (hbody:∀(cdv:Value) (A:Around) (outer:List Env) (s:Shared) (H:Hp) (vs:List V) (Q:VK) (E:XK),jq k (A.deeper (envOfC qual (zj st) s.heap.objs.size f cdv))->sp vs H Q E->
   ∃t,PSs (Jw CX0 P w K mg base N qual (zj st) f cdv A outer s H E).nox (Z4 st) t/\t { nx:=λ_ H' =>Q .non H',rt:=Q } (start N vs) H):ww P w K mg base CX0 (k+1) f fd ps sp:=by
 obtain⟨oc,od,kV,doc,pm,an,cdv,ct,osl,rfl,lk,hcd⟩:=F.ex;refine gY lk hcd S len λA outer s H vs Q E hr hsp=> ?_;obtain⟨t,h,q⟩:=hbody cdv A _ s H vs Q E hr hsp;exact⟨t,h.nox,q⟩
theorem Fun.binds {x qual:Str}{st:Stmt}{f:Addr}{fd:FuncData}{ps:List Str}(F:Fun K x qual st f fd)
  (h:∀(kV doc pm:Value) (an:Option Addr) (cdv ct:Value) (us:List Value),us.length=ps.length->bindArgs (cg x qual (jd st) (Z4 st) (zj st) .none kV doc pm an cdv ct) ⟨us,[]⟩=pure (ps.zip us)):Binds K fd ps []:=by
 obtain⟨oc,od,kV,doc,pm,an,cdv,ct,osl,rfl,lk,hcd⟩:=F.ex;exact .all (h kV doc pm an cdv ct)
theorem Ga {x qual:Str}{st:Stmt}{f:Addr}{oc:Value}{od an:Option Addr}{osl:Array (Option Value)}{kV doc pm cdv ct:Value}(l:K.lookup f=some ⟨oc,od,.func (cg x qual (jd st) (Z4 st) (zj st) .none kV doc pm an cdv ct),osl⟩)
  (c:eA K cdv qual=true) (k:bZ K (.ref f)=true):Fun K x qual st f (cg x qual (jd st) (Z4 st) (zj st) .none kV doc pm an cdv ct):=⟨⟨oc,od,kV,doc,pm,an,cdv,ct,osl,rfl,l,c⟩,k⟩
end
section
theorem pv (i:Nat)(hN:X.N[i]? =some x:=by rfl)(hv:Vis X.env.scope x:=by first | exact Or.inl rfl | exact Or.inr (Or.inl rfl) | exact Or.inr (Or.inr rfl))(hd:(x == ("__debug__":Str))=false:=by decide)
  (hcd:(x == ("__classdict__":Str))=false:=by decide):PE X (.Name x pos) (Uz i):=Yu hN hv hd hcd
end
def zt (H H' :Hp):Prop:=∀b o,H b=some o->H' b=some o
theorem zt.refl (H:Hp):zt H H:=λ_ _ h=>h
theorem zt.trans (a:zt H H1)(b:zt H1 H2):zt H H2:=λc o h=>b c o (a c o h)
theorem zt.free (e:zt H H')(h:H' l=Option.none):H l=Option.none:=by
 cases q:H l with
 | none=>rfl
 | some o=>
  rw[e l o q]at h;cases h
end L2
namespace L2
open PySem PySem.Spec PyProof.Rows PySem.W
theorem UF (h:env.frame=some L):frs (env :: outer)=L :: frs outer:=by
 unfold frs;rw[dh,h]
structure UG (P:Program) (w:World) (outer:List Env) (H:Hp) (s s' :Shared) (ea:Addr) (cls a0:Value) (B:Heap) (H' :Hp):Prop where
 os:s'.os=s.os
 bare:AllBare s'.gens
 fly:dE B outer ea cls a0 s'.heap
 hok:HOk P w H' B
 un:Un (frs outer) [] H H' s.heap s'.heap
 inB:∀b o,s.heap.get? b=some o->b ∉ frs outer->(H b=none->B.get? b=some o)/\∃o',B.get? b=some o'
def CX1 (P:Program)(w:World):CXT:=λouter H s E e s' =>∃ea cls a0 B H',e= .ref ea/\UG P w outer H s s' ea cls a0 B H' /\E cls none H'
section
variable {X:Cx}{pins:List (Addr×Obj)}{σ:St}{H H' :Hp}{s s' :Shared}{ea:Addr}{cls a0:Value}{B:Heap}{h' h'' :Heap}
theorem Inv.frNf (I:Inv X pins σ H s):∀b∈frs X.stack,H b=none/\∃o,s.heap.get? b=some o/\∀vs,o.data ≠ .fields vs:=λb hb=>⟨I.stkFree b hb,(I.stack.mem hb).2⟩
theorem UG.on (L:UG P w outer H s s' ea cls a0 B H')(ff:∀b∈frs outer,H b=none/\∃o,s.heap.get? b=some o/\∀vs,o.data ≠ .fields vs)
  (fl:dE B outer ea cls a0 h') (sl:s'.heap.UpToSlots h'):UG P w outer H s { s' with heap:=h' } ea cls a0 B H' where
 os:=L.os
 bare:=L.bare
 fly:=fl
 hok:=L.hok
 inB:=L.inB
 un:=by
  have slot:∀b o,s.heap.get? b=some o->H b=none->b∈frs outer->∃sl,h'.get? b=some { o with slots:=sl }:=λb o e n hb=>by
   obtain⟨sl1,e1⟩:=L.un.slot b o e n hb (by simp)
   obtain⟨_,o2,e2,nf⟩:=ff b hb;rw[e]at e2;cases e2;obtain⟨sl2,e3⟩:=sl b _ e1 nf;exact⟨sl2,e3⟩
  exact⟨λb o e n hb _=>fl.1 b o ((L.inB b o e hb).1 n),λb o e n hb _=>slot b o e n hb,L.un.free,λb o e _=>by
   by_cases hb:b∈frs outer
   ·obtain⟨sl1,e1⟩:=slot b o e (ff b hb).1 hb;exact⟨_,e1⟩
   ·obtain⟨o',e'⟩:=(L.inB b o e hb).2;exact⟨o',fl.1 b o' e'⟩,L.un.tups,L.un.frzs,L.un.tbls⟩
theorem Inv.old (I:Inv X pins σ H s)(hX:X.stack=X.env :: X.outer)(hf:X.env.frame=some X.env.locals)(e:X.s₀.heap.get? b=some o)(hb:b ∉ frs X.outer):b ∉ frs X.stack:=by
 rw[hX,UF hf];intro z;rcases ak.mp z with z | z
 ·exact absurd (aI (aq e) I.ok.above) (by rw[z];exact bH _)
 ·exact hb z
theorem uU {X:Cx}(hX:X.stack=X.env :: X.outer)(hf:X.env.frame=some X.env.locals){b:Addr}(hb:b∈frs X.outer):b∈frs X.stack:=by
 rw[hX,UF hf];exact a8 _ hb
theorem UG.out (I:Inv X pins σ H s)(hX:X.stack=X.env :: X.outer)(hf:X.env.frame=some X.env.locals)(hex:X.ex=[])(L:UG X.prog X.w X.stack H s s' ea cls a0 B H')
  (fl:dE B X.outer ea cls a0 h') (sl:s'.heap.UpToSlots h'):UG X.prog X.w X.outer X.H₀ X.s₀ { s' with heap:=h' } ea cls a0 B H' where
 os:=L.os.trans I.os
 bare:=L.bare
 fly:=fl
 hok:=L.hok
 inB:=λb o e hb=>by
  have nx:b ∉ X.ex:=by rw[hex];simp
  obtain⟨o1,e1⟩:=I.base.there b o e nx;have hb' :=I.old hX hf e hb;exact⟨λn=>(L.inB b o (I.base.keep b o e n hb nx) hb').1 (I.base.free b o e n nx),(L.inB b o1 e1 hb').2⟩
 un:=by
  have nx:∀b,b ∉ X.ex:=λb=>by rw[hex];simp
  have slot:∀b o,X.s₀.heap.get? b=some o->X.H₀ b=none->b∈frs X.outer->∃sl,h'.get? b=some { o with slots:=sl }:=λb o e n hb=>by
   obtain⟨sl1,e1⟩:=I.base.slot b o e n hb (nx b);have n1:=I.base.free b o e n (nx b);obtain⟨sl2,e2⟩:=L.un.slot b _ e1 n1 (uU hX hf hb) (by simp)
   obtain⟨_,o3,e3,nf⟩:=I.frNf b (uU hX hf hb);rw[e1]at e3;cases e3;obtain⟨sl4,e4⟩:=sl b _ e2 nf;exact⟨sl4,e4⟩
  refine⟨λb o e n hb _=> ?_,λb o e n hb _=>slot b o e n hb,λb o e n _=> ?_,λb o e _=> ?_,λb xs e=>L.un.tups b xs (I.base.tups b xs e),λb o xs e=>L.un.frzs b o xs (I.base.frzs b o xs e),λb ps q e=>L.un.tbls b ps q (I.base.tbls b ps q e)⟩
  ·exact fl.1 b o ((L.inB b o (I.base.keep b o e n hb (nx b)) (I.old hX hf e hb)).1 (I.base.free b o e n (nx b)))
  ·obtain⟨o1,e1⟩:=I.base.there b o e (nx b);exact L.un.free b o1 e1 (I.base.free b o e n (nx b)) (by simp)
  ·by_cases hb:b∈frs X.outer
   ·obtain⟨sl1,e1⟩:=slot b o e (I.ok.frf b hb) hb;exact⟨_,e1⟩
   ·obtain⟨o1,e1⟩:=I.base.there b o e (nx b);obtain⟨o',e'⟩:=(L.inB b o1 e1 (I.old hX hf e hb)).2;exact⟨o',fl.1 b o' e'⟩
theorem UG.made (I:Inv X pins σ H s)(hX:X.stack=X.env :: X.outer)(hf:X.env.frame=some X.env.locals)(hex:X.ex=[]){vs:List Value}(hx:Heap.MadeExcOf s.heap h' ea cls vs)
  (fl:dE (hideAll s.heap (frs X.stack)) X.outer ea cls a0 h'') (sl:h'.UpToSlots h''):UG X.prog X.w X.outer X.H₀ X.s₀ { s with heap:=h'' } ea cls a0 (hideAll s.heap (frs X.stack)) H where
 os:=I.os
 bare:=I.bare
 fly:=fl
 hok:=λa o e=>(I.hok a o e).stay (λb u hb q=>hideAll_get _ q λz=>by
   have:=I.stkFree b z;rcases hb with rfl | hb
   ·rw[e]at this;cases this
   ·rw[hb]at this;cases this) (λ_ q=>q) λ_ _ q=>q
 inB:=λb o e hb=>by
  have nx:b ∉ X.ex:=by rw[hex];simp
  obtain⟨o1,e1⟩:=I.base.there b o e nx;have hb' :=I.old hX hf e hb;exact⟨λn=>hideAll_get _ (I.base.keep b o e n hb nx) hb',o1,hideAll_get _ e1 hb'⟩
 un:=by
  have nx:∀b,b ∉ X.ex:=λb=>by rw[hex];simp
  have slot:∀b o,X.s₀.heap.get? b=some o->X.H₀ b=none->b∈frs X.outer->∃sl,h''.get? b=some { o with slots:=sl }:=λb o e n hb=>by
   obtain⟨sl1,e1⟩:=I.base.slot b o e n hb (nx b);obtain⟨_,o3,e3,nf⟩:=I.frNf b (uU hX hf hb);rw[e1]at e3;cases e3;obtain⟨sl4,e4⟩:=sl b _ (hx.keeps b _ e1) nf;exact⟨sl4,e4⟩
  refine⟨λb o e n hb _=> ?_,λb o e n hb _=>slot b o e n hb,λb o e n _=>I.base.free b o e n (nx b),λb o e _=> ?_,I.base.tups,I.base.frzs,I.base.tbls⟩
  ·exact fl.1 b o (hideAll_get _ (I.base.keep b o e n hb (nx b)) (I.old hX hf e hb))
  ·by_cases hb:b∈frs X.outer
   ·obtain⟨sl1,e1⟩:=slot b o e (I.ok.frf b hb) hb;exact⟨_,e1⟩
   ·obtain⟨o1,e1⟩:=I.base.there b o e (nx b);exact⟨o1,fl.1 b o1 (hideAll_get _ e1 (I.old hX hf e hb))⟩
end
section
variable {P:Program}{w:World}{K:Frag}{mg:Str->Option Value}{base:Heap}{N:List Str}{qual:Str}{scope:Scope}{f:Addr}{cd:Value}{A:Around}{outer:List Env}{s:Shared}{H:Hp}{E:XK}
theorem Gb:ZL (CX1 P w) (Jw (CX1 P w) P w K mg base N qual scope f cd A outer s H E) E:=by
 intro pins σ H1 s1 e s' I ⟨ea,cls,a0,B,H',he,L,hE⟩;subst he;exact wpAny_leaves_onW I.ok.frames rfl L.fly λh' fl sl=>⟨ea,cls,a0,B,H',rfl,L.out I rfl rfl rfl fl sl,hE⟩
theorem YS {x:Str}{C:Addr}{bm bmN:List Value}{Bn Bb newId nid initId inN:String}{np cpos pos:Pos}{e:Expr}{t:TA}(O:OwnCls x C bm newId mg base)(Fn:ExcBaseFacts Bn newId inN bmN)(hBn:bm.contains (.type Bn)=true)(FB:ExcBaseFacts Bb nid initId bm)
  (hg:Gl (Jw (CX1 P w) P w K mg base N qual scope f cd A outer s H E) x) (ha:PA (Jw (CX1 P w) P w K mg base N qual scope f cd A outer s H E) [e] t)
  (he:starEach [e] (envOfC qual scope s.heap.objs.size f cd)=[(false,eval e (envOfC qual scope s.heap.objs.size f cd))]) (hd:(x == ("__debug__":Str))=false:=by decide):
  PS (Jw (CX1 P w) P w K mg base N qual scope f cd A outer s H E) (.Raise (some (.Call (.Name x np) [e] [] cpos)) none pos) (λ_ σ H1=>t σ H1 λvs H2=>vs.length<=sizeLine/\E (.ref C) none H2):=by
 intro pins s1 σ H1 D I hw;obtain⟨tl,N',nm,q,bs,hdct,sn,sub,ab,col,dd,k0,k1,k2,k3,k5,mN,hC,hN,hni,T⟩:=O.obj;have hp:(backTo cpos (starEach [e] (envOfC qual scope s.heap.objs.size f cd))).any (·.1)=false:=by rw[he];rfl
 refine wpAny_Raise_call_subU (nm:=nm) (q:=q) (N:=N') (bs:=bs) (hdct:=hdct) (sn:=sn) (sub:=sub) (ab:=ab) (col:=col) (dd:=dd) (k0:=k0) (k1:=k1) (k2:=k2) (k3:=k3) (k5:=k5)
  Fn hBn FB (T.hasType FB.hasBase) (I.ok.hd rfl) hp hni (W4 I hg O.bound ⟨rfl, ?_⟩ hd)
 have h2:=ha cpos _ s1 σ H1 _ I hw;have he' :starEach [e] (Jw (CX1 P w) P w K mg base N _ _ f cd A outer s H E).env=[(false,eval e _)]:=he;rw[he']at h2 ⊢;refine fR (thn h2 λus s2 ⟨vs,H2,I2,r,hl,hE⟩=>⟨rfl,by rw[← r.length];exact hl,I2.bk _ _ hC,hN.keeps I2.bk,T.keeps I2.bk,λh' ea hx=> ?_⟩)
 have hin:∀env∈(Jw (CX1 P w) P w K mg base N qual scope f cd A outer s H E).stack,∀b,env.frame=some b->b∈frs _:=λenv he b hb=>d_.mpr ⟨env,he,hb⟩;exact wpAny_leaves_madeW I2.ok.frames rfl (λb o q=>of_hideAll _ q) (funFrames_hide I2.stack hin) hx λh'' t' fl _ _ sl=>
  ⟨ea,.ref C,.ref t',_,H2,rfl,UG.made I2 rfl rfl rfl hx fl sl,hE⟩
end
end L2
namespace L2
open PySem PySem.Spec PyProof.Rows PySem.W
theorem Z1.there (x:Z1 P w H h a o):∃ob,h.get? a=some ob:=by
 cases o with
 | lst xs=>obtain⟨_,_,_,_,e⟩:=x;exact⟨_,e⟩
 | tup xs=>obtain⟨_,_,_,⟨_,e,_⟩,_⟩:=x;exact⟨_,e⟩
 | dK kvs=>obtain⟨_,_,_,_,o,_,_,e,_⟩:=x;exact⟨_,e⟩
 | dT kvs=>obtain⟨_,_,_,_,o,_,_,e,_⟩:=x;exact⟨_,e⟩
 | set S n=>obtain⟨o,_,_,_,e,_⟩:=x;exact⟨_,e⟩
 | ins C dx fs=>obtain⟨_,_,_,e,_⟩:=x;exact⟨_,e⟩
 | own y=>obtain⟨_,e⟩:=x;exact⟨_,e⟩
 | xd fs=>obtain⟨_,⟨_,_,_,e,_⟩,_⟩:=x;exact⟨_,e⟩
 | rng lo hi=>obtain⟨_,_,_,e⟩:=x;exact⟨_,e⟩
 | frz ob u=>obtain⟨e,_⟩:=x;exact⟨_,e⟩
 | tbl ps q=>obtain⟨_,e,_⟩:=x;exact⟨_,e⟩
 | met f y=>exact⟨_,(x)⟩
 | ext φ=>obtain⟨_,e,_⟩:=x;exact e
noncomputable def yP (cls:Value)(a:Addr)(h:Heap):Prop:=∃o,h.get? a=some o/\o.cls=cls
theorem yP.ok (x:yP cls a h):Z1 P w H h a (.ext (yP cls a)):=
 ⟨x,let ⟨o,e,_⟩:=x;⟨o,e⟩,λ_ _ ⟨o,e,c⟩ k=>⟨o,k o e,c⟩⟩
noncomputable abbrev Cx.try' (X:Cx)(pn:List (Addr×Obj))(xe:Value->Shared->Prop):Cx:={ X with pn:=pn,xe:=xe }
noncomputable abbrev Cx.mark' (X:Cx)(e:Value):Cx:={ X with A:=X.A.mark (some e),calm:=false,xe:=λ_ _=>False }
section
variable {X:Cx}{pins pins' :List (Addr×Obj)}{σ:St}{H H' :Hp}{s s' :Shared}{xe:Value->Shared->Prop}
theorem Cx.Ok.try' (ok:X.Ok){pn:List (Addr×Obj)}:(X.try' pn xe).Ok:=
 ⟨ok.mod,ok.kind,ok.glob,ok.blt,ok.above,ok.inj,ok.has,ok.cab,ok.hd,ok.frames,ok.stk,ok.exf,ok.bs,ok.bsz,ok.noex,ok.exfs,ok.funs,ok.frf⟩
theorem Cx.Ok.untry {pn:List (Addr×Obj)}(ok:(X.try' pn xe).Ok):X.Ok:=
 ⟨ok.mod,ok.kind,ok.glob,ok.blt,ok.above,ok.inj,ok.has,ok.cab,ok.hd,ok.frames,ok.stk,ok.exf,ok.bs,ok.bsz,ok.noex,ok.exfs,ok.funs,ok.frf⟩
theorem Inv.try' (I:Inv X pins σ H s)(xe:Value->Shared->Prop):Inv (X.try' (X.pn++pins) xe) [] σ H s:=
 ⟨I.ok.try',I.os,I.bare,I.base,I.loc,I.cell,I.free,I.freeC,λp hp=>I.pin p (by simpa using hp),I.hok,I.len⟩
theorem Inv.untry (I:Inv (X.try' (X.pn++pins) xe) pins' σ H s):Inv X pins σ H s:=
 ⟨I.ok.untry,I.os,I.bare,I.base,I.loc,I.cell,I.free,I.freeC,λp hp=>I.pin p (d6 _ hp),I.hok,I.len⟩
theorem Inv.mark' (I:Inv X pins σ H s)(e:Value):Inv (X.mark' e) pins σ H s:=
 ⟨⟨I.ok.mod,I.ok.kind,I.ok.glob,I.ok.blt,I.ok.above,I.ok.inj,I.ok.has,I.ok.cab,λz=>(by cases z),I.ok.frames,I.ok.stk,I.ok.exf,I.ok.bs,I.ok.bsz,I.ok.noex,I.ok.exfs,I.ok.funs,I.ok.frf⟩,I.os,I.bare,I.base,I.loc,I.cell,I.free,I.freeC,I.pin,I.hok,I.len⟩
theorem Inv.unmark (I:Inv (X.mark' e) pins σ H s)(hd:X.calm=true->X.A.handled=none):Inv X pins σ H s:=
 ⟨⟨I.ok.mod,I.ok.kind,I.ok.glob,I.ok.blt,I.ok.above,I.ok.inj,I.ok.has,I.ok.cab,hd,I.ok.frames,I.ok.stk,I.ok.exf,I.ok.bs,I.ok.bsz,I.ok.noex,I.ok.exfs,I.ok.funs,I.ok.frf⟩,I.os,I.bare,I.base,I.loc,I.cell,I.free,I.freeC,I.pin,I.hok,I.len⟩
theorem SP.untry {D:vT}{f:Flow}(h:SP (X.try' (X.pn++pins) xe) pins' D f s'):SP X pins D f s' :=by
 cases f with
 | next=>obtain⟨σ',H',I,q⟩:=h;exact⟨σ',H',I.untry,q⟩
 | brk=>obtain⟨σ',H',I,q⟩:=h;exact⟨σ',H',I.untry,q⟩
 | cont=>obtain⟨σ',H',I,q⟩:=h;exact⟨σ',H',I.untry,q⟩
 | ret u=>obtain⟨v,σ',H',I,r,q⟩:=h;exact⟨v,σ',H',I.untry,r,q⟩
theorem XQ {Q:Unit->Shared->Prop}(I:Inv X pins σ H s)(hN:X.N.Nodup)(hi:X.N[i]? =some n)(hl:X.env.kindOf n=some .local)(h:∀s',Inv X pins (σ.set i none) H s' ->Q () s'):
  wpAny M A (do bindName X.env n .none;unbindBehindTheSuite X.env n pos) Q E s:=by
 obtain⟨m,hn,hlo⟩:=id I.loc;have hcls:(X.env.scope.kind == .class || (X.env.scope.kind == .module && X.env.locals != X.env.globals))=false:=by rw[I.ok.kind];rfl
 refine wpAny_nameGoes_keeps hl hn hcls λh' v hn' hs=> ?_;refine h _ ⟨I.ok,I.os,I.bare,⟨λb o e n hb hx=> ?_,λb o e n hb hx=> ?_,I.base.free,λb o e hx=> ?_,I.base.tups,I.base.frzs,I.base.tbls⟩,⟨_,hn',λj y v' e1 e2 e3=> ?_⟩,λy c e=> ?_,I.free,I.freeC,λp hp=> ?_,λb ob e=> ?_,by simpa using I.len⟩
 ·exact(hs.2 b (aC (aI (aq e) I.ok.above))).trans (I.base.keep b o e n hb hx)
 ·obtain⟨sl,e1⟩:=I.base.slot b o e n hb hx;exact⟨sl,(hs.2 b (aC (aI (aq e) I.ok.above))).trans e1⟩
 ·obtain⟨o',e1⟩:=I.base.there b o e hx;exact⟨o',(hs.2 b (aC (aI (aq e) I.ok.above))).trans e1⟩
 ·by_cases hj:j=i
  ·subst hj;have hiσ:j < σ.length:=by rw[I.len];exact(au.mp hi).1
   rw[aW hiσ]at e2;cases e2
  ·rw[aH (bK hj)]at e2;obtain⟨u',r',q⟩:=hlo j y v' e1 e2 e3;refine⟨u',r', ?_⟩;rcases q with ⟨k,e⟩ | ⟨k,c,e,z⟩
   ·refine .inl ⟨k, ?_⟩;have:y ≠ n:=λe=>hj (W3 hN e1 (e ▸ hi));simp[this,e]
   ·exact .inr ⟨k,c,e,z.sameBut hs (I.cne y c e)⟩
 ·obtain⟨w',z⟩:=I.cell y c e;exact⟨w',z.sameBut hs (I.cne y c e)⟩
 ·obtain⟨e,n,ne,nf,d⟩:=I.pin p hp;exact⟨(hs.2 p.1 ne).trans e,n,ne,nf,d⟩
 ·refine(I.hok b ob e).stay (λc w' hc q=>(hs.2 c ?_).trans q) (λ_ q=>q) λ_ _ q=>q
  rintro rfl
  rcases hc with rfl | hc
  ·rw[I.free]at e;cases e
  ·rw[I.free]at hc;cases hc
end
section
theorem yQ {K:Frag}{e:Addr}{cls c:Value}{t:Expr}{n:Str}{b₀:Stmt}{suite:List Stmt}{pos:Pos}{rest:List ExceptHandler}{Q:Flow->Shared->Prop}(hx:exmOne K cls c=some true)
  (h:wpAny (model prog w) (A.mark (some (.ref e))) (eval t env) (λv s₁=>v=c/\K.In s₁.heap/\(∃oe,s₁.heap.get? e=some oe/\oe.cls=cls)/\
   wpAny (model prog w) (A.mark (some (.ref e))) (setFlight (.ref e) none) (λ_ s₂=>
     wpAny (model prog w) (A.mark (some (.ref e))) (storeName env n (.ref e)) (λ_ s₃=>
      wpAny (model prog w) (A.mark (some (.ref e))) (execs (b₀ :: suite) env)
       (λf s₄=>wpAny (model prog w) A (do bindName env n .none;unbindBehindTheSuite env n pos) (λ_ s₅=>Q f s₅) E s₄)
       (λ_ _=>False) s₃) (λ_ _=>False) s₂) (λ_ _=>False) s₁) (λ_ _=>False) s):
  wpAny (model prog w) A (handleBy (.ref e) env (.ExceptHandler (some t) (some n) (b₀ :: suite) pos :: rest)) Q E s:=by
 refine wpAny_handleBy_cons (codeAny_handlers_test (c7 h (λv s₁ h₁=> ?_) λ_ _ y=>y.elim)) (by intro q;cases q)
 obtain⟨rfl,X,⟨oe,he,hcls⟩,hk⟩:=h₁;have LT:Looks (model prog w) s₁.heap (typeOf (.ref e)) cls:=by
  rw[← hcls];exact(Looks.ld he).andThen .now
 refine(exm_one X LT hx) _ _ _ _ (λb o q=>q) (codeAny_handlers_suite_as ?_);exact c7 hk (λ_ s₂ h₂=>c7 h₂ (λ_ s₃ h₃=>c7 h₃ (λ_ _ y=>y) λ_ _ y=>y.elim) λ_ _ y=>y.elim) λ_ _ y=>y.elim
end
end L2
namespace L2
open PySem PySem.Spec PyProof.Rows PySem.W
section
theorem Inv.caught (I:Inv X pins σ H s)(L:UG X.prog X.w X.stack H s s' ea cls a0 B H')(fl:dE B X.stack ea cls a0 h3)(sl:s'.heap.UpToSlots h3):Inv X pins σ H' { s' with heap:=h3 }:=
 have L3:=L.on I.frNf fl sl
 I.call' L3.os L3.un (L.hok.kept fl.1) L3.bare (λb z=>absurd z (by simp))
theorem UG.fresh (L:UG P w outer H s s' ea cls a0 B H'):H' ea=none:=by
 cases q:H' ea with
 | none=>rfl
 | some o=>
  obtain⟨ob,e⟩:=(L.hok ea o q).there;have:=L.fly.2.1;rw[e]at this;cases this
theorem Inv.caughtX (I:Inv X pins σ H s)(L:UG X.prog X.w X.stack H s s' ea cls a0 B H')(fl:dE B X.stack ea cls a0 h3)(sl:s'.heap.UpToSlots h3):Inv X pins σ (upd H' ea (.ext (yP cls ea))) { s' with heap:=h3 }:=by
 have L3:=L.on I.frNf fl sl;have hfree:=L.fresh;obtain⟨oe,vs,he,hc,hd,_⟩:=fl.first;have hne:∀b o,s.heap.get? b=some o->b ≠ ea:=λb o e z=>by
  subst z
  by_cases hb:b∈frs X.stack
  ·obtain⟨n,o2,e2,nf⟩:=I.frNf b hb;obtain⟨sl1,e3⟩:=L3.un.slot b o2 e2 n hb (by simp)
   rw[he]at e3;cases e3;exact nf vs hd
  ·obtain⟨o',e'⟩:=(L.inB b o e hb).2;have:=L.fly.2.1;rw[e']at this;cases this
 have nt:∀b u,H' b=some u->b ≠ ea:=λb u e z=>by rw[z,hfree]at e;cases e
 refine I.call' L3.os ⟨L3.un.keep,L3.un.slot,λb o e n hx=> ?_,L3.un.there,λb xs e=> ?_,λb o xs e=> ?_,λb ps q e=> ?_⟩ ?_ L3.bare (λb z=>absurd z (by simp))
 ·rw[zk (hne b o e)];exact L3.un.free b o e n hx
 ·have:=L3.un.tups b xs e;rw[zk (nt b _ this)];exact this
 ·have:=L3.un.frzs b o xs e;rw[zk (nt b _ this)];exact this
 ·have:=L3.un.tbls b ps q e;rw[zk (nt b _ this)];exact this
 ·intro b u e
  by_cases hb:b=ea
  ·subst hb;rw[zD]at e;cases e;exact yP.ok ⟨oe,he,hc⟩
  ·rw[zk hb]at e;exact((L.hok.kept fl.1) b u e).stay (λ_ _ _ q=>q) (λc q=>by rw[zk (nt c _ q)];exact q) (λc xs q=>by rw[zk (nt c _ q)];exact q) λc o u q=>by rw[zk (nt c _ q)];exact q
end
theorem XR {tb:XK->TS}
  (hX:X.stack=X.env :: X.outer) (hf:X.env.frame=some X.env.locals) (hN:X.N.Nodup)
  (hi:X.N[i]? =some n) (hl:X.env.scope.names.lookup n=some .local) (hk:X.N[k]? =some y) (hy:X.env.scope.names.lookup y=some .local)
  (hg:Gl X c) (hm:X.mg c=some (.ref C))
  (hb:∀(E' :XK) (pn:List (Addr×Obj)) (xe:Value->Shared->Prop),ZL (CX1 X.prog X.w) (X.try' pn xe) E' ->PSs (X.try' pn xe) body (tb E'))
  (hs:swapsWith (.Name n np) (some (.Name y yp)) apos.line X.env=pure false:=by rfl)
  (hdc:(c == ("__debug__":Str))=false:=by decide) (hdn:(n == ("__debug__":Str))=false:=by decide) (hcd:(n == ("__classdict__":Str))=false:=by decide):
  PS X (.Try body [.ExceptHandler (some (.Name c cp)) (some n) [.Assign [.Name y yp] (.Name n np) apos] hp] [] [] pos)
   (λD σ H=>∃E' :XK,(∀(cls:Value) (d:Option Addr) (H' :Hp) (ea:Addr) (σ' :St),E' cls d H' ->exmOne X.K cls (.ref C)=some true/\(H' ea=none->σ'.length=σ.length->σ.length=X.N.length->D.nx (((σ'.set i (some (.ref ea))).set k (some (.ref ea))).set i none) (upd H' ea (.ext (yP cls ea)))))/\tb E' D σ H):=by
 intro pins s σ H D I ⟨E',hE,hw⟩;have pass:ZL (CX1 X.prog X.w) (X.try' (X.pn++pins) λe s1=>wpAny (model X.prog X.w) X.A (noteFrame e X.env) (λ_ s2=>wpAny (model X.prog X.w) X.A (setFlight e none) (λ_ s3=>wpAny (model X.prog X.w) X.A (handleBy e X.env [.ExceptHandler (some (.Name c cp)) (some n) [.Assign [.Name y yp] (.Name n np) apos] hp]) (SP X pins D) X.xe s3) X.xe s2) X.xe s1) E' :=by
  intro pins' σ' H1 s1 e s' I1 ⟨ea,cls,a0,B,H',he,L,hw'⟩;subst he;have I0:=I1.untry;have fr:X.A.frames=some (X.env :: X.outer):=by rw[← hX];exact I0.ok.frames
  refine wpAny_looks_onW fr hf (hX ▸ L.fly) λh1 held sl1=> ?_;refine wpAny_landsW held λh2 fl2 sl2=> ?_;rw[← hX]at fl2;have sl12:=sl1.trans sl2;have I2:=I0.caught L fl2 sl12;obtain⟨hm1,hD⟩:=hE cls _ H' ea σ' hw';refine yQ hm1 ?_;refine W4 (I2.mark' _) hg hm ⟨rfl,I2.kIn,fl2.there, ?_⟩ hdc;refine lands_againW fl2 λh3 fl3 sl3=> ?_;have I3:=I0.caughtX L fl3 (sl12.trans sl3);have hlen:=I0.len;refine jI (X:=X.mark' (.ref ea)) (I3.mark' _) hN hi (.inl hl) (v:= .ref ea) rfl (λs4 I4=> ?_) (.inr hl);have hiσ:i < σ'.length:=by rw[hlen];exact(au.mp hi).1
  have hs1:=uQ (WP (X:=X.mark' (.ref ea)) hN hk (.inl hy) (Yu hi (.inl hl) hdn hcd) hs (.inr hy));have hr:=hs1 _ s4 _ _ { nx:=λσ5 H5=>σ5=(σ'.set i _).set k _/\H5=upd H' ea _,rt:=λ_ _=>False } I4 ⟨.ref ea,aW hiσ,rfl,rfl⟩;refine c7 hr (λf s5 h5=> ?_) λ_ _ z=>z;cases f with
  | next=>
   obtain⟨σ5,H5,I5,rfl,rfl⟩:=h5;refine XQ (I5.unmark I.ok.hd) hN hi hl λs6 I6=> ?_;exact⟨_,_,I6,hD L.fresh (hlen.trans I.len.symm) I.len⟩
  | brk=>obtain⟨_,_,_,z⟩:=h5;exact z.elim
  | cont=>obtain⟨_,_,_,z⟩:=h5;exact z.elim
  | ret u=>obtain⟨_,_,_,_,_,z⟩:=h5;exact z.elim
 have hr:=hb E' _ _ pass [] s σ H D (I.try' _) hw;refine wpAny_Try_except (c7 hr (λf s1 h1=> ?_) λ_ _ z=>z);have h1:=h1.untry;cases f with
 | next=>exact wpAny_execs_nil h1
 | brk=>exact h1
 | cont=>exact h1
 | ret u=>exact h1
end L2
namespace PySem
open PySem.W
section
end
end PySem
namespace L2
open PySem PySem.Spec PyProof.Rows PySem.W
section
def Gc (X:Cx)(E:XK):Prop:=∀(pins:List (Addr×Obj)) (σ:St) (H:Hp) (s:Shared) (e:Value) (s' :Shared) (C:Addr) (m:Str->Option Value) (E' :Value->Shared->Prop) (cenv:Env),Inv X pins σ H s->s.heap.Ns C m->H C=none->X.s₀.heap.objs.size<=C->C ∉ frs X.stack->cenv.frame=X.env.frame->CX1 X.prog X.w X.stack H s E e s' ->
 wpAny (model X.prog X.w) X.A (noteFrame e cenv) (λ_ s'' =>∃m,s''.heap.Ns C m/\∀h',cP C s''.heap h' ->∀env:Env,env.locals=C->wpAny (model X.prog X.w) X.A (passOn "comprehension.variables-let-go" e env:Sem Value) (λ_ _=>False) X.xe { s'' with heap:=h' }) E' s'
theorem jW (h:E=λ_ _ _=>False):Gc X E:=λpins σ H s e s' C m E' cenv I _ _ _ _ _ ⟨_,_,_,_,_,_,_,z⟩=>by subst h;exact z.elim
end
end L2
namespace L2
open PySem PySem.Spec PyProof.Rows
theorem PE.imp (h:PE X e t)(i:∀σ H Q,t' σ H Q->t σ H Q):PE X e t' :=λpins s σ H Q I q=>h _ s σ H Q I (i σ H Q q)
theorem PT.imp (h:PT X e t)(i:∀σ H Q,t' σ H Q->t σ H Q):PT X e t' :=λpins s σ H Q I q=>h _ s σ H Q I (i σ H Q q)
theorem PA.imp (h:PA X e t)(i:∀σ H Q,t' σ H Q->t σ H Q):PA X e t' :=λpos pins s σ H Q I q=>h pos _ s σ H Q I (i σ H Q q)
theorem PS.imp (h:PS X e t)(i:∀D σ H,t' D σ H->t D σ H):PS X e t' :=λpins s σ H D I q=>h _ s σ H D I (i D σ H q)
theorem PSs.imp (h:PSs X e t)(i:∀D σ H,t' D σ H->t D σ H):PSs X e t' :=λpins s σ H D I q=>h _ s σ H D I (i D σ H q)
end L2
namespace PV
open PySem
noncomputable def u3:Expr->Bool
 | .Starred _ _=>false
 | _=>true
theorem zW (h:u3 e=true):starEach (e :: rest) env=(false,eval e env) :: starEach rest env:=by
 cases e <;> first | rfl | cases h
theorem st2 (h:u3 a=true)(h' :u3 b=true):starEach [a,b] env=[(false,eval a env),(false,eval b env)]:=by
 rw[zW h,zW h'];rfl
theorem st1 (h:u3 a=true):starEach [a] env=[(false,eval a env)]:=by
 rw[zW h];rfl
theorem Zq {pos:Pos}{env:Env}:∀{es:List Expr},es.all u3=true->((backTo pos (starEach es env)).any λx=>x.fst)=false
 | [],_=>rfl
 | e :: es,h=>by
  rw[bR,ac]at h;rw[zW h.1];have:=Zq (pos:=pos) (env:=env) h.2;show (false || ((backTo pos _).any λx=>x.fst))=false
  rw[this];rfl
open PySem PySem.Spec PyProof.Rows L2
noncomputable abbrev Sg:=L2.St
inductive T where
 | non | bl (b:Bool) | int (i:Int) | str (x:Str) | tup (xs:List T) | lst (xs:List T) | fz (xs:List T)
inductive R (α:Type) where
 | ok (a:α) | ex (c:Nat) | bad
noncomputable def R.bind {α β:Type}(r:R α)(f:α->R β):R β:=match r with
 | .ok a=>f a
 | .ex c=> .ex c
 | .bad=> .bad
mutual
inductive Rep (H:Hp):V->T->Prop where
 | non:Rep H .non .non
 | bl (b:Bool):Rep H (.bl b) (.bl b)
 | int (i:Int):Rep H (.int i) (.int i)
 | str (x:Str):Rep H (.str x) (.str x)
 | tup {a:Addr} {xs:List V} {ts:List T}:H a=some (.tup xs)->zC H xs ts->Rep H (.ref a) (.tup ts)
 | lst {a:Addr} {xs:List V} {ts:List T}:H a=some (.lst xs)->zC H xs ts->Rep H (.ref a) (.lst ts)
 | fz {a:Addr} {o:Obj} {xs:List V} {ts:List T}:H a=some (.frz o (.lst xs))->zC H xs ts->Rep H (.ref a) (.fz ts)
inductive zC (H:Hp):List V->List T->Prop where
 | nil:zC H [] []
 | cons {v:V} {t:T} {vs:List V} {ts:List T}:Rep H v t->zC H vs ts->zC H (v :: vs) (t :: ts)
end
mutual
theorem Rep.mono {H H' :Hp}(s:zt H H'):∀{v:V} {t:T},Rep H v t->Rep H' v t
 | _,_,.non=> .non
 | _,_,.bl b=> .bl b
 | _,_,.int i=> .int i
 | _,_,.str x=> .str x
 | _,_,.tup h r=> .tup (s _ _ h) (zC.mono s r)
 | _,_,.lst h r=> .lst (s _ _ h) (zC.mono s r)
 | _,_,.fz h r=> .fz (s _ _ h) (zC.mono s r)
theorem zC.mono {H H' :Hp}(s:zt H H'):∀{v:List V} {t:List T},zC H v t->zC H' v t
 | _,_,.nil=> .nil
 | _,_,.cons h r=> .cons (Rep.mono s h) (zC.mono s r)
end
theorem zC.length {H:Hp}:∀{vs:List V} {ts:List T},zC H vs ts->vs.length=ts.length
 | _,_,.nil=>rfl
 | _,_,.cons _ r=>congrArg _ (zC.length r)
theorem zC.get {H:Hp}:∀{vs:List V} {ts:List T} {i:Nat} {t:T},zC H vs ts->ts[i]? =some t->∃v,vs[i]? =some v/\Rep H v t
 | _,_,_,_,.nil,e=>by simp at e
 | _,_,0,_,.cons r _,e=>by simp at e;subst e;exact⟨_,rfl,r⟩
 | _,_,i+1,t,.cons _ q,e=>by
  obtain⟨v,h1,h2⟩:=zC.get q (by simpa using e)
  exact⟨v,by simpa using h1,h2⟩
theorem zC.getV {H:Hp}:∀{vs:List V} {ts:List T} {i:Nat} {v:V},zC H vs ts->vs[i]? =some v->∃t,ts[i]? =some t/\Rep H v t
 | _,_,_,_,.nil,e=>by simp at e
 | _,_,0,_,.cons r _,e=>by simp at e;subst e;exact⟨_,rfl,r⟩
 | _,_,i+1,v,.cons _ q,e=>by
  obtain⟨t,h1,h2⟩:=zC.getV q (by simpa using e)
  exact⟨t,by simpa using h1,h2⟩
theorem zC.append {H:Hp}:∀{vs ws:List V} {ts us:List T},zC H vs ts->zC H ws us->zC H (vs++ws) (ts++us)
 | _,_,_,_,.nil,q=>q
 | _,_,_,_,.cons r t,q=> .cons r (zC.append t q)
theorem zC.take {H:Hp}:∀{vs:List V} {ts:List T} (n:Nat),zC H vs ts->zC H (vs.take n) (ts.take n)
 | _,_,0,_=> .nil
 | _,_,_+1,.nil=> .nil
 | _,_,n+1,.cons r t=> .cons r (zC.take n t)
theorem zC.drop {H:Hp}:∀{vs:List V} {ts:List T} (n:Nat),zC H vs ts->zC H (vs.drop n) (ts.drop n)
 | _,_,0,r=>r
 | _,_,_+1,.nil=> .nil
 | _,_,n+1,.cons _ t=>zC.drop n t
theorem zC.rep {H:Hp}{vs:List V}{ts:List T}(h:zC H vs ts):∀n:Nat,zC H (af n vs).flatten (af n ts).flatten
 | 0=> .nil
 | n+1=>by
  exact h.append (zC.rep h n)
theorem zC.nil_iff (h:zC H vs ts):vs=[]↔ts=[]:=by
 cases h <;> simp
def zQ (B H H' :Hp):Hp:=λb=>match H b with
 | none=>H' b
 | some _=>B b
theorem Z5 (h:H b=none):zQ B H H' b=H' b:=by unfold zQ;rw[h]
theorem Z6 (h:H b=some o):zQ B H H' b=B b:=by unfold zQ;rw[h]
theorem zQ.ge (s:zt B H)(s' :zt H H'):zt B (zQ B H H'):=λb o h=>by
 rw[Z6 (s b o h)];exact h
theorem zQ.le (s:zt B H)(s' :zt H H'):zt (zQ B H H') H' :=λb o h=>by
 cases q:H b with
 | none=>rw[Z5 q]at h;exact h
 | some u=>rw[Z6 q]at h;exact s' b o (s b o h)
theorem zQ.self (B H:Hp)(s:zt B H):zQ B H H=B:=by
 funext b
 cases q:H b with
 | none=>
  rw[Z5 q,q];cases z:B b with
  | none=>rfl
  | some o=>rw[s b o z]at q;cases q
 | some u=>rw[Z6 q]
theorem zQ.trans (s1:zt H H1)(s2:zt H1 H2):zQ (zQ B H H1) H1 H2=zQ B H H2:=by
 funext b
 cases q:H b with
 | none=>
  rw[Z5 q];cases z:H1 b with
  | none=>rw[Z5 z]
  | some o=>rw[Z6 z,Z5 q,z,s2 b o z]
 | some u=>rw[Z6 q,Z6 (s1 b u q),Z6 q]
inductive Fd where
 | tv (t:T) | tl (ts:List T)
noncomputable abbrev Ob:=Nat×List (Str×Fd)
noncomputable def atts:List Str:=["kind","remaining","done","undone","first","last","answered"]
def InC (vs:List (Str×V)):Prop:=∀f,f ∉ atts->vs.lookup f=none
inductive Sl where
 | un | vl (t:T) | ow (ts:List T) | xc (c:Nat) | ob (k n:Nat) | oc (k:Nat) (fs:List (Str×Fd)) | st (os:List Ob)
noncomputable def Sl.isS:Sl->Bool
 | .ob _ _=>true
 | .st _=>true
 | _=>false
noncomputable def Sl.isO:Sl->Bool
 | .ob _ _=>true
 | .oc _ _=>true
 | .st _=>true
 | _=>false
noncomputable abbrev En:=List Sl
structure Fx where
 B0:Hp
 H0:Hp
 E:XK
 cl:Nat->Value
 as:List Addr
def z1w (ρ:En)(σ:Sg)(l:Addr):Prop:=∀(j:Nat) (us:List T),ρ[j]? =some (Sl.ow us)->σ[j]? ≠ some (some (V.ref l))
def FdR (Y:Fx)(B:Hp)(ρ:En)(σ:Sg)(H:Hp)(o:Addr->Prop)(v:V):Fd->Prop
 | .tv t=>Rep B v t
 | .tl ts=>∃l xs,v= .ref l/\B l=none/\Y.H0 l=none/\H l=some (.lst xs)/\zC B xs ts/\z1w ρ σ l/\o l
def FsO (B H:Hp)(vs:List (Str×V))(fs:List (Str×Fd)):Prop:=∀(m:Nat) (f:Str) (d:Fd),fs[m]? =some (f,d)->∃v,vs[m]? =some (f,v)/\match d with
 | .tv t=>Rep B v t
 | .tl ts=>∃l xs,v= .ref l/\H l=some (.lst xs)/\zC B xs ts
theorem FsO.mono {B B' H H' :Hp}{vs:List (Str×V)}{fs:List (Str×Fd)}(h:FsO B H vs fs)(s:zt B B')(s' :zt H H'):FsO B' H' vs fs:=λm f d e=>by
 obtain⟨v,e1,r⟩:=h m f d e;refine⟨v,e1, ?_⟩;cases d with
 | tv t=>exact Rep.mono s r
 | tl ts=>obtain⟨l,xs,a,b,c⟩:=r;exact⟨l,xs,a,s' _ _ b,c.mono s⟩
structure StI (Y:Fx) (B:Hp) (ρ:En) (σ:Sg) (H:Hp) (as:List Addr) (O:Addr->Option (Nat×Nat)):Prop where
 pre:Y.as <+:as
 len:∀(i:Nat) (os:List Ob),ρ[i]? =some (Sl.st os)->as.length=os.length
 one:∀(i j:Nat) (os os' :List Ob),ρ[i]? =some (Sl.st os)->ρ[j]? =some (Sl.st os')->i=j
 ob:∀(i k n:Nat),ρ[i]? =some (Sl.ob k n)->∃a C dx vs,as[n]? =some a/\σ[i]? =some (some (V.ref a))/\Y.cl k= .ref C/\H a=some (.ins C dx vs)/\B a=none/\Y.H0 a=none/\InC vs
 oc:∀(i k:Nat) (fs:List (Str×Fd)),ρ[i]? =some (Sl.oc k fs)->∃a C dx vs,σ[i]? =some (some (V.ref a))/\Y.cl k= .ref C/\Y.H0 a=some (.ins C dx vs)/\InC vs/\FsO B Y.H0 vs fs
 st:∀(i:Nat) (os:List Ob),ρ[i]? =some (Sl.st os)->∀(n k:Nat) (fs:List (Str×Fd)),os[n]? =some (k,fs)->∃a C dx vs,as[n]? =some a/\Y.cl k= .ref C/\H a=some (.ins C dx vs)/\B a=none/\Y.H0 a=none/\O a=some (n,0)/\(vs.length=fs.length/\InC vs)/\
  ∀(m:Nat) (f:Str) (d:Fd),fs[m]? =some (f,d)->∃v,vs[m]? =some (f,v)/\FdR Y B ρ σ H (λl=>O l=some (n,m+1)) v d
structure SI (Y:Fx) (B:Hp) (ρ:En) (σ:Sg) (H:Hp):Prop where
 s0:zt Y.B0 Y.H0
 sH:zt Y.H0 H
 sB:zt B H
 old:∀b o,Y.H0 b=some o->B b=Y.B0 b
 len:ρ.length=σ.length
 vl:∀(i:Nat) (t:T),ρ[i]? =some (Sl.vl t)->∃v:V,σ[i]? =some (some v)/\Rep B v t
 ow:∀(i:Nat) (ts:List T),ρ[i]? =some (Sl.ow ts)->∃(a:Addr) (xs:List V),σ[i]? =some (some (V.ref a))/\B a=none/\Y.H0 a=none/\H a=some (.lst xs)/\zC B xs ts/\
  ∀(j:Nat) (us:List T),j ≠ i->ρ[j]? =some (Sl.ow us)->σ[j]? ≠ some (some (V.ref a))
 xc:∀(i:Nat) (c:Nat),ρ[i]? =some (Sl.xc c)->∃a:Addr,σ[i]? =some (some (V.ref a))/\B a=some (.ext (yP (Y.cl c) a))
 st:∃as O,StI Y B ρ σ H as O
theorem StI.on {Y Y' :Fx}{B B' :Hp}{ρ ρ' :En}{σ σ' :Sg}{H H' :Hp}{as:List Addr}{O:Addr->Option (Nat×Nat)}(x:StI Y B ρ σ H as O)(hO:∀(i:Nat) (s:Sl),s.isO=true->ρ'[i]? =some s->ρ[i]? =some s/\σ'[i]? =σ[i]?)(hB:zt B B')(hc:Y'.cl=Y.cl)(hA:Y'.as=Y.as)(h0:zt Y.H0 Y'.H0)
  (hH:∀b o,H b=some o->B b=none->Y.H0 b=none->((∃C dx vs,o= .ins C dx vs)\/z1w ρ σ b)->H' b=some o/\B' b=none/\Y'.H0 b=none/\(z1w ρ σ b->z1w ρ' σ' b)):StI Y' B' ρ' σ' H' as O where
 pre:=by rw[hA];exact x.pre
 len:=λi os h=>x.len i os (hO i _ rfl h).1
 one:=λi j os os' h1 h2=>x.one i j os os' (hO i _ rfl h1).1 (hO j _ rfl h2).1
 ob:=λi k n h=>by
  obtain⟨h1,h2⟩:=hO i _ rfl h;obtain⟨a,C,dx,vs,e1,e2,e3,e4,e5,e6⟩:=x.ob i k n h1;obtain⟨g1,g2,g3,_⟩:=hH a _ e4 e5 e6.1 (.inl ⟨_,_,_,rfl⟩);rw[h2,hc];exact⟨a,C,dx,vs,e1,e2,e3,g1,g2,g3,e6.2⟩
 oc:=λi k fs h=>by
  obtain⟨h1,h2⟩:=hO i _ rfl h;obtain⟨a,C,dx,vs,e1,e2,e3,e4,e5⟩:=x.oc i k fs h1;rw[h2,hc];exact⟨a,C,dx,vs,e1,e2,h0 _ _ e3,e4,e5.mono hB h0⟩
 st:=λi os h n k fs e=>by
  obtain⟨a,C,dx,vs,e1,e2,e3,e4,e5,e6,e7,e8⟩:=x.st i os (hO i _ rfl h).1 n k fs e;obtain⟨g1,g2,g3,_⟩:=hH a _ e3 e4 e5 (.inl ⟨_,_,_,rfl⟩);refine⟨a,C,dx,vs,e1,by rw[hc];exact e2,g1,g2,g3,e6,e7,λm f d z=> ?_⟩
  obtain⟨v,z1,z2⟩:=e8 m f d z;refine⟨v,z1, ?_⟩;cases d with
  | tv t=>exact Rep.mono hB z2
  | tl ts=>
   obtain⟨l,xs,p1,p2,p3,p4,p5,p6,p7⟩:=z2;obtain⟨g1,g2,g3,g4⟩:=hH l _ p4 p2 p3 (.inr p6);exact⟨l,xs,p1,g2,g3,g1,p5.mono hB,g4 p6,p7⟩
theorem StI.no (h:∀(i:Nat) (s:Sl),s.isO=true->ρ[i]? ≠ some s):∃as O,StI Y B ρ σ H as O:=⟨Y.as,λ_=>none,eY _,λi os e=>(h i _ rfl e).elim,λi j os os' e=>(h i _ rfl e).elim,λi k n e=>(h i _ rfl e).elim,λi k fs e=>(h i _ rfl e).elim,λi os e=>(h i _ rfl e).elim⟩
theorem SI.grow {Y:Fx}{B:Hp}{ρ:En}{σ:Sg}{H H' :Hp}(I:SI Y B ρ σ H)(s:zt H H'):SI Y (zQ B H H') ρ σ H' where
 s0:=I.s0
 sH:=I.sH.trans s
 sB:=zQ.le I.sB s
 old:=λb o h=>by rw[Z6 (I.sH b o h)];exact I.old b o h
 len:=I.len
 vl:=λi t h=>let ⟨v,e,r⟩:=I.vl i t h;⟨v,e,r.mono (zQ.ge I.sB s)⟩
 ow:=λi ts h=>let ⟨a,xs,e,b,h0,hh,r,d⟩:=I.ow i ts h;⟨a,xs,e,by rw[Z6 hh];exact b,h0,s _ _ hh,r.mono (zQ.ge I.sB s),d⟩
 xc:=λi c h=>let ⟨a,e,r⟩:=I.xc i c h;⟨a,e,zQ.ge I.sB s a _ r⟩
 st:=let ⟨as,O,x⟩:=I.st;⟨as,O,x.on (λ_ _ _ h=>⟨h,rfl⟩) (zQ.ge I.sB s) rfl rfl (zt.refl _) λb o h hb h0 _=>⟨s _ _ h,by rw[Z6 h];exact hb,h0,id⟩⟩
def XP (Y:Fx)(B:Hp)(c:Nat):Prop:=∀(d:Option Addr) (H' :Hp),zt Y.H0 H' ->zt B H' ->Y.E (Y.cl c) d H'
def Po {α β:Type}(Y:Fx)(rel:Hp->Hp->β->α->Prop)(B H:Hp)(r:R α)(Q:β->Hp->Prop):Prop:=match r with
 | .ok a=>∀b H',zt H H' ->rel (zQ B H H') H' b a->Q b H'
 | .ex c=>XP Y B c
 | .bad=>False
abbrev rC:Hp->Hp->V->T->Prop:=λB _ v t=>Rep B v t
abbrev rB:Hp->Hp->V->T->Prop:=λ_ H v t=>Rep H v t
abbrev rCs:Hp->Hp->List V->List T->Prop:=λB _ v t=>zC B v t
abbrev rE {α:Type}:Hp->Hp->α->α->Prop:=λ_ _ a b=>a=b
def tS {α β:Type}(Y:Fx)(rel:Hp->Hp->β->α->Prop)(f:En->R α)(ρ:En):Sg->Hp->(β->Hp->Prop)->Prop:=λσ H Q=>∃B,SI Y B ρ σ H/\Po Y rel B H (f ρ) Q
structure Snd (X:Cx) (Y:Fx) (e:Expr) (f:En->R T):Prop where
 mk ::
 go:∀ρ,PE X e (tS Y rC f ρ)
instance {X:Cx}{Y:Fx}{e:Expr}{f:En->R T}:CoeFun (Snd X Y e f) λ_=>∀ρ,PE X e (tS Y rC f ρ):=⟨Snd.go⟩
structure je (X:Cx) (Y:Fx) (e:Expr) (f:En->R T):Prop where
 mk ::
 go:∀ρ,PE X e (tS Y rB f ρ)
instance {X:Cx}{Y:Fx}{e:Expr}{f:En->R T}:CoeFun (je X Y e f) λ_=>∀ρ,PE X e (tS Y rB f ρ):=⟨je.go⟩
structure WK (X:Cx) (Y:Fx) (e:Expr) (f:En->R Bool):Prop where
 mk ::
 go:∀ρ,PT X e (tS Y rE f ρ)
instance {X:Cx}{Y:Fx}{e:Expr}{f:En->R Bool}:CoeFun (WK X Y e f) λ_=>∀ρ,PT X e (tS Y rE f ρ):=⟨WK.go⟩
structure uN (X:Cx) (Y:Fx) (es:List Expr) (f:En->R (List T)):Prop where
 mk ::
 go:∀ρ,PA X es (tS Y rCs f ρ)
instance {X:Cx}{Y:Fx}{es:List Expr}{f:En->R (List T)}:CoeFun (uN X Y es f) λ_=>∀ρ,PA X es (tS Y rCs f ρ):=⟨uN.go⟩
theorem step {α α' β β' :Type}{rel:Hp->Hp->β->α->Prop}{rel' :Hp->Hp->β' ->α' ->Prop}{f:En->R α}{k:α->R α'}{Q:β' ->Hp->Prop}{K:β->Hp->Prop}
  (I:SI Y B ρ σ H) (h:Po Y rel' B H ((f ρ).bind k) Q)
  (n:∀a b H1,f ρ= .ok a->zt H H1->rel (zQ B H H1) H1 b a->SI Y (zQ B H H1) ρ σ H1->Po Y rel' (zQ B H H1) H1 (k a) Q->K b H1):tS Y rel f ρ σ H K:=by
 refine⟨B,I, ?_⟩;cases e:f ρ with
 | bad=>rw[e]at h;exact h
 | ex c=>rw[e]at h;exact h
 | ok a=>
  rw[e]at h;intro b H1 s r;refine n a b H1 e s r (I.grow s) ?_;have h' :Po Y _ B H (k a) Q:=h;revert h';cases k a with
  | bad=>exact λh' =>h'
  | ex c=>exact λh' d H' s0 sB' =>h' d H' s0 ((zQ.ge I.sB s).trans sB')
  | ok a' =>exact λh' b' H2 s2 r2=>h' b' H2 (s.trans s2) (by rw[← zQ.trans s s2];exact r2)
theorem ZB {α β:Type}{rel:Hp->Hp->β->α->Prop}{a:α}{b:β}{Q:β->Hp->Prop}(I:SI Y B ρ σ H)(h:Po Y rel B H (.ok a) Q)(r:rel B H b a):Q b H:=h b H (zt.refl H) (by rw[zQ.self B H I.sB];exact r)
theorem Snd.b {X:Cx}{Y:Fx}{e:Expr}{f:En->R T}(h:Snd X Y e f):je X Y e f:= .mk λρ=>PE.imp (h ρ) λσ H Q ⟨B,I,q⟩=>⟨B,I,by
 revert q;cases f ρ with
 | bad=>exact λq=>q
 | ex c=>exact λq=>q
 | ok a=>exact λq b H' s r=>q b H' s (r.mono (zQ.le I.sB s))⟩
section
def vE (i:Nat):En->R T:=λρ=>match ρ[i]? with
 | some (.vl t)=> .ok t
 | _=> .bad
def vB (i:Nat):En->R T:=λρ=>match ρ[i]? with
 | some (.vl t)=> .ok t
 | some (.ow ts)=> .ok (.lst ts)
 | _=> .bad
def cE (t:T):En->R T:=λ_=> .ok t
theorem z2y (i:Nat)(h:PE X (.Name x pos) (Uz i)):Snd X Y (.Name x pos) (vE i):= .mk λρ=>PE.imp h λσ H Q ⟨B,I,q⟩=>by
 unfold vE at q;split at q
 ·rename_i t e;obtain⟨v,e1,r⟩:=I.vl i t e;exact⟨v,e1,ZB I q r⟩
 ·exact q.elim
theorem Ge (i:Nat){x:Str}(h:PE X (.Name x pos) (Uz i)):je X Y (.Name x pos) (vB i):= .mk λρ=>PE.imp h λσ H Q ⟨B,I,q⟩=>by
 unfold vB at q;split at q
 ·rename_i t e;obtain⟨v,e1,r⟩:=I.vl i t e;exact⟨v,e1,ZB I q (r.mono I.sB)⟩
 ·rename_i ts e;obtain⟨a,xs,e1,_,_,hh,r,_⟩:=I.ow i ts e;exact⟨.ref a,e1,ZB I q (.lst hh (r.mono I.sB))⟩
 ·exact q.elim
theorem z2z {i j}:Snd X Y (.Constant (.int i) j pos) (cE (.int i)):= .mk λρ=>PE.imp gD λσ H Q ⟨B,I,q⟩=>ZB I q (.int i)
theorem s_bl {i j}:Snd X Y (.Constant (.bool i) j pos) (cE (.bl i)):= .mk λρ=>PE.imp z2b λσ H Q ⟨B,I,q⟩=>ZB I q (.bl i)
theorem z2A {j}:Snd X Y (.Constant .none j pos) (cE .non):= .mk λρ=>PE.imp xy λσ H Q ⟨B,I,q⟩=>ZB I q .non
theorem Gf {i j}:Snd X Y (.Constant (.str i) j pos) (cE (.str i)):= .mk λρ=>PE.imp xz λσ H Q ⟨B,I,q⟩=>ZB I q (.str i)
def zd:En->R (List T):=λ_=> .ok []
def z9 (f:En->R T)(g:En->R (List T)):En->R (List T):=λρ=>(f ρ).bind λt=>(g ρ).bind λts=> .ok (t :: ts)
theorem Gg:uN X Y [] zd:= .mk λρ=>PA.imp zP λσ H Q ⟨B,I,q⟩=>ZB I q .nil
theorem xE {es:List Expr}{g:En->R (List T)}(h:Snd X Y a fa)(hs:uN X Y es g)(hq:starEach (a :: es) X.env=(false,eval a X.env) :: starEach es X.env:=by exact zW rfl):uN X Y (a :: es) (z9 fa g):= .mk λρ=>
 PA.imp (zv (h ρ) (hs ρ) hq) λσ H Q ⟨B,I,q⟩=>step I q λt v H1 _ s1 r1 I1 q1=>step I1 q1 λts vs H2 _ s2 r2 I2 q2=>ZB I2 q2 (.cons (r1.mono (zQ.ge I1.sB s2)) r2)
theorem zt.new (h:H p=none)(o:HO):zt H (upd H p o):=λb u q=>by rw[zk (zF q h)];exact q
theorem j1 (h:H p=none)(o:HO):zQ B H (upd H p o) p=some o:=by rw[Z5 h,zD]
noncomputable def bnd:Nat:=16777216
theorem ZM (h:n<=bnd):n<=sizeLine:=by exact h
def zG (g:En->R (List T)):En->R T:=λρ=>(g ρ).bind λts=>if ts.length<=bnd then .ok (.tup ts) else .bad
def Ze (g:En->R (List T)):En->R T:=λρ=>(g ρ).bind λts=>if ts.length<=bnd then .ok (.lst ts) else .bad
theorem XS {ρ:En}{σ:Sg}{B H:Hp}{xs:List V}{ts:List T}(I:SI Y B ρ σ H)(r:zC B xs ts){p:Addr}(h:H p=none):Rep (zQ B H (upd H p (.tup xs))) (.ref p) (.tup ts):=
 .tup (j1 h _) (r.mono (zQ.ge I.sB (zt.new h _)))
theorem XT {ρ:En}{σ:Sg}{B H:Hp}{xs:List V}{ts:List T}(I:SI Y B ρ σ H)(r:zC B xs ts){p:Addr}(h:H p=none):Rep (zQ B H (upd H p (.lst xs))) (.ref p) (.lst ts):=
 .lst (j1 h _) (r.mono (zQ.ge I.sB (zt.new h _)))
theorem z2B {es:List Expr}{g:En->R (List T)}{x1}(h:uN X Y es g):Snd X Y (.Tuple es x1 pos) (zG g):= .mk λρ=>PE.imp (gW (h ρ)) λσ H Q ⟨B,I,q⟩=>
 step I q λts vs H1 _ s1 r1 I1 q1=>by
  split at q1
  ·rename_i hb;refine⟨by rw[r1.length];exact ZM hb,λp hp=>q1 _ _ (zt.new hp _) (XS I1 r1 hp)⟩
  ·exact q1.elim
theorem z2C {es:List Expr}{g:En->R (List T)}(h:uN X Y es g):Snd X Y (.List es pos) (Ze g):= .mk λρ=>PE.imp (xC (h ρ)) λσ H Q ⟨B,I,q⟩=>
 step I q λts vs H1 _ s1 r1 I1 q1=>by
  split at q1
  ·rename_i hb;refine⟨by rw[r1.length];exact ZM hb,λp hp=>q1 _ _ (zt.new hp _) (XT I1 r1 hp)⟩
  ·exact q1.elim
end
end PV
namespace PV
open PySem PySem.Spec PyProof.Rows L2
noncomputable def eqL (f:T->T->Option Bool):List T->List T->Option Bool
 | [],[]=>some true
 | [],_ :: _=>some false
 | _ :: _,[]=>some false
 | x :: xs,y :: ys=>match f x y with
  | none=>none
  | some b=>match eqL f xs ys with
   | none=>none
   | some c=>some (b && c)
noncomputable def b2 (b:Bool):Int:=if b then 1 else 0
def eqF:Nat->T->T->Option Bool
 | _,.non,.non=>some true
 | _,.bl a,.bl b=>some (a == b)
 | _,.bl a,.int j=>some (b2 a == j)
 | _,.int i,.bl b=>some (i == b2 b)
 | _,.int i,.int j=>some (i == j)
 | _,.str x,.str y=>some (x == y)
 | n+1,.tup xs,.tup ys=>eqL (eqF n) xs ys
 | n+1,.lst xs,.lst ys=>eqL (eqF n) xs ys
 | n+1,.fz xs,.lst ys=>eqL (eqF n) xs ys
 | n+1,.lst xs,.fz ys=>eqL (eqF n) xs ys
 | n+1,.fz xs,.fz ys=>eqL (eqF n) xs ys
 | 0,.tup _,.tup _=>none
 | 0,.lst _,.lst _=>none
 | 0,.fz _,.lst _=>none
 | 0,.lst _,.fz _=>none
 | 0,.fz _,.fz _=>none
 | _,.non,_=>some false
 | _,.bl _,_=>some false
 | _,.int _,_=>some false
 | _,.str _,_=>some false
 | _,.tup _,_=>some false
 | _,.lst _,_=>some false
 | _,.fz _,_=>some false
mutual
theorem Rep.fn {H:Hp}:∀{v:V} {t t' :T},Rep H v t->Rep H v t' ->t=t'
 | _,_,_,.non,.non=>rfl
 | _,_,_,.bl _,.bl _=>rfl
 | _,_,_,.int _,.int _=>rfl
 | _,_,_,.str _,.str _=>rfl
 | _,_,_,.tup h r,.tup h' r' =>by
  rw[h]at h';cases h';rw[zC.fn r r']
 | _,_,_,.tup h r,.lst h' r' =>by rw[h]at h';cases h'
 | _,_,_,.tup h r,.fz h' r' =>by rw[h]at h';cases h'
 | _,_,_,.lst h r,.tup h' r' =>by rw[h]at h';cases h'
 | _,_,_,.lst h r,.lst h' r' =>by
  rw[h]at h';cases h';rw[zC.fn r r']
 | _,_,_,.lst h r,.fz h' r' =>by rw[h]at h';cases h'
 | _,_,_,.fz h r,.tup h' r' =>by rw[h]at h';cases h'
 | _,_,_,.fz h r,.lst h' r' =>by rw[h]at h';cases h'
 | _,_,_,.fz h r,.fz h' r' =>by
  rw[h]at h';cases h';rw[zC.fn r r']
theorem zC.fn {H:Hp}:∀{v:List V} {t t' :List T},zC H v t->zC H v t' ->t=t'
 | _,_,_,.nil,.nil=>rfl
 | _,_,_,.cons h r,.cons h' r' =>by rw[Rep.fn h h',zC.fn r r']
end
theorem Zr {f:T->T->Option Bool}(hf:∀x b,f x x=some b->b=true):∀(xs:List T) (b:Bool),eqL f xs xs=some b->b=true
 | [],b,h=>by
  have h' :=h;cases h';rfl
 | x :: xs,b,h=>by
  unfold eqL at h;cases e:f x x with
  | none=>rw[e]at h;cases h
  | some c=>
   rw[e]at h;cases e' :eqL f xs xs with
   | none=>rw[e']at h;cases h
   | some d=>
    rw[e']at h;cases h;rw[hf x c e,Zr hf xs d e'];rfl
theorem Zd:∀(n:Nat) (t:T) (b:Bool),eqF n t t=some b->b=true
 | n,.non,b,h=>by unfold eqF at h;cases h;rfl
 | n,.bl x,b,h=>by unfold eqF at h;cases h;simp
 | n,.int x,b,h=>by unfold eqF at h;cases h;simp
 | n,.str x,b,h=>by unfold eqF at h;cases h;simp
 | 0,.tup x,b,h=>by cases h
 | 0,.lst x,b,h=>by cases h
 | 0,.fz x,b,h=>by cases h
 | n+1,.tup x,b,h=>by exact Zr (Zd n) x b h
 | n+1,.lst x,b,h=>by exact Zr (Zd n) x b h
 | n+1,.fz x,b,h=>by exact Zr (Zd n) x b h
theorem YT {f:T->T->Option Bool}:∀{xs ys:List T} {b:Bool},eqL f xs ys=some b->
  ∃e:Nat->Bool,(∀j x y,xs[j]? =some x->ys[j]? =some y->f x y=some (e j))/\((aX (min xs.length ys.length)).all e && xs.length == ys.length)=b
 | [],[],b,h=>by
  have h' :=h;cases h';exact⟨λ_=>true,λj x y h=>by simp at h,by simp⟩
 | [],y :: ys,b,h=>by
  have h' :=h;cases h';exact⟨λ_=>true,λj x y h=>by simp at h,by simp⟩
 | x :: xs,[],b,h=>by
  have h' :=h;cases h';exact⟨λ_=>true,λj x y h h' =>by simp at h',by simp⟩
 | x :: xs,y :: ys,b,h=>by
  unfold eqL at h;cases e:f x y with
  | none=>rw[e]at h;cases h
  | some c=>
   rw[e]at h;cases e' :eqL f xs ys with
   | none=>rw[e']at h;cases h
   | some d=>
    rw[e']at h;cases h;obtain⟨g,h1,h2⟩:=YT e';refine⟨λj=>match j with | 0=>c | j+1=>g j,λj u v hu hv=> ?_, ?_⟩
    ·cases j with
     | zero=>simp at hu hv;subst hu hv;exact e
     | succ j=>exact h1 j u v (by simpa using hu) (by simpa using hv)
    ·have z:min (x :: xs).length (y :: ys).length=min xs.length ys.length+1:=by simp only[ai];omega
     rw[z,ci,bR,ir];have z2:((x :: xs).length == (y :: ys).length)=(xs.length == ys.length):=by simp
     rw[z2,← h2,Bool.and_assoc];rfl
section
theorem ZP (I:L2.Inv X pins σ H s)(h:H a=some (.tup xs))(r:zC H xs ts):∃its:List Value,Vals xs its/\s.heap.IsTuple a its.toArray/\ts.length=its.length/\xs.length<=sizeLine:=by
 obtain⟨its,rv,p,z⟩:=I.tuple (SqT.of h);exact⟨its,rv,p,by rw[← r.length];exact rv.length,z⟩
theorem zO (I:L2.Inv X pins σ H s)(h:Rd H a (.lst xs))(r:zC H xs ts):∃its:List Value,Vals xs its/\s.heap.IsList a its.toArray/\ts.length=its.length/\xs.length<=sizeLine:=by
 obtain⟨its,rv,p,z⟩:=I.list (.inl h);exact⟨its,rv,p.isList,by rw[← r.length];exact rv.length,z⟩
end
noncomputable abbrev EqN (A:Around)(s:Shared)(u u' :Value)(b:Bool):Prop:=d5 A s u u' b/\fy A s u u' b/\dF A s u u' (!b)
section
theorem YU {f:T->T->Option Bool}{e:Nat->Bool}(r:zC H xs ts)(r' :zC H ys us)(v:Vals xs its)(v' :Vals ys its')
  (he:∀(j:Nat) (x y:T),ts[j]? =some x->us[j]? =some y->f x y=some (e j))
  (ih:∀(x y:T) (b:Bool) (p q:V) (u w:Value),f x y=some b->Rep H p x->Rep H q y->RelV p u->RelV q w->EqN A s u w b) (j:Nat) (h1:j < its.toArray.size) (h2:j < its'.toArray.size):
  d5 A s its.toArray[j] its'.toArray[j] (e j):=by
 have l1:=v.length;have l2:=v'.length;have k1:j < xs.length:=by simp at h1;omega
 have k2:j < ys.length:=by simp at h2;omega
 obtain⟨t,et,rt⟩:=r.getV (ah k1);obtain⟨t',et',rt'⟩:=r'.getV (ah k2);obtain⟨u,eu,ru⟩:=v.get (ah k1);obtain⟨u',eu',ru'⟩:=v'.get (ah k2);have q1:=by
  have:its[j]? =some its.toArray[j]:=by simp at h1 ⊢
  rw[eu]at this;exact(aL this).symm
 have q2:=by
  have:its'[j]? =some its'.toArray[j]:=by simp at h2 ⊢
  rw[eu']at this;exact(aL this).symm
 rw[q1,q2];exact(ih t t' _ _ _ u u' (he j t t' et et') rt rt' ru ru').1
theorem XU {A:Around}{a c:Addr}{xs ys:List V}{ts us:List T}{b:Bool}{f:T->T->Option Bool}(I:L2.Inv X pins σ H s)(hu:A.units < cLine)(ha:H a=some (.tup xs))(hc:H c=some (.tup ys))(r:zC H xs ts)(r' :zC H ys us)
  (hb:eqL f ts us=some b) (hr:∀x b,f x x=some b->b=true)
  (ih:∀(x y:T) (b:Bool) (p q:V) (u w:Value),f x y=some b->Rep H p x->Rep H q y->RelV p u->RelV q w->EqN A.in1 s u w b):EqN A s (.ref a) (.ref c) b:=by
 obtain⟨its,v,p,l,_⟩:=ZP I ha r;obtain⟨its',v',p',l',_⟩:=ZP I hc r';obtain⟨e,he,hb'⟩:=YT hb;have hp:=YU r r' v v' he ih;have z:((aX (min its.toArray.size its'.toArray.size)).all e && its.toArray.size == its'.toArray.size)=b:=by
  rw[← hb'];simp[l,l']
 have R:=fy.tuples p p' hu hp;have N:=dF.tuples p p' hu hp;rw[z]at R;have N' :dF A s (.ref a) (.ref c) (!b):=by
  rw[← z];exact N
 refine⟨?_,R,N'⟩
 by_cases hac:a=c
 ·subst hac;rw[ha]at hc;cases hc;have:=r.fn r';subst this;rw[Zr hr ts b hb];exact l9 _
 ·exact i6 hac R
theorem W8 {A:Around}{a c:Addr}{xs ys:List V}{ts us:List T}{b:Bool}{f:T->T->Option Bool}(I:L2.Inv X pins σ H s)(hu:A.units < cLine)(ha:Rd H a (.lst xs))(hc:Rd H c (.lst ys))(r:zC H xs ts)(r' :zC H ys us)
  (hb:eqL f ts us=some b) (hr:∀x b,f x x=some b->b=true)
  (ih:∀(x y:T) (b:Bool) (p q:V) (u w:Value),f x y=some b->Rep H p x->Rep H q y->RelV p u->RelV q w->EqN A.in1 s u w b):EqN A s (.ref a) (.ref c) b:=by
 obtain⟨its,v,p,l,_⟩:=zO I ha r;obtain⟨its',v',p',l',_⟩:=zO I hc r';obtain⟨e,he,hb'⟩:=YT hb;have hp:=YU r r' v v' he ih;have RN:fy A s (.ref a) (.ref c) b/\dF A s (.ref a) (.ref c) (!b):=by
  by_cases hl:its.toArray.size=its'.toArray.size
  ·have z:(aX its.toArray.size).all e=b:=by
    rw[← hb'];have:ts.length=us.length:=by simp at hl;omega
    rw[this];have k:its.toArray.size=us.length:=by simp;omega
    rw[k];simp
   have R:=fy.lists p p' hl hu hp;have N:=dF.lists p p' hl hu hp;rw[z]at R;refine⟨R, ?_⟩;rw[← z];exact N
  ·have hl' :(its.toArray.size != its'.toArray.size)=true:=by simpa using hl
   have z:b=false:=by
    rw[← hb'];have:¬ ts.length=us.length:=by simp at hl;omega
    simp[this]
   subst z;exact⟨fy.lists_lengths p p' hl' hu,dF.lists_lengths p p' hl' hu⟩
 refine⟨?_,RN.1,RN.2⟩
 by_cases hac:a=c
 ·subst hac;have hxy:xs=ys:=by
   rcases ha with ha | ⟨o,ha⟩ <;> rcases hc with hc | ⟨o',hc⟩ <;> (rw[ha]at hc;cases hc) <;> rfl
  subst hxy;have:=r.fn r';subst this;rw[Zr hr ts b hb];exact l9 _
 ·exact i6 hac RN.1
end
section
variable {X:Cx}{pins:List (Addr×Obj)}{σ:Sg}{H:Hp}{s:Shared}
theorem jM {A:Around}:A.in1.units=A.units+1:=rfl
set_option maxHeartbeats 2000000 in
theorem YV (I:L2.Inv X pins σ H s):∀(A:Around),A.units < cLine->∀(x y:T) (b:Bool) (p q:V) (u w:Value),eqF 0 x y=some b->Rep H p x->Rep H q y->RelV p u->RelV q w->EqN A s u w b:=by
 intro A hu x y b p q u w h rp rq ru rw';have hu' :=hu;cases rp with
 | non=>
  obtain rfl:u=Value.none:=ru;cases rq with
  | non=>obtain rfl:w=Value.none:=rw';unfold eqF at h;cases h;exact⟨.same _,.none_none,.none_none⟩
  | bl c=>obtain rfl:w=Value.bool c:=rw';unfold eqF at h;cases h;exact⟨.none_bool _,.none_bool _,.none_bool _⟩
  | int c=>obtain⟨t,rfl⟩:=rw';unfold eqF at h;cases h;exact⟨.none_int _ _,.none_int _ _,.none_int _ _⟩
  | str c=>obtain⟨t,rfl⟩:=rw';unfold eqF at h;cases h;exact⟨.none_str _ _,.none_str _ _,.none_str _ _⟩
  | tup h1 r1=>obtain rfl:w=Value.ref _:=rw';unfold eqF at h;cases h;obtain⟨i,_,p,_⟩:=ZP I h1 r1;exact⟨.none_tuple p hu',.none_tuple p hu',.none_tuple p hu'⟩
  | lst h1 r1=>obtain rfl:w=Value.ref _:=rw';unfold eqF at h;cases h;obtain⟨i,_,p,_⟩:=zO I (.inl h1) r1;exact⟨.none_list p hu',.none_list p hu',.none_list p hu'⟩
  | fz h1 r1=>obtain rfl:w=Value.ref _:=rw';unfold eqF at h;cases h;obtain⟨i,_,p,_⟩:=zO I (.inr ⟨_,h1⟩) r1;exact⟨.none_list p hu',.none_list p hu',.none_list p hu'⟩
 | bl d=>
  obtain rfl:u=Value.bool d:=ru;cases rq with
  | non=>obtain rfl:w=Value.none:=rw';unfold eqF at h;cases h;exact⟨.bool_none _,.bool_none _,.bool_none _⟩
  | bl c=>obtain rfl:w=Value.bool c:=rw';unfold eqF at h;cases h;exact⟨.bool_bool _ _,.bool_bool _ _,.bool_bool _ _⟩
  | int c=>obtain⟨t,rfl⟩:=rw';unfold eqF at h;cases h;exact⟨.bool_int _ _ _,.bool_int _ _ _,.bool_int _ _ _⟩
  | str c=>obtain⟨t,rfl⟩:=rw';unfold eqF at h;cases h;exact⟨.bool_str _ _ _,.bool_str _ _ _,.bool_str _ _ _⟩
  | tup h1 r1=>obtain rfl:w=Value.ref _:=rw';unfold eqF at h;cases h;obtain⟨i,_,p,_⟩:=ZP I h1 r1;exact⟨.bool_tuple _ p hu',.bool_tuple _ p hu',.bool_tuple _ p hu'⟩
  | lst h1 r1=>obtain rfl:w=Value.ref _:=rw';unfold eqF at h;cases h;obtain⟨i,_,p,_⟩:=zO I (.inl h1) r1;exact⟨.bool_list _ p hu',.bool_list _ p hu',.bool_list _ p hu'⟩
  | fz h1 r1=>obtain rfl:w=Value.ref _:=rw';unfold eqF at h;cases h;obtain⟨i,_,p,_⟩:=zO I (.inr ⟨_,h1⟩) r1;exact⟨.bool_list _ p hu',.bool_list _ p hu',.bool_list _ p hu'⟩
 | int d=>
  obtain⟨t0,rfl⟩:=ru;cases rq with
  | non=>obtain rfl:w=Value.none:=rw';unfold eqF at h;cases h;exact⟨.int_none _ _,.int_none _ _,.int_none _ _⟩
  | bl c=>obtain rfl:w=Value.bool c:=rw';unfold eqF at h;cases h;exact⟨.int_bool _ _ _,.int_bool _ _ _,.int_bool _ _ _⟩
  | int c=>obtain⟨t,rfl⟩:=rw';unfold eqF at h;cases h;exact⟨.int_int _ _ _ _,.int_int _ _ _ _,.int_int _ _ _ _⟩
  | str c=>obtain⟨t,rfl⟩:=rw';unfold eqF at h;cases h;exact⟨.int_str _ _ _ _,.int_str _ _ _ _,.int_str _ _ _ _⟩
  | tup h1 r1=>obtain rfl:w=Value.ref _:=rw';unfold eqF at h;cases h;obtain⟨i,_,p,_⟩:=ZP I h1 r1;exact⟨.int_tuple _ _ p hu',.int_tuple _ _ p hu',.int_tuple _ _ p hu'⟩
  | lst h1 r1=>obtain rfl:w=Value.ref _:=rw';unfold eqF at h;cases h;obtain⟨i,_,p,_⟩:=zO I (.inl h1) r1;exact⟨.int_list _ _ p hu',.int_list _ _ p hu',.int_list _ _ p hu'⟩
  | fz h1 r1=>obtain rfl:w=Value.ref _:=rw';unfold eqF at h;cases h;obtain⟨i,_,p,_⟩:=zO I (.inr ⟨_,h1⟩) r1;exact⟨.int_list _ _ p hu',.int_list _ _ p hu',.int_list _ _ p hu'⟩
 | str d=>
  obtain⟨t0,rfl⟩:=ru;cases rq with
  | non=>obtain rfl:w=Value.none:=rw';unfold eqF at h;cases h;exact⟨.str_none _ _,.str_none _ _,.str_none _ _⟩
  | bl c=>obtain rfl:w=Value.bool c:=rw';unfold eqF at h;cases h;exact⟨.str_bool _ _ _,.str_bool _ _ _,.str_bool _ _ _⟩
  | int c=>obtain⟨t,rfl⟩:=rw';unfold eqF at h;cases h;exact⟨.str_int _ _ _ _,.str_int _ _ _ _,.str_int _ _ _ _⟩
  | str c=>obtain⟨t,rfl⟩:=rw';unfold eqF at h;cases h;exact⟨.str_str _ _ _ _,.str_str _ _ _ _,.str_str _ _ _ _⟩
  | tup h1 r1=>obtain rfl:w=Value.ref _:=rw';unfold eqF at h;cases h;obtain⟨i,_,p,_⟩:=ZP I h1 r1;exact⟨.str_tuple _ _ p hu',.str_tuple _ _ p hu',.str_tuple _ _ p hu'⟩
  | lst h1 r1=>obtain rfl:w=Value.ref _:=rw';unfold eqF at h;cases h;obtain⟨i,_,p,_⟩:=zO I (.inl h1) r1;exact⟨.str_list _ _ p hu',.str_list _ _ p hu',.str_list _ _ p hu'⟩
  | fz h1 r1=>obtain rfl:w=Value.ref _:=rw';unfold eqF at h;cases h;obtain⟨i,_,p,_⟩:=zO I (.inr ⟨_,h1⟩) r1;exact⟨.str_list _ _ p hu',.str_list _ _ p hu',.str_list _ _ p hu'⟩
 | tup h0 r0=>
  obtain rfl:u=Value.ref _:=ru;obtain⟨i0,_,p0,_⟩:=ZP I h0 r0;cases rq with
  | non=>obtain rfl:w=Value.none:=rw';unfold eqF at h;cases h;exact⟨.tuple_none p0 hu',.tuple_none p0 hu',.tuple_none p0 hu'⟩
  | bl c=>obtain rfl:w=Value.bool c:=rw';unfold eqF at h;cases h;exact⟨.tuple_bool _ p0 hu',.tuple_bool _ p0 hu',.tuple_bool _ p0 hu'⟩
  | int c=>obtain⟨t,rfl⟩:=rw';unfold eqF at h;cases h;exact⟨.tuple_int _ _ p0 hu',.tuple_int _ _ p0 hu',.tuple_int _ _ p0 hu'⟩
  | str c=>obtain⟨t,rfl⟩:=rw';unfold eqF at h;cases h;exact⟨.tuple_str _ _ p0 hu',.tuple_str _ _ p0 hu',.tuple_str _ _ p0 hu'⟩
  | tup h1 r1=>unfold eqF at h;cases h
  | lst h1 r1=>obtain rfl:w=Value.ref _:=rw';unfold eqF at h;cases h;obtain⟨i,_,p,_⟩:=zO I (.inl h1) r1;exact⟨.tuple_list p0 p hu',.tuple_list p0 p hu',.tuple_list p0 p hu'⟩
  | fz h1 r1=>obtain rfl:w=Value.ref _:=rw';unfold eqF at h;cases h;obtain⟨i,_,p,_⟩:=zO I (.inr ⟨_,h1⟩) r1;exact⟨.tuple_list p0 p hu',.tuple_list p0 p hu',.tuple_list p0 p hu'⟩
 | lst h0 r0=>
  obtain rfl:u=Value.ref _:=ru;obtain⟨i0,_,p0,_⟩:=zO I (.inl h0) r0;cases rq with
  | non=>obtain rfl:w=Value.none:=rw';unfold eqF at h;cases h;exact⟨.list_none p0 hu',.list_none p0 hu',.list_none p0 hu'⟩
  | bl c=>obtain rfl:w=Value.bool c:=rw';unfold eqF at h;cases h;exact⟨.list_bool _ p0 hu',.list_bool _ p0 hu',.list_bool _ p0 hu'⟩
  | int c=>obtain⟨t,rfl⟩:=rw';unfold eqF at h;cases h;exact⟨.list_int _ _ p0 hu',.list_int _ _ p0 hu',.list_int _ _ p0 hu'⟩
  | str c=>obtain⟨t,rfl⟩:=rw';unfold eqF at h;cases h;exact⟨.list_str _ _ p0 hu',.list_str _ _ p0 hu',.list_str _ _ p0 hu'⟩
  | tup h1 r1=>obtain rfl:w=Value.ref _:=rw';unfold eqF at h;cases h;obtain⟨i,_,p,_⟩:=ZP I h1 r1;exact⟨.list_tuple p0 p hu',.list_tuple p0 p hu',.list_tuple p0 p hu'⟩
  | lst h1 r1=>unfold eqF at h;cases h
  | fz h1 r1=>unfold eqF at h;cases h
 | fz h0 r0=>
  obtain rfl:u=Value.ref _:=ru;obtain⟨i0,_,p0,_⟩:=zO I (.inr ⟨_,h0⟩) r0;cases rq with
  | non=>obtain rfl:w=Value.none:=rw';unfold eqF at h;cases h;exact⟨.list_none p0 hu',.list_none p0 hu',.list_none p0 hu'⟩
  | bl c=>obtain rfl:w=Value.bool c:=rw';unfold eqF at h;cases h;exact⟨.list_bool _ p0 hu',.list_bool _ p0 hu',.list_bool _ p0 hu'⟩
  | int c=>obtain⟨t,rfl⟩:=rw';unfold eqF at h;cases h;exact⟨.list_int _ _ p0 hu',.list_int _ _ p0 hu',.list_int _ _ p0 hu'⟩
  | str c=>obtain⟨t,rfl⟩:=rw';unfold eqF at h;cases h;exact⟨.list_str _ _ p0 hu',.list_str _ _ p0 hu',.list_str _ _ p0 hu'⟩
  | tup h1 r1=>obtain rfl:w=Value.ref _:=rw';unfold eqF at h;cases h;obtain⟨i,_,p,_⟩:=ZP I h1 r1;exact⟨.list_tuple p0 p hu',.list_tuple p0 p hu',.list_tuple p0 p hu'⟩
  | lst h1 r1=>unfold eqF at h;cases h
  | fz h1 r1=>unfold eqF at h;cases h
set_option maxHeartbeats 2000000 in
theorem YW (I:L2.Inv X pins σ H s):∀(n:Nat) (A:Around),A.units+n < cLine->∀(x y:T) (b:Bool) (p q:V) (u w:Value),eqF n x y=some b->Rep H p x->Rep H q y->RelV p u->RelV q w->EqN A s u w b:=by
 intro n
 induction n with
 | zero=>exact λA hu x y b p q u w h=>YV I A (by omega) x y b p q u w h
 | succ n ih=>
  intro A hu x y b p q u w h rp rq ru rw';have low:=λh=>YV I A (by omega) x y b p q u w h rp rq ru rw'
  have hu' :A.units < cLine:=by omega
  have ih' :=ih A.in1 (by rw[jM];omega)
  cases rp with
  | tup h0 r0=>
   cases rq with
   | tup h1 r1=>
    obtain rfl:u=Value.ref _:=ru;obtain rfl:w=Value.ref _:=rw';exact XU I hu' h0 h1 r0 r1 h (Zd n) ih'
   | _=>exact low (by exact h)
  | lst h0 r0=>
   cases rq with
   | lst h1 r1=>
    obtain rfl:u=Value.ref _:=ru;obtain rfl:w=Value.ref _:=rw';exact W8 I hu' (.inl h0) (.inl h1) r0 r1 h (Zd n) ih'
   | fz h1 r1=>
    obtain rfl:u=Value.ref _:=ru;obtain rfl:w=Value.ref _:=rw';exact W8 I hu' (.inl h0) (.inr ⟨_,h1⟩) r0 r1 h (Zd n) ih'
   | _=>exact low (by exact h)
  | fz h0 r0=>
   cases rq with
   | lst h1 r1=>
    obtain rfl:u=Value.ref _:=ru;obtain rfl:w=Value.ref _:=rw';exact W8 I hu' (.inr ⟨_,h0⟩) (.inl h1) r0 r1 h (Zd n) ih'
   | fz h1 r1=>
    obtain rfl:u=Value.ref _:=ru;obtain rfl:w=Value.ref _:=rw';exact W8 I hu' (.inr ⟨_,h0⟩) (.inr ⟨_,h1⟩) r0 r1 h (Zd n) ih'
   | _=>exact low (by exact h)
  | _=>exact low (by cases rq <;> (exact h))
end
section
def rG (Y:Fx)(g:T->T->R T):R2:=λx y H Q=>∃B t t',zt B H/\Rep B x t/\Rep B y t' /\Po Y rC B H (g t t') Q
def zb (g:T->T->R T)(fa fb:En->R T):En->R T:=λρ=>(fa ρ).bind λx=>(fb ρ).bind λy=>g x y
theorem uV (ho:OpR X (binaryOp op) (rG Y g))(ha:Snd X Y a fa)(hb:Snd X Y b fb):Snd X Y (.BinOp a op b pos) (zb g fa fb):= .mk λρ=>
 PE.imp (z2n ho (ha ρ) (hb ρ)) λσ H Q ⟨B,I,q⟩=>step I q λt v H1 _ s1 r1 I1 q1=>step I1 q1 λt' v' H2 _ s2 r2 I2 q2=>
  ⟨_,t,t',I2.sB,r1.mono (zQ.ge I1.sB s2),r2,q2⟩
theorem po0 (sB:zt B H)(q:Po Y rC B H g Q)(e:g= .ok t)(r:Rep B v t):Q v H:=by
 subst e;exact q v H (zt.refl H) (by rw[zQ.self B H sB];exact r)
theorem Gh (sB:zt B H)(q:Po Y rC B H g Q)(e:g= .ok (.tup ts))(r:zC B xs ts)(h:H p=none):Q (.ref p) (upd H p (.tup xs)):=by
 subst e;exact q _ _ (zt.new h _) (.tup (j1 h _) (r.mono (zQ.ge sB (zt.new h _))))
theorem z2D (sB:zt B H)(q:Po Y rC B H g Q)(e:g= .ok (.lst ts))(r:zC B xs ts)(h:H p=none):Q (.ref p) (upd H p (.lst xs)):=by
 subst e;exact q _ _ (zt.new h _) (.lst (j1 h _) (r.mono (zQ.ge sB (zt.new h _))))
def zn:T->T->R T
 | .int i,.int j=> .ok (.int (i+j))
 | .bl x,.int j=> .ok (.int (b2 x+j))
 | .int i,.bl y=> .ok (.int (i+b2 y))
 | .str x,.str y=>if x.length+y.length<=bnd then .ok (.str (x++y)) else .bad
 | .tup xs,.tup ys=>if xs.length+ys.length<=bnd then .ok (.tup (xs++ys)) else .bad
 | .lst xs,.lst ys=>if xs.length+ys.length<=bnd then .ok (.lst (xs++ys)) else .bad
 | _,_=> .bad
theorem V3 {prog:Program}{w:World}{A:Around}{E:Value->Shared->Prop}{s:Shared}{t b:Addr}{vs ws:List Value}{Q:Value->Shared->Prop}(ht:IsTup s.heap t vs.toArray)(hb:IsTup s.heap b ws.toArray)(hv:vs=[])
  (h1:Q (.ref b) s):wpAny (model prog w) A (binaryOp .Add (.ref t) (.ref b)) Q E s:=by
 obtain⟨⟨cls,dd,data,sl⟩,ho,hc,n,hd⟩:=id ht;obtain⟨⟨cls2,dd2,data2,sl2⟩,ho2,hc2,n2,hd2⟩:=id hb;subst hc hd hc2 hd2;exact concat_meets ⟨_,ho,rfl⟩ ⟨_,ho2,rfl⟩ noFill_tuple_add seq_tuple_add dD dv (dk _ _)
   (tuple_addW0 t b _ _ n n2 dd dd2 sl sl2 (by simp[hv])) ⟨ho,ho2,h1⟩
theorem XV:OpR X (binaryOp .Add) (rG Y zn):=by
 intro pins s σ H x y v u Q I rx ry h;obtain⟨B,t,t',sB,r,r',q⟩:=h;cases r with
 | int i=>
  cases r' with
  | int j=>exact gO pins s σ H _ _ v u Q I rx ry ⟨i,j,rfl,rfl,po0 sB q rfl (.int _)⟩
  | bl y=>exact YE pins s σ H _ _ v u Q I rx ry ⟨i,y,rfl,rfl,po0 sB q rfl (.int _)⟩
  | _=>exact q.elim
 | bl x=>
  cases r' with
  | int j=>
   obtain rfl:v=Value.bool x:=rx;obtain⟨tk,rfl⟩:=ry;exact IntBool.add_bool_int (⟨.int _,H,I.tok _,⟨_,rfl⟩,po0 sB q rfl (.int _)⟩)
  | _=>exact q.elim
 | str x=>
  cases r' with
  | str y=>
   by_cases hb:x.length+y.length<=bnd
   ·exact yK pins s σ H _ _ v u Q I rx ry ⟨x,y,rfl,rfl,ZM hb,po0 sB q (if_pos hb) (.str _)⟩
   ·rw[show zn (.str x) (.str y)= .bad from if_neg hb]at q;exact q.elim
  | _=>exact q.elim
 | @tup a xs ts h1 r1=>
  cases r' with
  | @tup a' ys us h2 r2=>
   by_cases hb:ts.length+us.length<=bnd
   ·have eg:zn (.tup ts) (.tup us)= .ok _:=if_pos hb;have hz:xs.length+ys.length<=sizeLine:=by rw[r1.length,r2.length];exact ZM hb
    by_cases hx:xs=[]
    ·obtain rfl:v=Value.ref a:=rx;obtain rfl:u=Value.ref a' :=ry;obtain⟨its,rv,p,_⟩:=I.tuple (SqT.of (sB _ _ h1));obtain⟨its',rv',p',_⟩:=I.tuple (SqT.of (sB _ _ h2));have et:=r1.nil_iff.mp hx;refine V3 p p' (rv.nil_iff.mpr hx) ⟨.ref a',H,I,rfl,po0 sB q eg ?_⟩;rw[et];exact .tup h2 r2
    ·refine XI _ s σ H _ _ v u Q I rx ry ⟨a,a',xs,ys,rfl,rfl,SqT.of (sB _ _ h1),SqT.of (sB _ _ h2),hx,hz,λhy=> ?_,λhy p hp=> ?_⟩
     ·refine po0 sB q eg ?_;rw[r2.nil_iff.mp hy,bJ];exact .tup h1 r1
     ·exact Gh sB q eg (r1.append r2) hp
   ·rw[show zn (.tup ts) (.tup us)= .bad from if_neg hb]at q;exact q.elim
  | _=>exact q.elim
 | @lst a xs ts h1 r1=>
  cases r' with
  | @lst a' ys us h2 r2=>
   by_cases hb:ts.length+us.length<=bnd
   ·have eg:zn (.lst ts) (.lst us)= .ok _:=if_pos hb;have hz:xs.length+ys.length<=sizeLine:=by rw[r1.length,r2.length];exact ZM hb
    exact G8 _ s σ H _ _ v u Q I rx ry ⟨a,a',xs,ys,rfl,rfl,sB _ _ h1,sB _ _ h2,hz,λp hp=>z2D sB q eg (r1.append r2) hp⟩
   ·rw[show zn (.lst ts) (.lst us)= .bad from if_neg hb]at q;exact q.elim
  | _=>exact q.elim
 | _=>cases r' <;> exact q.elim
theorem z2E (ha:Snd X Y a fa)(hb:Snd X Y b fb):Snd X Y (.BinOp a .Add b pos) (zb zn fa fb):=uV XV ha hb
noncomputable def jg:T->T->R T
 | .int i,.int j=> .ok (.int (i - j))
 | _,_=> .bad
noncomputable def j2:T->T->R T
 | .int i,.int j=>if 0 < j then .ok (.int (i % j)) else .bad
 | _,_=> .bad
noncomputable def W9:T->T->R T
 | .int i,.int j=>if 0 < j/\j < 1073741824 then .ok (.int (i / j)) else .bad
 | _,_=> .bad
instance (i j:Int):Decidable (uM i j):=by unfold uM;infer_instance
def Z0:T->T->R T
 | .int i,.int j=>if uM i j then .ok (.int (i*j)) else .bad
 | .lst xs,.int k=>if 0<=k/\k < 1000000/\xs.length*k.toNat<=bnd then .ok (.lst (af k.toNat xs).flatten) else .bad
 | .tup xs,.int k=>if 2<=k/\k < 1000000/\xs ≠ []/\xs.length*k.toNat<=bnd then .ok (.tup (af k.toNat xs).flatten) else .bad
 | _,_=> .bad
theorem XW:OpR X (binaryOp .Sub) (rG Y jg):=by
 intro pins s σ H x y v u Q I rx ry h;obtain⟨B,t,t',sB,r,r',q⟩:=h;cases r with
 | int i=>
  cases r' with
  | int j=>exact gP _ s σ H _ _ v u Q I rx ry ⟨i,j,rfl,rfl,po0 sB q rfl (.int _)⟩
  | _=>exact q.elim
 | _=>cases r' <;> exact q.elim
theorem XX:OpR X (binaryOp .Mod) (rG Y j2):=by
 intro pins s σ H x y v u Q I rx ry h;obtain⟨B,t,t',sB,r,r',q⟩:=h;cases r with
 | int i=>
  cases r' with
  | int j=>
   by_cases hj:0 < j
   ·exact gR _ s σ H _ _ v u Q I rx ry ⟨i,j,rfl,rfl,hj,po0 sB q (if_pos hj) (.int _)⟩
   ·rw[show j2 (.int i) (.int j)= .bad from if_neg hj]at q;exact q.elim
  | _=>exact q.elim
 | _=>cases r' <;> exact q.elim
theorem V4:OpR X (binaryOp .FloorDiv) (rG Y W9):=by
 intro pins s σ H x y v u Q I rx ry h;obtain⟨B,t,t',sB,r,r',q⟩:=h;cases r with
 | int i=>
  cases r' with
  | int j=>
   by_cases hj:0 < j/\j < 1073741824
   ·exact XA _ s σ H _ _ v u Q I rx ry ⟨i,j,rfl,rfl,hj,po0 sB q (if_pos hj) (.int _)⟩
   ·rw[show W9 (.int i) (.int j)= .bad from if_neg hj]at q;exact q.elim
  | _=>exact q.elim
 | _=>cases r' <;> exact q.elim
theorem yR (l:Addr)(items:Array Value)(n:Nat)(dd:Option Addr)(sl:Array (Option Value))(x:Int)(u:Tok)(h1:2<=x)(h2:x < 1000000)(hne:items.isEmpty=false)(hsz:items.size*x.toNat<=sizeLine):
  Meets (Builtin.«tuple.__mul__» ⟨[.ref l,.int x u],[]⟩) (λ_ R s=>s.heap.get? l=some { cls:= .type "tuple",dict:=dd,data:= .seq items n,slots:=sl }/\
   R (.ok (.ret (Value.ref s.heap.objs.size))) { s with heap:=s.heap.push { cls:=Value.type "tuple",data:=Data.seq (eC (λx1 x2=>x1++x2) #[] (af x.toNat items)) },toks:=s.toks }):=
 .of_wp λprog w A R s h=>by
  obtain⟨hl,h⟩:=h;have e0:(items.size:Int)*x=((items.size*x.toNat:Nat):Int):=by
   have:x=((x.toNat:Nat):Int):=by omega
   rw[cW,← this]
  have sl1:(sizeLine:Nat)=16777216:=cj;have c1:¬ (decide (x < -(2 ^ 63)) || decide (x ≥ 2 ^ 63))=true:=by simp;omega
  have c2:¬ (items.isEmpty || x == 1)=true:=by simp[hne];omega
  have c3:¬ (decide (x<=0) || items.isEmpty)=true:=by simp[hne];omega
  have c4:¬ ((items.size:Int)*x > (2 ^ 63 - 1) / 8):=by rw[e0];omega
  have c5:¬ eD ((items.size:Int)*x)=true:=by
   unfold eD;rw[e0];intro z;have:=of_decide_eq_true z;omega
  unfold Builtin.«tuple.__mul__»
  wp_walk using wpAny_loadPart' hl
  rw[if_neg c1]
  wp_walk using wpAny_loadPart' hl
  rw[if_neg c2]
  try dsimp only
  rw[if_neg c3]
  try dsimp only
  rw[if_neg c4]
  try dsimp only
  rw[if_neg c5]
  try dsimp only
  have hsz' :sizeOk (.seq (eC (λx1 x2=>x1++x2) #[] (af x.toNat items))):=by
   show (eC (λx1 x2=>x1++x2) #[] _).size<=sizeLine;have:=jK items.toList x.toNat [];have q:=by
    simpa using this
   rw[q,aE,jV,cR];exact hsz
  exact a7 (bv (ar ⟨_,rfl,h⟩) hsz')
theorem u6:seqRepeat? (.type "tuple")=pure (some (.builtin "tuple.__mul__")):=by
 unfold seqRepeat?;rw[iN (name:="__mul__") eZ.lookup (by decide+kernel),iN (name:="__rmul__") iu.lookup (by decide+kernel)]
 rfl
theorem Jq:fillsNumberSlot (.type "tuple") "mul"=pure false:=
 PySem.fillsNumberSlot_seq eZ.lookup (by decide+kernel) iu.lookup (by decide+kernel)
theorem wx (a:Int)(t:Tok)(l:Addr)(items:Array Value)(n:Nat)(dd:Option Addr)(sl:Array (Option Value)):
  Meets (Builtin.«int.__rmul__» ⟨[.int a t,.ref l],[]⟩) (λ_ R s=>s.heap.get? l=some { cls:= .type "tuple",dict:=dd,data:= .seq items n,slots:=sl }/\R (.ok (.ret Value.notImplemented)) s):=
 .of_wp λprog w A R s h=>by obtain⟨hl,h⟩:=h;wp_walk;exact⟨_,rfl,h⟩
theorem XY {t:Tok}(p:IsTup s.heap l its.toArray)(hne:its ≠ [])(h1:2<=k)(h2:k < 1000000)
  (hsz:its.length*k.toNat<=sizeLine) (q:Q (.ref s.heap.objs.size) { s with heap:=s.heap.push { cls:= .type "tuple",data:= .seq (af k.toNat its).flatten.toArray } }):
  wpAny (model prog w) A (binaryOp .Mult (.ref l) (.int k t)) Q E s:=by
 obtain⟨⟨cls,dd,data,sl⟩,ho,hc,n,hd⟩:=id p;subst hc hd;refine wpAny_binaryOp_repeat_ref (by decide) ⟨_,ho,rfl⟩ (λs' =>typeIs_int s' k t) Jq l8 dP u6 iL.lookup
  (du dP (typeIs_int s k t) iM (iq _ _) (wx k t l _ n dd sl)
   ⟨ho,rfl,⟨_,ho,rfl⟩,du eZ ⟨_,ho,rfl⟩ F.entry_tuple_mul (F.args_tuple_mul_2 _ _) (yR l _ n dd sl k t h1 h2 (by simpa using hne) (by simpa using hsz)) ⟨ho, ?_⟩⟩)
 have:=jK its k.toNat [];rw[this];exact q
theorem XZ:OpR X (binaryOp .Mult) (rG Y Z0):=by
 intro pins s σ H x y v u Q I rx ry h;obtain⟨B,t,t',sB,r,r',q⟩:=h;cases r with
 | int i=>
  cases r' with
  | int j=>
   by_cases hj:uM i j
   ·exact gQ _ s σ H _ _ v u Q I rx ry ⟨i,j,rfl,rfl,hj,po0 sB q (if_pos hj) (.int _)⟩
   ·rw[show Z0 (.int i) (.int j)= .bad from if_neg hj]at q;exact q.elim
  | _=>exact q.elim
 | @lst l xs ts h1 r1=>
  cases r' with
  | int k=>
   by_cases hk:0<=k/\k < 1000000/\ts.length*k.toNat<=bnd
   ·have eg:Z0 (.lst ts) (.int k)= .ok _:=if_pos hk;exact G9 _ s σ H _ _ v u Q I rx ry ⟨l,k,xs,rfl,rfl,sB _ _ h1,by omega,by omega,by rw[r1.length];exact ZM hk.2.2,λp hp=>z2D sB q eg (r1.rep _) hp⟩
   ·rw[show Z0 (.lst ts) (.int k)= .bad from if_neg hk]at q;exact q.elim
  | _=>exact q.elim
 | @tup l xs ts h1 r1=>
  cases r' with
  | int k=>
   by_cases hk:2<=k/\k < 1000000/\ts ≠ []/\ts.length*k.toNat<=bnd
   ·have eg:Z0 (.tup ts) (.int k)= .ok _:=if_pos hk;obtain rfl:v=Value.ref l:=rx;obtain⟨tk,rfl⟩:=ry;obtain⟨its,rv,p,_⟩:=I.tuple (SqT.of (sB _ _ h1));have ln:=r1.length.symm.trans rv.length;have hne:its ≠ []:=λz=>hk.2.2.1 (by rw[z]at ln;exact e_.mp ln)
    refine XY p hne hk.1 hk.2.1 (by rw[← ln];exact ZM hk.2.2.2) ⟨.ref _,upd H _ (.tup (af k.toNat xs).flatten),I.laid (λb u e=>ag _ e) (am _) ?_,rfl, ?_⟩
    ·exact⟨by rw[jV,r1.length,cR];exact ZM hk.2.2.2,(af _ its).flatten,rv.rep _,⟨_,aj _ rfl,rfl,_,rfl⟩,.inr ⟨_,aj _ rfl,rfl⟩⟩
    ·exact Gh sB q eg (r1.rep _) (I.hok.fresh (am _))
   ·rw[show Z0 (.tup ts) (.int k)= .bad from if_neg hk]at q;exact q.elim
  | _=>exact q.elim
 | _=>cases r' <;> exact q.elim
theorem z2F (ha:Snd X Y a fa)(hb:Snd X Y b fb):Snd X Y (.BinOp a .Sub b pos) (zb jg fa fb):=uV XW ha hb
theorem z2G (ha:Snd X Y a fa)(hb:Snd X Y b fb):Snd X Y (.BinOp a .Mod b pos) (zb j2 fa fb):=uV XX ha hb
theorem Gi (ha:Snd X Y a fa)(hb:Snd X Y b fb):Snd X Y (.BinOp a .FloorDiv b pos) (zb W9 fa fb):=uV V4 ha hb
theorem z2H (ha:Snd X Y a fa)(hb:Snd X Y b fb):Snd X Y (.BinOp a .Mult b pos) (zb Z0 fa fb):=uV XZ ha hb
def Ym (fa:En->R T):En->R T:=λρ=>(fa ρ).bind λx=>match x with
 | .int i=> .ok (.int (-i))
 | _=> .bad
theorem z2I (ha:Snd X Y a fa):Snd X Y (.UnaryOp .USub a pos) (Ym fa):= .mk λρ=>PE.imp (z2o gS (ha ρ)) λσ H Q ⟨B,I,q⟩=>step I q λt v H1 _ s1 r1 I1 q1=>by
 cases r1 with
 | int i=>exact⟨i,rfl,po0 I1.sB q1 rfl (.int _)⟩
 | _=>exact q1.elim
def wI (g:T->T->R Bool):R2:=λx y H Q=>∃t t' b,Rep H x t/\Rep H y t' /\g t t' = .ok b/\Q (.bl b) H
def ZE (g:T->T->R Bool)(fa fb:En->R T):En->R T:=λρ=>(fa ρ).bind λx=>(fb ρ).bind λy=>(g x y).bind λb=> .ok (.bl b)
def zm (g:T->T->R Bool)(fa fb:En->R T):En->R Bool:=λρ=>(fa ρ).bind λx=>(fb ρ).bind λy=>g x y
noncomputable def Nx (g:T->T->R Bool):Prop:=∀t t' c,g t t' ≠ .ex c
theorem YX (nx:Nx g)(ho:OpR X (compareOp op) (wI g))(ha:je X Y a fa)(hb:je X Y b fb)(hm:behindInMarks op b=false):Snd X Y (.Compare a [op] [b] pos) (ZE g fa fb):= .mk λρ=>
 PE.imp (XB ho (ha ρ) (hb ρ) hm) λσ H Q ⟨B,I,q⟩=>step I q λt v H1 _ s1 r1 I1 q1=>step I1 q1 λt' v' H2 _ s2 r2 I2 q2=>by
  cases e:g t t' with
  | bad=>rw[e]at q2;exact q2.elim
  | ex c=>exact absurd e (nx _ _ _)
  | ok b=>rw[e]at q2;exact⟨t,t',b,r1.mono s2,r2,e,ZB I2 q2 (.bl b)⟩
theorem uW (nx:Nx g)(ho:OpR X (compareOp op) (wI g))(ha:je X Y a fa)(hb:je X Y b fb)(hm:behindInMarks op b=false):WK X Y (.Compare a [op] [b] pos) (zm g fa fb):= .mk λρ=>
 PT.imp (YF ho (ha ρ) (hb ρ) hm) λσ H Q ⟨B,I,q⟩=>step I q λt v H1 _ s1 r1 I1 q1=>step I1 q1 λt' v' H2 _ s2 r2 I2 q2=>by
  cases e:g t t' with
  | bad=>rw[e]at q2;exact q2.elim
  | ex c=>exact absurd e (nx _ _ _)
  | ok b=>rw[e]at q2;exact⟨t,t',b,r1.mono s2,r2,e,b,rfl,ZB I2 q2 rfl⟩
def eqC (t t' :T):R Bool:=match eqF 30 t t' with
 | some b=> .ok b
 | none=> .bad
def neC (t t' :T):R Bool:=match eqF 30 t t' with
 | some b=> .ok (!b)
 | none=> .bad
theorem Gj:Nx eqC:=λt t' c h=>by unfold eqC at h;split at h <;> cases h
theorem Gk:Nx neC:=λt t' c h=>by unfold neC at h;split at h <;> cases h
theorem xF (hu:X.A.units+64 < cLine):OpR X (compareOp .Eq) (wI eqC):=by
 intro pins s σ H x y v u Q I rx ry h;obtain⟨t,t',b,r,r',e,q⟩:=h;unfold eqC at e;split at e
 ·rename_i k ek;have e' :=by injection e
  subst e';exact(YW I 30 X.A (by omega) t t' k x y v u ek r r' rx ry).2.1 _ _ _ _ ⟨.bl k,H,I,rfl,q⟩
 ·cases e
theorem xG (hu:X.A.units+64 < cLine):OpR X (compareOp .NotEq) (wI neC):=by
 intro pins s σ H x y v u Q I rx ry h;obtain⟨t,t',b,r,r',e,q⟩:=h;unfold neC at e;split at e
 ·rename_i k ek;cases e;exact(YW I 30 X.A (by omega) t t' k x y v u ek r r' rx ry).2.2 _ _ _ _ ⟨.bl _,H,I,rfl,q⟩
 ·cases e
noncomputable def ltC:T->T->R Bool
 | .int i,.int j=> .ok (decide (i < j))
 | _,_=> .bad
noncomputable def leC:T->T->R Bool
 | .int i,.int j=> .ok (decide (i<=j))
 | .str x,.str y=> .ok (!decide (y.cps.toList < x.cps.toList))
 | _,_=> .bad
noncomputable def gtC:T->T->R Bool
 | .int i,.int j=> .ok (decide (j < i))
 | _,_=> .bad
noncomputable def geC:T->T->R Bool
 | .int i,.int j=> .ok (decide (j<=i))
 | _,_=> .bad
theorem z2J:Nx ltC:=λt t' c h=>by unfold ltC at h;split at h <;> cases h
theorem Wa:Nx leC:=λt t' c h=>by unfold leC at h;split at h <;> cases h
theorem z2K:Nx gtC:=λt t' c h=>by unfold gtC at h;split at h <;> cases h
theorem z2L:Nx geC:=λt t' c h=>by unfold geC at h;split at h <;> cases h
theorem Gm:OpR X (compareOp .Lt) (wI ltC):=by
 intro pins s σ H x y v u Q I rx ry h;obtain⟨t,t',b,r,r',e,q⟩:=h;unfold ltC at e;split at e
 ·rename_i i j;cases e;cases r;cases r';exact z2p _ s σ H _ _ v u Q I rx ry ⟨i,j,rfl,rfl,q⟩
 ·cases e
theorem Gn:OpR X (compareOp .Gt) (wI gtC):=by
 intro pins s σ H x y v u Q I rx ry h;obtain⟨t,t',b,r,r',e,q⟩:=h;unfold gtC at e;split at e
 ·rename_i i j;cases e;cases r;cases r';exact z2r _ s σ H _ _ v u Q I rx ry ⟨i,j,rfl,rfl,q⟩
 ·cases e
theorem Go:OpR X (compareOp .GtE) (wI geC):=by
 intro pins s σ H x y v u Q I rx ry h;obtain⟨t,t',b,r,r',e,q⟩:=h;unfold geC at e;split at e
 ·rename_i i j;cases e;cases r;cases r';exact z2s _ s σ H _ _ v u Q I rx ry ⟨i,j,rfl,rfl,q⟩
 ·cases e
theorem jN:OpR X (compareOp .LtE) (wI leC):=by
 intro pins s σ H x y v u Q I rx ry h;obtain⟨t,t',b,r,r',e,q⟩:=h;unfold leC at e;split at e
 ·rename_i i j;cases e;cases r;cases r';exact z2q _ s σ H _ _ v u Q I rx ry ⟨i,j,rfl,rfl,q⟩
 ·cases e;cases r;cases r';obtain⟨t1,rfl⟩:=rx;obtain⟨t2,rfl⟩:=ry;exact PySem.P.le_str ⟨.bl _,H,I,rfl,q⟩
 ·cases e
end
section
variable {X:Cx}{Y:Fx}{a b c d:Expr}{fa fb fc fd:En->R T}{pos:Pos}
noncomputable def JL (f:T->Option Bool):List T->Option Bool
 | []=>some false
 | t :: r=>match f t with
  | none=>none
  | some b=>match JL f r with
   | none=>none
   | some c=>some (b || c)
def inC (t t' :T):R Bool:=match t' with
 | .tup ys=>match JL (λy=>eqF 30 y t) ys with | some b=> .ok b | none=> .bad
 | .lst ys=>match JL (λy=>eqF 30 y t) ys with | some b=> .ok b | none=> .bad
 | _=> .bad
def V5 (t t' :T):R Bool:=(inC t t').bind λb=> .ok (!b)
theorem V6:Nx inC:=λt t' c h=>by
 unfold inC at h;split at h
 ·split at h <;> cases h
 ·split at h <;> cases h
 ·cases h
theorem Gp:Nx V5:=λt t' c h=>by
 unfold V5 at h;cases e:inC t t' with
 | bad=>rw[e]at h;cases h
 | ex k=>exact absurd e (V6 _ _ _)
 | ok k=>rw[e]at h;cases h
open Classical in
theorem uX (f:T->Option Bool):∃e:Value->Bool,∀(v:V) (t:T) (u:Value) (b:Bool),RelV v u->Rep H v t->f t=some b->e u=b:=by
 refine⟨λu=>decide (∃v t,RelV v u/\Rep H v t/\f t=some true),λv t u b rv r e=> ?_⟩;cases b with
 | true=>exact decide_eq_true ⟨v,t,rv,r,e⟩
 | false=>
  refine decide_eq_false ?_
  rintro⟨v',t',rv',r',e'⟩
  have:=rv.inj rv';subst this;have:=r.fn r';subst this;rw[e]at e';cases e'
theorem YY {H:Hp}{f:T->Option Bool}{e:Value->Bool}(he:∀(v:V) (t:T) (u:Value) (b:Bool),RelV v u->Rep H v t->f t=some b->e u=b):∀{xs:List V} {ts:List T} {its:List Value} {b:Bool},
  Vals xs its->zC H xs ts->JL f ts=some b->its.any e=b/\∀u∈its,∃v t k,RelV v u/\Rep H v t/\f t=some k
 | _,_,_,b,.nil,.nil,h=>by
  have h' :=h;cases h';exact⟨rfl,λu hu=>by simp at hu⟩
 | _,_,_,b,.cons rv vs,.cons r rs,h=>by
  rename_i v u vals us t ts;unfold JL at h;cases q:f t with
  | none=>rw[q]at h;cases h
  | some k=>
   rw[q]at h;cases q' :JL f ts with
   | none=>rw[q']at h;cases h
   | some k' =>
    rw[q']at h;cases h;obtain⟨h1,h2⟩:=YY he vs rs q';refine⟨by rw[eP,h1,he v t u k rv r q],λw hw=> ?_⟩
    rcases ak.mp hw with rfl | hw
    ·exact⟨v,t,k,rv,r,q⟩
    ·exact h2 w hw
theorem YZ (hu:X.A.units+64 < cLine)(neg:Bool):OpR X (compareOp (if neg then .NotIn else .In)) (wI (if neg then V5 else inC)):=by
 intro pins s σ H x y v u Q I rx ry h;obtain⟨t,t',b,r,r',e,q⟩:=h;have hs:∃k,inC t t' = .ok k/\b=(if neg then !k else k):=by
  cases neg with
  | false=>exact⟨b,e,rfl⟩
  | true=>
   have e' :V5 t t' = .ok b:=e;unfold V5 at e';cases z:inC t t' with
   | bad=>rw[z]at e';cases e'
   | ex k=>exact absurd z (V6 _ _ _)
   | ok k=>rw[z]at e';cases e';exact⟨k,rfl,rfl⟩
 obtain⟨k,ek,rfl⟩:=hs;unfold inC at ek;obtain⟨f,hf⟩:=uX λy=>eqF 30 y t;have eqa:∀w,(∃v t' k,RelV v w/\Rep H v t' /\eqF 30 t' t=some k)->d5 X.A.in1 s w v (f w):=λw ⟨v',t',k,rv,rr,ee⟩=>by
  rw[hf v' t' w k rv rr ee];exact(YW I 30 _ (by rw[jM];omega) t' t k v' x w v ee rr r rv rx).1
 split at ek
 ·split at ek
  ·rename_i k' hk;cases ek;cases r' with
   | @tup l xs _ h1 r1=>
    obtain rfl:u=Value.ref l:=ry;obtain⟨its,rv,p,_⟩:=ZP I h1 r1;obtain⟨h2,h3⟩:=YY hf rv r1 hk;have h4:its.toArray.any f=k:=by simpa using h2
    cases neg with
    | false=>exact SeqAt.in_tupleAt f p (λw hw=>eqa w (h3 w (by simpa using hw))) (by rw[h4];exact⟨.bl k,H,I,rfl,q⟩)
    | true=>exact SeqAt.notIn_tupleAt f p (λw hw=>eqa w (h3 w (by simpa using hw))) (by rw[h4];exact⟨.bl _,H,I,rfl,q⟩)
  ·cases ek
 ·split at ek
  ·rename_i k' hk;cases ek;cases r' with
   | @lst l xs _ h1 r1=>
    obtain rfl:u=Value.ref l:=ry;obtain⟨its,rv,p,_⟩:=zO I (.inl h1) r1;obtain⟨h2,h3⟩:=YY hf rv r1 hk;have h4:its.toArray.any f=k:=by simpa using h2
    cases neg with
    | false=>exact SeqAt.in_listAt f p (λw hw=>eqa w (h3 w (by simpa using hw))) (by rw[h4];exact⟨.bl k,H,I,rfl,q⟩)
    | true=>exact SeqAt.notIn_listAt f p (λw hw=>eqa w (h3 w (by simpa using hw))) (by rw[h4];exact⟨.bl _,H,I,rfl,q⟩)
  ·cases ek
 ·cases ek
theorem xH (hu:X.A.units+64 < cLine):OpR X (compareOp .In) (wI inC):=YZ hu false
theorem k7 (hu:X.A.units+64 < cLine):OpR X (compareOp .NotIn) (wI V5):=YZ hu true
noncomputable def vI (t t' :T):R Bool:=match t' with
 | .non=>match t with | .non=> .ok true | _=> .ok false
 | .bl k=>match t with | .bl j=> .ok (j == k) | _=> .ok false
 | _=> .bad
def k8 (t t' :T):R Bool:=(vI t t').bind λb=> .ok (!b)
theorem Gq:Nx vI:=λt t' c h=>by
 unfold vI at h;split at h
 ·split at h <;> cases h
 ·split at h <;> cases h
 ·cases h
theorem k9 (neg:Bool):OpR X (compareOp (if neg then .IsNot else .Is)) (wI (if neg then k8 else vI)):=by
 intro pins s σ H x y v u Q I rx ry h;obtain⟨t,t',b,r,r',e,q⟩:=h;have hs:∃k,vI t t' = .ok k/\b=(if neg then !k else k):=by
  cases neg with
  | false=>exact⟨b,e,rfl⟩
  | true=>
   have e' :k8 t t' = .ok b:=e;unfold k8 at e';cases z:vI t t' with
   | bad=>rw[z]at e';cases e'
   | ex k=>exact absurd z (Gq _ _ _)
   | ok k=>rw[z]at e';cases e';exact⟨k,rfl,rfl⟩
 obtain⟨k,ek,rfl⟩:=hs;have go:plainIs v u=true/\(v == u)=k:=by
  cases r' with
  | non=>
   obtain rfl:u=Value.none:=ry;cases r with
   | non=>obtain rfl:v=Value.none:=rx;cases ek;exact⟨rfl,rfl⟩
   | bl j=>obtain rfl:v=Value.bool j:=rx;cases ek;exact⟨rfl,rfl⟩
   | int j=>obtain⟨t,rfl⟩:=rx;cases ek;exact⟨rfl,rfl⟩
   | str j=>obtain⟨t,rfl⟩:=rx;cases ek;exact⟨rfl,rfl⟩
   | tup _ _=>obtain rfl:v=Value.ref _:=rx;cases ek;exact⟨rfl,rfl⟩
   | lst _ _=>obtain rfl:v=Value.ref _:=rx;cases ek;exact⟨rfl,rfl⟩
   | fz _ _=>obtain rfl:v=Value.ref _:=rx;cases ek;exact⟨rfl,rfl⟩
  | bl k' =>
   obtain rfl:u=Value.bool k' :=ry;cases r with
   | non=>obtain rfl:v=Value.none:=rx;cases ek;exact⟨rfl,rfl⟩
   | bl j=>obtain rfl:v=Value.bool j:=rx;cases ek;exact⟨rfl,by cases j <;> cases k' <;> rfl⟩
   | int j=>obtain⟨t,rfl⟩:=rx;cases ek;exact⟨rfl,rfl⟩
   | str j=>obtain⟨t,rfl⟩:=rx;cases ek;exact⟨rfl,rfl⟩
   | tup _ _=>obtain rfl:v=Value.ref _:=rx;cases ek;exact⟨rfl,rfl⟩
   | lst _ _=>obtain rfl:v=Value.ref _:=rx;cases ek;exact⟨rfl,rfl⟩
   | fz _ _=>obtain rfl:v=Value.ref _:=rx;cases ek;exact⟨rfl,rfl⟩
  | _=>cases ek
 cases neg with
 | false=>exact wpAny_is_plain go.1 (by rw[go.2];exact⟨.bl k,H,I,rfl,q⟩)
 | true=>exact wpAny_isNot_plain go.1 (by rw[go.2];exact⟨.bl _,H,I,rfl,q⟩)
theorem Gr:OpR X (compareOp .Is) (wI vI):=k9 false
def chE (g g' :T->T->R Bool)(fa fb fc:En->R T):En->R T:=λρ=>(fa ρ).bind λx=>(fb ρ).bind λy=>(g x y).bind λk=>if k=true then (fc ρ).bind λz=>(g' y z).bind λk' => .ok (.bl k') else .ok (.bl false)
def chT (g g' :T->T->R Bool)(fa fb fc:En->R T):En->R Bool:=λρ=>(fa ρ).bind λx=>(fb ρ).bind λy=>(g x y).bind λk=>if k=true then (fc ρ).bind λz=>g' y z else .ok false
theorem ka (nx:Nx g)(nx' :Nx g')(ho:OpR X (compareOp op) (wI g))(ho' :OpR X (compareOp op') (wI g'))(ha:je X Y a fa)(hb:je X Y b fb)(hc:je X Y c fc)
  (hm:lastMarks [op,op'] [b,c]=false:=by with_unfolding_all rfl):Snd X Y (.Compare a [op,op'] [b,c] pos) (chE g g' fa fb fc):= .mk λρ=>
 PE.imp (vW ho ho' (ha ρ) (hb ρ) (hc ρ) hm) λσ H Q ⟨B,I,q⟩=>step I q λt v H1 _ s1 r1 I1 q1=>step I1 q1 λt' v' H2 _ s2 r2 I2 q2=>by
  cases e:g t t' with
  | bad=>rw[e]at q2;exact q2.elim
  | ex c=>exact absurd e (nx _ _ _)
  | ok k=>
   rw[e]at q2;refine⟨t,t',k,r1.mono s2,r2,e,k,rfl, ?_⟩;cases k with
   | false=>exact ZB I2 q2 (.bl _)
   | true=>
    refine step I2 q2 λt3 v3 H3 _ s3 r3 I3 q3=> ?_
    ·cases e:g' t' t3 with
     | bad=>rw[e]at q3;exact q3.elim
     | ex c=>exact absurd e (nx' _ _ _)
     | ok k=>rw[e]at q3;exact⟨t',t3,k,r2.mono s3,r3,e,ZB I3 q3 (.bl k)⟩
theorem kb (nx:Nx g)(nx' :Nx g')(ho:OpR X (compareOp op) (wI g))(ho' :OpR X (compareOp op') (wI g'))(ha:je X Y a fa)(hb:je X Y b fb)(hc:je X Y c fc)
  (hm:lastMarks [op,op'] [b,c]=false:=by with_unfolding_all rfl):WK X Y (.Compare a [op,op'] [b,c] pos) (chT g g' fa fb fc):= .mk λρ=>
 PT.imp (vX ho ho' (ha ρ) (hb ρ) (hc ρ) hm) λσ H Q ⟨B,I,q⟩=>step I q λt v H1 _ s1 r1 I1 q1=>step I1 q1 λt' v' H2 _ s2 r2 I2 q2=>by
  cases e:g t t' with
  | bad=>rw[e]at q2;exact q2.elim
  | ex c=>exact absurd e (nx _ _ _)
  | ok k=>
   rw[e]at q2;refine⟨t,t',k,r1.mono s2,r2,e,k,rfl, ?_⟩;cases k with
   | false=>exact⟨false,rfl,ZB I2 q2 rfl⟩
   | true=>
    refine step I2 q2 λt3 v3 H3 _ s3 r3 I3 q3=> ?_
    ·cases e:g' t' t3 with
     | bad=>rw[e]at q3;exact q3.elim
     | ex c=>exact absurd e (nx' _ _ _)
     | ok k=>rw[e]at q3;exact⟨t',t3,k,r2.mono s3,r3,e,k,rfl,ZB I3 q3 rfl⟩
def kd (r r' r'' :R2)(ta tb tc td:TE):TE:=λσ H Q=>ta σ H λx H1=>tb σ H1 λy H2=>r x y H2 λz H3=>∃k,z= .bl k/\
 (if k=true then tc σ H3 λw' H4=>r' y w' H4 λz' H5=>∃k',z' = .bl k' /\(if k' =true then td σ H5 λw2 H6=>r'' w' w2 H6 Q else Q (.bl false) H5) else Q (.bl false) H3)
theorem qa (ho:OpR X (compareOp op) r)(ho' :OpR X (compareOp op') r')(ho'' :OpR X (compareOp op'') r'')(ha:PE X a ta)(hb:PE X b tb)(hc:PE X c tc)(hd:PE X d td)
  (hm:lastMarks [op,op',op''] [b,c,d]=false:=by with_unfolding_all rfl):PE X (.Compare a [op,op',op''] [b,c,d] pos) (kd r r' r'' ta tb tc td):=by
 intro pins s σ H Q I h;refine Compare_chain (thn (ha _ s σ H _ I h) λv s1 ⟨x,H1,I1,r1,q1⟩=>chain_link (thn (hb _ s1 σ H1 _ I1 q1) λu s2 ⟨y,H2,I2,r2,q2⟩=>
  thn (ho _ s2 σ H2 x y v u _ I2 r1 r2 q2) λd' s3 ⟨z,H3,I3,r3,k,e,q3⟩=> ?_)) hm
 subst e;cases r3;refine bj ?_;cases k with
 | false=>exact ite_ff ⟨.bl _,H3,I3,rfl,q3⟩
 | true=>
  refine ite_tt (chain_link (thn (hc _ s3 σ H3 _ I3 q3) λw' s4 ⟨z',H4,I4,r4,q4⟩=>thn (ho' _ s4 σ H4 y z' u w' _ I4 r2 r4 q4) λd2 s5 ⟨z5,H5,I5,r5,k5,e5,q5⟩=> ?_));subst e5;cases r5;refine bj ?_;cases k5 with
  | false=>exact ite_ff ⟨.bl _,H5,I5,rfl,q5⟩
  | true=>exact ite_tt (chain_last (thn (hd _ s5 σ H5 _ I5 q5) λw6 s6 ⟨z6,H6,I6,r6,q6⟩=>ho'' _ s6 σ H6 z' z6 w' w6 Q I6 r4 r6 q6))
def ch3E (g g' g'' :T->T->R Bool)(fa fb fc fd:En->R T):En->R T:=λρ=>(fa ρ).bind λx=>(fb ρ).bind λy=>(g x y).bind λk=>if k=true then (fc ρ).bind λz=>(g' y z).bind λk' =>
 if k' =true then (fd ρ).bind λw=>(g'' z w).bind λk'' => .ok (.bl k'') else .ok (.bl false) else .ok (.bl false)
theorem V7 (nx:Nx g)(nx' :Nx g')(nx'' :Nx g'')(ho:OpR X (compareOp op) (wI g))(ho' :OpR X (compareOp op') (wI g'))(ho'' :OpR X (compareOp op'') (wI g''))
  (ha:je X Y a fa) (hb:je X Y b fb) (hc:je X Y c fc) (hd:je X Y d fd)
  (hm:lastMarks [op,op',op''] [b,c,d]=false:=by with_unfolding_all rfl):Snd X Y (.Compare a [op,op',op''] [b,c,d] pos) (ch3E g g' g'' fa fb fc fd):= .mk λρ=>
 PE.imp (qa ho ho' ho'' (ha ρ) (hb ρ) (hc ρ) (hd ρ) hm) λσ H Q ⟨B,I,q⟩=>step I q λt v H1 _ s1 r1 I1 q1=>step I1 q1 λt' v' H2 _ s2 r2 I2 q2=>by
  cases e:g t t' with
  | bad=>rw[e]at q2;exact q2.elim
  | ex c=>exact absurd e (nx _ _ _)
  | ok k=>
   rw[e]at q2;refine⟨t,t',k,r1.mono s2,r2,e,k,rfl, ?_⟩;cases k with
   | false=>exact ZB I2 q2 (.bl _)
   | true=>
    refine step I2 q2 λt3 v3 H3 _ s3 r3 I3 q3=> ?_
    ·cases e:g' t' t3 with
     | bad=>rw[e]at q3;exact q3.elim
     | ex c=>exact absurd e (nx' _ _ _)
     | ok k=>
      rw[e]at q3;refine⟨t',t3,k,r2.mono s3,r3,e,k,rfl, ?_⟩;cases k with
      | false=>exact ZB I3 q3 (.bl _)
      | true=>
       refine step I3 q3 λt4 v4 H4 _ s4 r4 I4 q4=> ?_
       ·cases e:g'' t3 t4 with
        | bad=>rw[e]at q4;exact q4.elim
        | ex c=>exact absurd e (nx'' _ _ _)
        | ok k=>rw[e]at q4;exact⟨t3,t4,k,r3.mono s4,r4,e,ZB I4 q4 (.bl k)⟩
variable {rest:List Expr}{ga gb:En->R Bool}
def ZJ (fa fb:En->R T):En->R T:=λρ=>(fa ρ).bind λx=>match x with
 | .bl true=>fb ρ
 | .bl false=> .ok (.bl false)
 | _=> .bad
def orE (fa fb:En->R T):En->R T:=λρ=>(fa ρ).bind λx=>match x with
 | .bl true=> .ok (.bl true)
 | .bl false=>fb ρ
 | _=> .bad
def qb (fa:En->R T):En->R T:=λρ=>(fa ρ).bind λx=>match x with
 | .bl k=> .ok (.bl (!k))
 | _=> .bad
theorem z2M {op}(h:Snd X Y a fa):Snd X Y (.BoolOp op [a] pos) fa:= .mk λρ=>gH (h ρ)
theorem z2N (ha:Snd X Y a fa)(hb:Snd X Y (.BoolOp .And (b :: rest) pos) fb):Snd X Y (.BoolOp .And (a :: b :: rest) pos) (ZJ fa fb):= .mk λρ=>
 PE.imp (gI (ha ρ) (hb ρ)) λσ H Q ⟨B,I,q⟩=>step I q λt v H1 _ s1 r1 I1 q1=>by
  cases r1 with
  | bl k=>
   refine⟨k,rfl, ?_⟩;cases k with
   | true=>exact⟨_,I1,q1⟩
   | false=>exact ZB I1 q1 (.bl _)
  | _=>exact q1.elim
theorem s_or (ha:Snd X Y a fa)(hb:Snd X Y (.BoolOp .Or (b :: rest) pos) fb):Snd X Y (.BoolOp .Or (a :: b :: rest) pos) (orE fa fb):= .mk λρ=>
 PE.imp (z2f (ha ρ) (hb ρ)) λσ H Q ⟨B,I,q⟩=>step I q λt v H1 _ s1 r1 I1 q1=>by
  cases r1 with
  | bl k=>
   refine⟨k,rfl, ?_⟩;cases k with
   | false=>exact⟨_,I1,q1⟩
   | true=>exact ZB I1 q1 (.bl _)
  | _=>exact q1.elim
theorem z2O (ha:Snd X Y a fa):Snd X Y (.UnaryOp .Not a pos) (qb fa):= .mk λρ=>
 PE.imp (gJ (ha ρ)) λσ H Q ⟨B,I,q⟩=>step I q λt v H1 _ s1 r1 I1 q1=>by
  cases r1 with
  | bl k=>exact⟨k,rfl,ZB I1 q1 (.bl _)⟩
  | _=>exact q1.elim
structure Yn (X:Cx) (Y:Fx) (e:Expr) (f:En->R Bool):Prop where
 mk ::
 go:∀ρ,PW X e (tS Y rE f ρ)
instance {X:Cx}{Y:Fx}{e:Expr}{f:En->R Bool}:CoeFun (Yn X Y e f) λ_=>∀ρ,PW X e (tS Y rE f ρ):=⟨Yn.go⟩
theorem Yn.t (h:Yn X Y e f):WK X Y e f:= .mk λρ=>(h ρ).pt
theorem PW.imp (h:PW X e t)(i:∀σ H Q,t' σ H Q->t σ H Q):PW X e t' :=λwh pins s σ H Q I q=>h wh _ s σ H Q I (i σ H Q q)
def wy (fa fb:En->R Bool):En->R Bool:=λρ=>(fa ρ).bind λx=>if x=true then fb ρ else .ok false
def orT (fa fb:En->R Bool):En->R Bool:=λρ=>(fa ρ).bind λx=>if x=true then .ok true else fb ρ
def jz (fa:En->R Bool):En->R Bool:=λρ=>(fa ρ).bind λx=> .ok (!x)
theorem Gs (h:WK X Y a ga):Yn X Y (.BoolOp .And [a] pos) ga:= .mk λρ=>Xy (h ρ)
theorem z2P (h:WK X Y a ga):Yn X Y (.BoolOp .Or [a] pos) ga:= .mk λρ=>gE (h ρ)
theorem z2Q (ha:WK X Y a ga)(hb:Yn X Y (.BoolOp .And (b :: rest) pos) gb):Yn X Y (.BoolOp .And (a :: b :: rest) pos) (wy ga gb):= .mk λρ=>
 PW.imp (gF (ha ρ) (hb ρ)) λσ H Q ⟨B,I,q⟩=>step I q λt v H1 _ s1 r1 I1 q1=>by
  have r1' :=r1;subst r1';cases v with
  | true=>exact⟨_,I1,q1⟩
  | false=>exact ZB I1 q1 rfl
theorem w_or (ha:WK X Y a ga)(hb:Yn X Y (.BoolOp .Or (b :: rest) pos) gb):Yn X Y (.BoolOp .Or (a :: b :: rest) pos) (orT ga gb):= .mk λρ=>
 PW.imp (z2c (ha ρ) (hb ρ)) λσ H Q ⟨B,I,q⟩=>step I q λt v H1 _ s1 r1 I1 q1=>by
  have r1' :=r1;subst r1';cases v with
  | false=>exact⟨_,I1,q1⟩
  | true=>exact ZB I1 q1 rfl
theorem z2R (ha:WK X Y a ga):WK X Y (.UnaryOp .Not a pos) (jz ga):= .mk λρ=>
 PT.imp (gG (ha ρ)) λσ H Q ⟨B,I,q⟩=>step I q λt v H1 _ s1 r1 I1 q1=>by
  have r1' :=r1;subst r1';exact ZB I1 q1 rfl
noncomputable def tru:T->R Bool
 | .bl k=> .ok k
 | .non=> .ok false
 | .int i=> .ok (i != 0)
 | .tup xs=> .ok (!xs.isEmpty)
 | .lst xs=> .ok (!xs.isEmpty)
 | _=> .bad
def Z9 (fa:En->R T):En->R Bool:=λρ=>(fa ρ).bind tru
theorem isE (r:zC H xs ts):(!xs.isEmpty)= !ts.isEmpty:=by cases r <;> rfl
theorem z2S (ha:je X Y a fa)(he:∀whole,isTrue a X.env whole=(do let v ← whole;standAt a.pos;holding [v] (truthy v)):=by intro _;rfl):WK X Y a (Z9 fa):= .mk λρ=>
 PT.imp (vY (ha ρ) he) λσ H Q ⟨B,I,q⟩=>step I q λt v H1 _ s1 r1 I1 q1=>by
  cases r1 with
  | bl k=>exact⟨k,rfl,ZB I1 q1 rfl⟩
  | non=>exact⟨false,rfl,ZB I1 q1 rfl⟩
  | int i=>exact⟨_,rfl,ZB I1 q1 rfl⟩
  | tup h r=>exact⟨_,.inr (.inl ⟨_,SqT.of h,rfl⟩),ZB I1 q1 (isE r)⟩
  | lst h r=>exact⟨_,.inl ⟨_,SqL.of h,rfl⟩,ZB I1 q1 (isE r)⟩
  | _=>exact q1.elim
def ifE (g:En->R Bool)(fa fb:En->R T):En->R T:=λρ=>(g ρ).bind λk=>if k=true then fa ρ else fb ρ
theorem s_if (hc:WK X Y c ga)(ha:Snd X Y a fa)(hb:Snd X Y b fb):Snd X Y (.IfExp c a b pos) (ifE ga fa fb):= .mk λρ=>
 PE.imp (vU (hc ρ) (ha ρ) (hb ρ)) λσ H Q ⟨B,I,q⟩=>step I q λt v H1 _ s1 r1 I1 q1=>by
  have r1' :=r1;subst r1';cases v with
  | true=>exact⟨_,I1,q1⟩
  | false=>exact⟨_,I1,q1⟩
end
end PV
namespace PV
open PySem PySem.Spec PyProof.Rows L2
section
variable {X:Cx}{Y:Fx}{a b c d:Expr}{fa fb fc fd:En->R T}{pos p:Pos}
def ap1 (g:T->R T)(fa:En->R T):En->R T:=λρ=>(fa ρ).bind g
noncomputable abbrev St1 (X:Cx)(a:Expr):Prop:=starEach [a] X.env=[(false,eval a X.env)]
theorem JM {id:String}{x:Str}{r:List V->Hp->VK->Prop}{g:T->R T}(hc:Zk X (.builtin id) r)(hr:∀v t B H Q,Rep H v t->zt B H->Po Y rC B H (g t) Q->r [v] H Q)
  (gl:Gl X x) (mg:X.mg x=none) (bt:bootBuiltins x=some (.builtin id)) (ha:je X Y a fa) (hs:St1 X a:=by exact st1 rfl) (hn:x ≠ "__name__":=by decide) (hd:(x == ("__debug__":Str))=false:=by decide):Snd X Y (.Call (.Name x p) [a] [] pos) (ap1 g fa):= .mk λρ=>
 PE.imp (j0 hc gl mg bt (zv (ha ρ) zP hs) hn hd hs rfl) λσ H Q ⟨B,I,q⟩=>step I q λt v H1 _ s1 r1 I1 q1=>hr v t _ H1 Q r1 I1.sB q1
theorem qc {id:String}{x:Str}{r:List V->Hp->VK->Prop}{g:T->R T}(hc:Zk X (.type id) r)(hr:∀v t B H Q,Rep B v t->zt B H->Po Y rC B H (g t) Q->r [v] H Q)
  (gl:Gl X x) (mg:X.mg x=none) (bt:bootBuiltins x=some (.type id)) (ha:Snd X Y a fa) (hs:St1 X a:=by exact st1 rfl) (hn:x ≠ "__name__":=by decide) (hd:(x == ("__debug__":Str))=false:=by decide):Snd X Y (.Call (.Name x p) [a] [] pos) (ap1 g fa):= .mk λρ=>
 PE.imp (jb hc gl mg bt (zv (ha ρ) zP hs) hn hd hs rfl) λσ H Q ⟨B,I,q⟩=>step I q λt v H1 _ s1 r1 I1 q1=>hr v t _ H1 Q r1 I1.sB q1
def zT:T->R T
 | .tup xs=> .ok (.int xs.length)
 | .lst xs=> .ok (.int xs.length)
 | .fz xs=> .ok (.int xs.length)
 | .str x=>if x.length<=bnd then .ok (.int x.length) else .bad
 | _=> .bad
theorem z2T (v:V)(t:T)(B H:Hp)(Q:VK)(r:Rep H v t)(sB:zt B H)(q:Po Y rC B H (zT t) Q):
  (∃p ys,[v]=[V.ref p]/\(SqL X.K H p ys\/SqT X.K H p ys)/\Q (V.int ys.length) H)\/(∃z,[v]=[V.str z]/\z.length<=sizeLine/\Q (V.int z.length) H):=by
 cases r with
 | tup h r=>exact .inl ⟨_,_,rfl,.inr (SqT.of h),po0 sB q rfl (by rw[r.length];exact .int _)⟩
 | lst h r=>exact .inl ⟨_,_,rfl,.inl (SqL.of h),po0 sB q rfl (by rw[r.length];exact .int _)⟩
 | fz h r=>exact .inl ⟨_,_,rfl,.inl (.inl (.inr ⟨_,h⟩)),po0 sB q rfl (by rw[r.length];exact .int _)⟩
 | str x=>
  by_cases hb:x.length<=bnd
  ·exact .inr ⟨x,rfl,ZM hb,po0 sB q (if_pos hb) (.int _)⟩
  ·rw[show zT (.str x)= .bad from if_neg hb]at q;exact q.elim
 | _=>exact q.elim
theorem z2U (gl:Gl X "len")(mg:X.mg "len"=none)(ha:je X Y a fa)(hs:St1 X a:=by exact st1 rfl):Snd X Y (.Call (.Name "len" p) [a] [] pos) (ap1 zT fa):=
 JM (WX.or WY) z2T gl mg PySem.boot_len ha hs
noncomputable def z1x:T->R T
 | .tup xs=> .ok (.tup xs)
 | .lst xs=> .ok (.tup xs)
 | _=> .bad
theorem z2V (v:V)(t:T)(B H:Hp)(Q:VK)(r:Rep B v t)(sB:zt B H)(q:Po Y rC B H (z1x t) Q):
  ∃p ys,[v]=[V.ref p]/\((SqL X.K H p ys/\∀l,H l=none->Q (.ref l) (upd H l (.tup ys)))\/(SqT X.K H p ys/\Q (.ref p) H)):=by
 cases r with
 | tup h r=>exact⟨_,_,rfl,.inr ⟨SqT.of (sB _ _ h),po0 sB q rfl (.tup h r)⟩⟩
 | lst h r=>exact⟨_,_,rfl,.inl ⟨SqL.of (sB _ _ h),λl hl=>Gh sB q rfl r hl⟩⟩
 | _=>exact q.elim
theorem ke (gl:Gl X "tuple")(mg:X.mg "tuple"=none)(ha:Snd X Y a fa)(hs:St1 X a:=by exact st1 rfl):Snd X Y (.Call (.Name "tuple" p) [a] [] pos) (ap1 z1x fa):=
 qc W7 z2V gl mg (PyProof.Rows.Boot.«tuple») ha hs
noncomputable def tyN:T->String
 | .non=>"NoneType"
 | .bl _=>"bool"
 | .int _=>"int"
 | .str _=>"str"
 | .tup _=>"tuple"
 | .lst _=>"list"
 | .fz _=>"list"
def isT (n:String)(t:T):Bool:=tyN t == n || (n == "int" && tyN t == "bool")
theorem z2W (K:ae)(r:Rep H v t):yM K H v (.type (tyN t)):=by
 cases r with
 | non=>exact .non
 | bl b=>exact .bl b
 | int b=>exact .int b
 | str b=>exact .str b
 | tup h _=>exact .tup h
 | lst h _=>exact .lst h
 | fz h _=>exact .frz h
theorem V8:Zk X (.builtin "isinstance") (λxs H Q=>∃v n t,xs=[v,.ty n]/\Rep H v t/\aQ X.K (.type (tyN t)) (.type n)=some (isT n t)/\Q (.bl (isT n t)) H):=by
 intro pins s σ H xs us Q I rv h;obtain⟨v,n,t,rfl,r,hk,q⟩:=h;obtain⟨u,w,rfl,ru,rw'⟩:=yL rv;obtain rfl:w=Value.type n:=rw';exact YJ I ru (z2W X.K r) hk λtk=>⟨.bl _,H,I.tok tk,rfl,q⟩
def ZQ (n:String)(t:T):R T:= .ok (.bl (isT n t))
theorem kf (K:ae)(t:T):aQ K (.type (tyN t)) (.type "int")=some (isT "int" t):=by cases t <;> rfl
theorem V9 (K:ae)(t:T):aQ K (.type (tyN t)) (.type "bool")=some (isT "bool" t):=by cases t <;> rfl
theorem kg (K:ae)(t:T):aQ K (.type (tyN t)) (.type "str")=some (isT "str" t):=by cases t <;> rfl
theorem qd (K:ae)(t:T):aQ K (.type (tyN t)) (.type "tuple")=some (isT "tuple" t):=by cases t <;> rfl
theorem Va (hk:∀t,aQ X.K (.type (tyN t)) (.type n)=some (isT n t))(gl:Gl X "isinstance")(mg:X.mg "isinstance"=none)(gl' :Gl X (bf n))(mg' :X.mg (bf n)=none)(bt:bootBuiltins (bf n)=some (.type n))(ha:je X Y a fa)
  (hs:starEach [a,.Name (bf n) p'] X.env=[(false,eval a X.env),(false,eval (.Name (bf n) p') X.env)]:=by exact st2 rfl rfl) (hs2:starEach [.Name (bf n) p'] X.env=[(false,eval (.Name (bf n) p') X.env)]:=by exact st1 rfl)
  (hn:bf n ≠ "__name__":=by decide) (hd:(bf n == ("__debug__":Str))=false:=by decide) (hz:((backTo pos (starEach [.Name (bf n) p'] X.env)).any λx=>x.fst)=false:=by exact Zq rfl):
  Snd X Y (.Call (.Name "isinstance" p) [a,.Name (bf n) p'] [] pos) (ap1 (ZQ n) fa):= .mk λρ=>
 PE.imp (j0 V8 gl mg PyProof.Rows.Boot.«isinstance» (zv (ha ρ) (zv (Yw (v:= .ty n) gl' mg' bt rfl hn hd) zP hs2) (by rw[hs,hs2])) (by decide) (by decide) (by rw[hs,hs2]) hz) λσ H Q ⟨B,I,q⟩=>
  step I q λt v H1 _ s1 r1 I1 q1=>⟨v,n,t,rfl,r1,hk t,po0 I1.sB q1 rfl (.bl _)⟩
def atT (xs:List T)(i:Int):R T:=match atI xs i with
 | some t=> .ok t
 | none=> .bad
def ixT:T->T->R T
 | .tup xs,.int i=>atT xs i
 | .lst xs,.int i=>atT xs i
 | .fz xs,.int i=>atT xs i
 | .str z,.int i=>if z.length<=bnd then match atI z.cps.toList i with | some c=> .ok (.str ⟨#[c]⟩) | none=> .bad else .bad
 | _,_=> .bad
theorem qe (r:zC H xs ts)(h:atI ts i=some t):∃v,atI xs i=some v/\Rep H v t:=by
 unfold atI at h ⊢;rw[r.length];cases e:ixN _ i with
 | none=>rw[e]at h;cases h
 | some j=>
  rw[e]at h;obtain⟨v,h1,h2⟩:=r.get (h);exact⟨v,h1,h2⟩
theorem s_ix (ha:Snd X Y a fa)(hb:Snd X Y b fb)(hs:YM b:=by exact λ_ _=>rfl):Snd X Y (.Subscript a b pos) (zb ixT fa fb):= .mk λρ=>
 PE.imp (G1 G6 (ha ρ) (hb ρ) hs) λσ H Q ⟨B,I,q⟩=>step I q λt v H1 _ s1 r1 I1 q1=>step I1 q1 λt' v' H2 _ s2 r2 I2 q2=>by
  have r1:=r1.mono (zQ.ge I1.sB s2);cases r2 with
  | int i=>
   cases r1 with
   | @tup _ xs ts h r=>
    have q2:Po Y rC _ H2 (atT ts i) Q:=q2;unfold atT at q2;split at q2
    ·rename_i t' e;obtain⟨w,e1,e2⟩:=qe r e;exact .inr (.inl ⟨_,xs,i,w,rfl,rfl,SqT.of (I2.sB _ _ h),e1,po0 I2.sB q2 rfl e2⟩)
    ·exact q2.elim
   | @lst _ xs ts h r=>
    have q2:Po Y rC _ H2 (atT ts i) Q:=q2;unfold atT at q2;split at q2
    ·rename_i t' e;obtain⟨w,e1,e2⟩:=qe r e;exact .inl ⟨_,xs,i,w,rfl,rfl,SqL.of (I2.sB _ _ h),e1,po0 I2.sB q2 rfl e2⟩
    ·exact q2.elim
   | @fz _ _ xs ts h r=>
    have q2:Po Y rC _ H2 (atT ts i) Q:=q2;unfold atT at q2;split at q2
    ·rename_i t' e;obtain⟨w,e1,e2⟩:=qe r e;exact .inl ⟨_,xs,i,w,rfl,rfl,.inl (.inr ⟨_,I2.sB _ _ h⟩),e1,po0 I2.sB q2 rfl e2⟩
    ·exact q2.elim
   | str z=>
    have q2:Po Y rC _ H2 (if z.length<=bnd then match atI z.cps.toList i with | some c=> .ok _ | none=> .bad else .bad) Q:=q2
    split at q2
    ·rename_i hb;split at q2
     ·rename_i c e;exact .inr (.inr ⟨z,i,c,rfl,rfl,ZM hb,e,po0 I2.sB q2 rfl (.str _)⟩)
     ·exact q2.elim
    ·exact q2.elim
   | _=>exact q2.elim
  | _=>cases r1 <;> exact q2.elim
structure kh (X:Cx) (Y:Fx) (e:Option Expr) (f:En->R (Option Int)):Prop where
 mk ::
 go:∀ρ,PO X e (tS Y rE f ρ)
instance {X:Cx}{Y:Fx}{e:Option Expr}{f:En->R (Option Int)}:CoeFun (kh X Y e f) λ_=>∀ρ,PO X e (tS Y rE f ρ):=⟨kh.go⟩
def noO:En->R (Option Int):=λ_=> .ok none
def zU (fa:En->R T):En->R (Option Int):=λρ=>(fa ρ).bind λt=>match t with
 | .int i=> .ok (some i)
 | _=> .bad
theorem PO.imp {e:Option Expr}{t t' :TO}(h:PO X e t)(i:∀σ H Q,t' σ H Q->t σ H Q):PO X e t' :=λpins s σ H Q I q=>h _ s σ H Q I (i σ H Q q)
theorem Gu:kh X Y none noO:= .mk λρ=>PO.imp XG λσ H Q ⟨B,I,q⟩=>ZB I q rfl
theorem Gv (ha:Snd X Y a fa):kh X Y (some a) (zU fa):= .mk λρ=>PO.imp (XH (ha ρ)) λσ H Q ⟨B,I,q⟩=>step I q λt v H1 _ s1 r1 I1 q1=>by
 cases r1 with
 | int i=>exact⟨i,rfl,ZB I1 q1 rfl⟩
 | _=>exact q1.elim
noncomputable def cut (xs:List T)(lo hi:Option Int):List T:=(xs.drop (HT.sIx xs.length 0 lo)).take (HT.sIx xs.length xs.length hi - HT.sIx xs.length 0 lo)
def slT (t:T)(lo hi:Option Int):R T:=match t with
 | .tup xs=> .ok (.tup (cut xs lo hi))
 | .lst xs=> .ok (.lst (cut xs lo hi))
 | _=> .bad
def slE (fa:En->R T)(fl fh:En->R (Option Int)):En->R T:=λρ=>(fa ρ).bind λt=>(fl ρ).bind λlo=>(fh ρ).bind λhi=>slT t lo hi
theorem qf {lo hi:Option Int}(r:zC H xs ts):zC H (gh xs lo hi) (cut ts lo hi):=by
 unfold gh cut;rw[r.length];exact(r.drop _).take _
theorem jX {lo hi:Option Int}(ht:IsTup s.heap t items)(hs:s.heap.IsSliceOf sl vl vu .none)(pl:IsPart vl lo)(pu:IsPart vu hi)
  (hw:HT.sIx items.size 0 lo=0/\HT.sIx items.size items.size hi=items.size) (h:Q (.ref t) s):wpAny (model prog w) A (getItem (.ref t) (.ref sl)) Q E s:=by
 obtain⟨os,hos,hcs,hds⟩:=id hs;have hTs:s.TypeIs (.ref sl) _:=⟨os,hos,hcs⟩;unfold getItem
 try with_reducible refine ck ?_
 refine a7 (wpAny_sequenceKey ht.typeIs (by decide) ?_)
 refine a7 (bz ht.typeIs bq
  (bV bq ht.typeIs entry_tuple_getitem ?_ (args_tuple_getitem _ _)))
 show wpAny _ _ (eB _ >>= _) _ _ s;refine a7 (tupleItemsOf_ ht ?_);refine a7 (db hTs ?_);refine a7 (HT.sliceApplied_gen hs pl pu ?_);have hyes:(((HT.sIx items.size 0 lo):Int) == 0 && (1:Int) == 1 && (HT.sIx items.size items.size hi - HT.sIx items.size 0 lo) == items.size)=true:=by
  rw[hw.1,hw.2];simp
 show wpAny _ _ (if (((HT.sIx _ 0 lo:Nat):Int) == 0 && (1) == 1 && (HT.sIx _ _ hi - HT.sIx _ 0 lo) == items.size)=true then _ else _) _ _ s
 rw[if_pos hyes];refine a7 (a7 (db ht.typeIs (ar ?_)));exact a7 (dL (ar ⟨_,rfl,ar h⟩))
theorem yS:SlR X (λx lo hi H Q=>∃a xs,x= .ref a/\SqT X.K H a xs/\(HT.sIx xs.length 0 lo=0/\HT.sIx xs.length xs.length hi=xs.length)/\Q (.ref a) H):=by
 intro pins s σ H x v vl vu lo hi sl Q I rx hs pl pu h;obtain⟨a,xs,rfl,hx,hw,q⟩:=h;obtain rfl:v=Value.ref a:=rx;obtain⟨its,r,ht,hz⟩:=I.tuple hx;have hlen:its.toArray.size=xs.length:=by exact r.length.symm
 refine⟨"tuple",_,bq.lookup,ht.typeIs, ?_⟩;exact jX ht hs pl pu (by rw[hlen];exact hw) ⟨.ref a,H,I,rfl,q⟩
theorem ki {lo hi:Option Int}(h1:HT.sIx xs.length 0 lo=0)(h2:HT.sIx xs.length xs.length hi=xs.length):cut xs lo hi=xs:=by
 unfold cut;rw[h1,h2];simp
theorem kl {lo hi:Option Expr}{fl fh:En->R (Option Int)}(ha:Snd X Y a fa)(hl:kh X Y lo fl)(hh:kh X Y hi fh):Snd X Y (.Subscript a (.Slice lo hi none p2) pos) (slE fa fl fh):= .mk λρ=>
 PE.imp (V1 (gZ.or (yS.or XM)) (ha ρ) (hl ρ) (hh ρ)) λσ H Q ⟨B,I,q⟩=>step I q λt v H1 _ s1 r1 I1 q1=>step I1 q1 λl l' H2 _ s2 el I2 q2=>step I2 q2 λh h' H3 _ s3 eh I3 q3=>by
  have el' :=el;have eh' :=eh;subst el' eh';have r1:=r1.mono ((zQ.ge I1.sB s2).trans (zQ.ge I2.sB s3));cases r1 with
  | @tup _ xs ts hx r=>
   by_cases hw:HT.sIx xs.length 0 l' =0/\HT.sIx xs.length xs.length h' =xs.length
   ·refine .inr (.inl ⟨_,xs,rfl,SqT.of (I3.sB _ _ hx),hw,po0 I3.sB q3 rfl ?_⟩);rw[r.length]at hw;rw[ki hw.1 hw.2];exact .tup hx r
   ·exact .inl ⟨_,xs,rfl,SqT.of (I3.sB _ _ hx),hw,λp hp=>Gh I3.sB q3 rfl (qf r) hp⟩
  | @lst _ xs ts hx r=>
   exact .inr (.inr ⟨_,xs,rfl,SqL.of (I3.sB _ _ hx),λp hp=>z2D I3.sB q3 rfl (qf r) hp⟩)
  | _=>exact q3.elim
noncomputable def qg (t t' :T):R T:=match t,t' with
 | .int i,.int j=> .ok (.int (if j < i then j else i))
 | _,_=> .bad
theorem Gw (hc:X.calm=true)(gl:Gl X "min")(mg:X.mg "min"=none)(ha:Snd X Y a fa)(hb:Snd X Y b fb)
  (hs:starEach [a,b] X.env=[(false,eval a X.env),(false,eval b X.env)]:=by exact st2 rfl rfl) (hs2:starEach [b] X.env=[(false,eval b X.env)]:=by exact st1 rfl):
  Snd X Y (.Call (.Name "min" p) [a,b] [] pos) (zb qg fa fb):= .mk λρ=>
 PE.imp (j0 (YG hc) gl mg PyProof.Rows.Boot.«min» (zv (ha ρ) (zv (hb ρ) zP hs2) (by rw[hs,hs2])) (by decide) (by decide) (by rw[hs,hs2]) (by rw[hs2];rfl)) λσ H Q ⟨B,I,q⟩=>
  step I q λt v H1 _ s1 r1 I1 q1=>step I1 q1 λt' v' H2 _ s2 r2 I2 q2=>by
   cases r1 with
   | int i=>
    cases r2 with
    | int j=>exact⟨i,j,rfl,po0 I2.sB q2 rfl (.int _)⟩
    | _=>exact q2.elim
   | _=>cases r2 <;> exact q2.elim
noncomputable def u7:List T->Option Bool
 | []=>some true
 | .bl k :: r=>match u7 r with | some j=>some (k && j) | none=>none
 | _ :: _=>none
def xI:T->R T
 | .lst ts=>match u7 ts with | some k=> .ok (.bl k) | none=> .bad
 | _=> .bad
theorem qh:∀{H:Hp} {xs:List V} {ts:List T} {its:List Value} {k:Bool},zC H xs ts->Vals xs its->u7 ts=some k->∃tr:Nat->Bool,(∀i v,its[i]? =some v->v=Value.bool (tr i))/\(aX its.length).all tr=k
 | _,_,_,_,k,.nil,.nil,h=>by
  have h' :=h;cases h';exact⟨λ_=>true,λi v e=>by simp at e,rfl⟩
 | H,_,_,_,k,.cons r rs,.cons (b:=u) rv vs,h=>by
  cases r with
  | bl b=>
   unfold u7 at h;split at h
   ·rename_i j e;cases h;obtain⟨tr,h1,h2⟩:=qh rs vs e;obtain rfl:u=Value.bool b:=rv;refine⟨λi=>match i with | 0=>b | i+1=>tr i,λi v e=> ?_, ?_⟩
    ·cases i with
     | zero=>simp at e;exact e.symm
     | succ i=>exact h1 i v (by simpa using e)
    ·rw[ai,ci,bR,ir,← h2];rfl
   ·cases h
  | _=>cases h
theorem qi (hh:X.A.handled=none):Zk X (.builtin "all") (λvs H Q=>∃l xs ts k,vs=[.ref l]/\H l=some (.lst xs)/\zC H xs ts/\u7 ts=some k/\Q (.bl k) H):=by
 intro pins s σ H vs us Q I rv h;obtain⟨l,xs,ts,k,rfl,hl,r,hk,q⟩:=h;obtain⟨u,rfl,ru⟩:=Zv rv;obtain rfl:u=Value.ref l:=ru;obtain⟨its,rv,p,_⟩:=zO I (.inl hl) r;obtain⟨tr,h1,h2⟩:=qh r rv hk;refine call_all_walk (wpAny_pyIter_list p ?_);have hlt:=I.hok.lt hl;have old:∀b o,s.heap.get? b=some o->(s.heap.push { cls:= .type "list_iterator",data:= .fields #[.ref l,.int 0 0] }).get? b=some o:=λb o e=>ag _ e;refine⟨s.heap.objs.size,_,_,_,_,_,tr,rfl,lj (A:=X.A.in1) hh _ l (aC hlt) its.toArray, ?_, ?_,λh' tk hk' => ?_⟩
 ·refine⟨?_,p.at λo e=>old _ o e⟩;exact⟨_,aj _ rfl,rfl,rfl⟩
 ·intro i v s' Q' E' hi hq;rw[h1 i v (by simpa using hi)]
  exact bj hq
 ·rw[aE,h2];refine⟨.bl k,H,I.kept (λb o e=>hk' b o ?_ (old b o e)),rfl,q⟩;simp;exact aC (aq e)
theorem z2X (hh:X.A.handled=none)(gl:Gl X "all")(mg:X.mg "all"=none)(ha:je X Y a fa)(hs:St1 X a:=by exact st1 rfl):Snd X Y (.Call (.Name "all" p) [a] [] pos) (ap1 xI fa):=
 JM (qi hh) (λv t B H Q r sB q=>by
  cases r with
  | @lst l xs ts h r=>
   have q:Po Y rC B H (match u7 ts with | some k=> .ok _ | none=> .bad) Q:=q
   split at q
   ·rename_i k e;exact⟨l,xs,ts,k,rfl,h,r,e,po0 sB q rfl (.bl k)⟩
   ·exact q.elim
  | _=>exact q.elim) gl mg PyProof.Rows.Boot.«all» ha hs
end
inductive RS where
 | nx (ρ:En) | rt (t:T) | bk (ρ:En) | ct (ρ:En) | ex (c:Nat) | bad | rf (ts:List T)
noncomputable def R.s {α:Type}(r:R α)(k:α->RS):RS:=match r with
 | .ok a=>k a
 | .ex c=> .ex c
 | .bad=> .bad
def PoS (Y:Fx)(B:Hp)(r:RS)(D:vT):Prop:=match r with
 | .nx ρ' =>∀σ' H' B',zt B B' ->SI Y B' ρ' σ' H' ->D.nx σ' H'
 | .rt t=>∀v H',zt Y.H0 H' ->Rep (zQ Y.B0 Y.H0 H') v t->D.rt v H'
 | .bk ρ' =>∀σ' H' B',zt B B' ->SI Y B' ρ' σ' H' ->D.bk σ' H'
 | .ct ρ' =>∀σ' H' B',zt B B' ->SI Y B' ρ' σ' H' ->D.ct σ' H'
 | .ex c=>XP Y B c
 | .bad=>False
 | .rf ts=>∀a xs H' B',zt Y.H0 H' ->Y.H0 a=none->H' a=some (.lst xs)->zC B' xs ts->B' a=none->zt B' (zQ Y.B0 Y.H0 H')->D.rt (.ref a) H'
theorem PoS.up {r:RS}{D:vT}(s:zt B B')(h:PoS Y B r D):PoS Y B' r D:=by
 cases r with
 | nx ρ=>exact λσ' H' B2 s2 I=>h σ' H' B2 (s.trans s2) I
 | bk ρ=>exact λσ' H' B2 s2 I=>h σ' H' B2 (s.trans s2) I
 | ct ρ=>exact λσ' H' B2 s2 I=>h σ' H' B2 (s.trans s2) I
 | rt t=>exact h
 | rf t=>exact h
 | ex c=>exact λd H' s0 sB=>h d H' s0 (s.trans sB)
 | bad=>exact h
def tSS (Y:Fx)(f:En->RS)(ρ:En):TS:=λD σ H=>∃B,SI Y B ρ σ H/\PoS Y B (f ρ) D
structure wz (X:Cx) (Y:Fx) (e:Stmt) (f:En->RS):Prop where
 mk ::
 go:∀ρ,PS X e (tSS Y f ρ)
instance {X:Cx}{Y:Fx}{e:Stmt}{f:En->RS}:CoeFun (wz X Y e f) λ_=>∀ρ,PS X e (tSS Y f ρ):=⟨wz.go⟩
structure wJ (X:Cx) (Y:Fx) (e:List Stmt) (f:En->RS):Prop where
 mk ::
 go:∀ρ,PSs X e (tSS Y f ρ)
instance {X:Cx}{Y:Fx}{e:List Stmt}{f:En->RS}:CoeFun (wJ X Y e f) λ_=>∀ρ,PSs X e (tSS Y f ρ):=⟨wJ.go⟩
theorem jY {α β:Type}{rel:Hp->Hp->β->α->Prop}{f:En->R α}{k:α->RS}{D:vT}{K:β->Hp->Prop}
  (I:SI Y B ρ σ H) (h:PoS Y B ((f ρ).s k) D)
  (n:∀a b H1,f ρ= .ok a->zt H H1->rel (zQ B H H1) H1 b a->SI Y (zQ B H H1) ρ σ H1->PoS Y (zQ B H H1) (k a) D->K b H1):tS Y rel f ρ σ H K:=by
 refine⟨B,I, ?_⟩;cases e:f ρ with
 | bad=>rw[e]at h;exact h
 | ex c=>rw[e]at h;exact h
 | ok a=>
  rw[e]at h;exact λb H1 s r=>n a b H1 e s r (I.grow s) (PoS.up (zQ.ge I.sB s) h)
theorem zy {α:Type}{xs:List α}{x y:α}(h:(xs.set i x)[j]? =some y):(j=i/\y=x)\/(j ≠ i/\xs[j]? =some y):=by
 by_cases e:j=i
 ·subst e
  by_cases hl:j < xs.length
  ·rw[aW hl]at h;exact .inl ⟨rfl,(aL h).symm⟩
  ·rw[aS (by rw[bu];omega)]at h;cases h
 ·rw[aH (bK e)]at h;exact .inr ⟨e,h⟩
theorem UH {α:Type}{xs:List α}{x y:α}(h:(xs.set i x)[i]? =some y):i < xs.length:=by
 by_cases hl:i < xs.length
 ·exact hl
 ·rw[aS (by rw[bu];omega)]at h;cases h
theorem StI.set {O:Addr->Option (Nat×Nat)}(x:StI Y B ρ σ H as O)(i:Nat)(s:Sl)(v:Option V)(h1:s.isO=false)(h3:∀ts,s ≠ .ow ts):StI Y B (ρ.set i s) (σ.set i v) H as O:=
 x.on (λj y hy h=>by
  rcases zy h with ⟨_,e⟩ | ⟨hj,h'⟩
  ·rw[e,h1]at hy;cases hy
  ·exact⟨h',aH (bK hj)⟩) (zt.refl _) rfl rfl (zt.refl _) λb o hb b0 h0 _=>⟨hb,b0,h0,λok j us h=>by
  rcases zy h with ⟨_,e⟩ | ⟨hj,h'⟩
  ·exact absurd e.symm (h3 us)
  ·rw[aH (bK hj)];exact ok j us h'⟩
theorem SI.setV (I:SI Y B ρ σ H)(i:Nat)(r:Rep B v t):SI Y B (ρ.set i (.vl t)) (σ.set i (some v)) H where
 s0:=I.s0
 sH:=I.sH
 sB:=I.sB
 old:=I.old
 len:=by rw[bu,bu];exact I.len
 vl:=λj u h=>by
  rcases zy h with ⟨rfl,e⟩ | ⟨hj,h'⟩
  ·cases e;exact⟨v,aW (by rw[← I.len];exact UH h),r⟩
  ·obtain⟨w,e,rr⟩:=I.vl j u h';exact⟨w,by rw[aH (bK hj)];exact e,rr⟩
 ow:=λj us h=>by
  rcases zy h with ⟨rfl,e⟩ | ⟨hj,h'⟩
  ·cases e
  ·obtain⟨a,xs,e,b0,h0,hh,rr,d⟩:=I.ow j us h';refine⟨a,xs,by rw[aH (bK hj)];exact e,b0,h0,hh,rr,λk ws hk hw=> ?_⟩
   rcases zy hw with ⟨rfl,e'⟩ | ⟨hk',hw'⟩
   ·cases e'
   ·rw[aH (bK hk')];exact d k ws hk hw'
 xc:=λj c h=>by
  rcases zy h with ⟨rfl,e⟩ | ⟨hj,h'⟩
  ·cases e
  ·obtain⟨a,e,r⟩:=I.xc j c h';exact⟨a,by rw[aH (bK hj)];exact e,r⟩
 st:=let ⟨as,O,x⟩:=I.st;⟨as,O,x.set i _ _ rfl (λ_=>Sl.noConfusion)⟩
theorem SI.newO (I:SI Y B ρ σ H)(i:Nat)(hp:H p=none)(r:zC B xs ts):SI Y B (ρ.set i (.ow ts)) (σ.set i (some (.ref p))) (upd H p (.lst xs)) where
 s0:=I.s0
 sH:=I.sH.trans (zt.new hp _)
 sB:=I.sB.trans (zt.new hp _)
 old:=I.old
 len:=by rw[bu,bu];exact I.len
 vl:=λj u h=>by
  rcases zy h with ⟨rfl,e⟩ | ⟨hj,h'⟩
  ·cases e
  ·obtain⟨w,e,rr⟩:=I.vl j u h';exact⟨w,by rw[aH (bK hj)];exact e,rr⟩
 ow:=λj us h=>by
  have op:∀k ws a,ρ[k]? =some (Sl.ow ws)->σ[k]? =some (some (V.ref a))->a ≠ p:=λk ws a h1 h2=>by
   obtain⟨a',xs',e,_,_,hh,_⟩:=I.ow k ws h1;rw[e]at h2;cases h2;exact zF hh hp
  rcases zy h with ⟨rfl,e⟩ | ⟨hj,h'⟩
  ·cases e;refine⟨p,xs,aW (by rw[← I.len];exact UH h),I.sB.free hp,I.sH.free hp,zD,r,λk ws hk hw=> ?_⟩
   rcases zy hw with ⟨rfl,e'⟩ | ⟨hk',hw'⟩
   ·exact absurd rfl hk
   ·rw[aH (bK hk')];exact λz=>op k ws p hw' z rfl
  ·obtain⟨a,xs',e,b0,h0,hh,rr,d⟩:=I.ow j us h';refine⟨a,xs',by rw[aH (bK hj)];exact e,b0,h0,by rw[zk (op j us a h' e)];exact hh,rr,λk ws hk hw=> ?_⟩
   rcases zy hw with ⟨rfl,e'⟩ | ⟨hk',hw'⟩
   ·rw[aW (by rw[← I.len];exact UH hw)]
    intro z;exact op j us a h' e (by injection z with z;injection z with z;injection z with z;exact z.symm)
   ·rw[aH (bK hk')];exact d k ws hk hw'
 xc:=λj c h=>by
  rcases zy h with ⟨rfl,e⟩ | ⟨hj,h'⟩
  ·cases e
  ·obtain⟨a,e,r⟩:=I.xc j c h';exact⟨a,by rw[aH (bK hj)];exact e,r⟩
 st:=by
  obtain⟨as,O,x⟩:=I.st;refine⟨as,O,x.on (λj y hy h=> ?_) (zt.refl _) rfl rfl (zt.refl _) λb o hb b0 h0 _=> ?_⟩
  ·rcases zy h with ⟨_,e⟩ | ⟨hj,h'⟩
   ·subst e;cases hy
   ·exact⟨h',aH (bK hj)⟩
  ·have hne:b ≠ p:=zF hb hp;refine⟨by rw[zk hne];exact hb,b0,h0,λok j us h=> ?_⟩
   rcases zy h with ⟨rfl,e⟩ | ⟨hj,h'⟩
   ·rw[aW (by rw[← I.len];exact UH h)]
    intro z;injection z with z;injection z with z;injection z with z;exact hne z.symm
   ·rw[aH (bK hj)];exact ok j us h'
theorem SI.chg (I:SI Y B ρ σ H)(i:Nat)(hi:ρ[i]? =some (.ow ts))(he:σ[i]? =some (some (.ref p)))(r:zC B ys us):SI Y B (ρ.set i (.ow us)) σ (upd H p (.lst ys)):=by
 obtain⟨p',xs,e,b0,h0,hh,rr,d⟩:=I.ow i ts hi;rw[he]at e;cases e;have nb:∀b o,B b=some o->b ≠ p:=λb o h z=>by subst z;rw[b0]at h;cases h
 have n0:∀b o,Y.H0 b=some o->b ≠ p:=λb o h z=>by subst z;rw[h0]at h;cases h
 refine⟨I.s0,λb o h=>by rw[zk (n0 b o h)];exact I.sH b o h,λb o h=>by rw[zk (nb b o h)];exact I.sB b o h,I.old,by rw[bu];exact I.len,λj u h=> ?_,λj ws h=> ?_,λj c h=> ?_, ?_⟩
 rotate_right
 ·obtain⟨as,O,x⟩:=I.st;refine⟨as,O,x.on (λj y hy h=> ?_) (zt.refl _) rfl rfl (zt.refl _) λb o hb b0' h0' cs=> ?_⟩
  ·rcases zy h with ⟨_,e⟩ | ⟨hj,h'⟩
   ·subst e;cases hy
   ·exact⟨h',rfl⟩
  ·have hne:b ≠ p:=λz=>by
    subst z;rcases cs with ⟨C,dx,vs,ez⟩ | ok
    ·rw[hh]at hb;cases hb;cases ez
    ·exact ok i ts hi he
   refine⟨by rw[zk hne];exact hb,b0',h0',λok j us h=> ?_⟩
   rcases zy h with ⟨rfl,e⟩ | ⟨hj,h'⟩
   ·rw[he];intro z;injection z with z;injection z with z;injection z with z;exact hne z.symm
   ·exact ok j us h'
 rotate_right
 ·rcases zy h with ⟨rfl,z⟩ | ⟨hj,h'⟩
  ·cases z
  ·exact I.xc j c h'
 ·rcases zy h with ⟨rfl,z⟩ | ⟨hj,h'⟩
  ·cases z
  ·exact I.vl j u h'
 ·rcases zy h with ⟨rfl,z⟩ | ⟨hj,h'⟩
  ·cases z;refine⟨p,ys,he,b0,h0,zD,r,λk vs hk hw=> ?_⟩;rcases zy hw with ⟨rfl,e'⟩ | ⟨hk',hw'⟩
   ·exact absurd rfl hk
   ·exact d k vs hk hw'
  ·obtain⟨a,xs',e,c0,g0,gg,ss,d'⟩:=I.ow j ws h';have hne:a ≠ p:=λz=>by subst z;exact d j ws hj h' e
   refine⟨a,xs',e,c0,g0,by rw[zk hne];exact gg,ss,λk vs hk hw=> ?_⟩
   rcases zy hw with ⟨rfl,e'⟩ | ⟨hk',hw'⟩
   ·rw[he];intro z;injection z with z;injection z with z;injection z with z;exact hne z.symm
   ·exact d' k vs hk hw'
noncomputable def wK:Sl->Sl
 | .ow ts=> .vl (.lst ts)
 | .ob _ _=> .un
 | .st _=> .un
 | x=>x
def frz (ρ:En):En:=ρ.map wK
theorem SI.up (I:SI Y B ρ σ H):zt B (zQ B Y.H0 H):=λb o h=>by
 cases q:Y.H0 b with
 | none=>rw[Z5 q];exact I.sB b o h
 | some u=>rw[Z6 q];exact h
theorem SI.frz (I:SI Y B ρ σ H):SI Y (zQ B Y.H0 H) (PV.frz ρ) σ H:=by
 have up:zt B (zQ B _ H):=λb o h=>by
  cases q:Y.H0 b with
  | none=>rw[Z5 q];exact I.sB b o h
  | some u=>rw[Z6 q];exact h
 refine⟨I.s0,I.sH,λb o h=> ?_,λb o h=>by rw[Z6 h];exact I.old b o h,by unfold PV.frz;rw[aa];exact I.len,λj t h=> ?_,λj ts h=> ?_,λj c h=> ?_, ?_⟩
 rotate_right
 ·have no:∀(j:Nat) (y:Sl),y.isS=true->(PV.frz ρ)[j]? ≠ some y:=λj y hy h=>by
   unfold PV.frz at h;rw[aA]at h;cases e:ρ[j]? with
   | none=>rw[e]at h;cases h
   | some x=>rw[e]at h;cases x <;> (cases h;cases hy)
  obtain⟨as,O,x⟩:=I.st;refine⟨Y.as,λ_=>none,eY _,λi os e=>(no i _ rfl e).elim,λi j os os' e=>(no i _ rfl e).elim,λi k n e=>(no i _ rfl e).elim,λi k fs h=> ?_,λi os e=>(no i _ rfl e).elim⟩;have h' :ρ[i]? =some (Sl.oc k fs):=by
   unfold PV.frz at h;rw[aA]at h;cases e:ρ[i]? with
   | none=>rw[e]at h;cases h
   | some x=>rw[e]at h;cases x <;> (cases h;try rfl)
  obtain⟨a,C,dx,vs,e1,e2,e3,e4,e5⟩:=x.oc i k fs h';exact⟨a,C,dx,vs,e1,e2,e3,e4,e5.mono up (zt.refl _)⟩
 rotate_right
 ·unfold PV.frz at h;rw[aA]at h;cases e:ρ[j]? with
  | none=>rw[e]at h;cases h
  | some x=>
   rw[e]at h;cases x with
   | xc d=>
    cases h;obtain⟨a,e1,r⟩:=I.xc j _ e;exact⟨a,e1,up a _ r⟩
   | un=>cases h
   | vl _=>cases h
   | ow _=>cases h
   | ob _ _=>cases h
   | oc _ _=>cases h
   | st _=>cases h
 ·cases q:Y.H0 b with
  | none=>rw[Z5 q]at h;exact h
  | some u=>rw[Z6 q]at h;exact I.sB b o h
 ·unfold PV.frz at h;rw[aA]at h;cases e:ρ[j]? with
  | none=>rw[e]at h;cases h
  | some x=>
   rw[e]at h;cases x with
   | un=>cases h
   | vl u=>
    cases h;obtain⟨v,e1,r⟩:=I.vl j _ e;exact⟨v,e1,r.mono up⟩
   | ow us=>
    cases h;obtain⟨a,xs,e1,b0,h0,hh,rr,_⟩:=I.ow j us e;exact⟨.ref a,e1,.lst (by rw[Z5 h0];exact hh) (rr.mono up)⟩
   | xc _=>cases h
   | ob _ _=>cases h
   | oc _ _=>cases h
   | st _=>cases h
 ·unfold PV.frz at h;rw[aA]at h;cases e:ρ[j]? with
  | none=>rw[e]at h;cases h
  | some x=>
   rw[e]at h;cases x with
   | un=>cases h
   | vl u=>cases h
   | ow us=>cases h
   | xc _=>cases h
   | ob _ _=>cases h
   | oc _ _=>cases h
   | st _=>cases h
theorem qj {Y:Fx}{B H H' :Hp}(s0:zt Y.H0 H)(old:∀b o,Y.H0 b=some o->B b=Y.B0 b)(s:zt H H')(sB:zt B H):zt (zQ B H H') (zQ Y.B0 Y.H0 H'):=λb o h=>by
 cases q:H b with
 | none=>
  rw[Z5 q]at h;rw[Z5 (s0.free q)];exact h
 | some u=>
  rw[Z6 q]at h;cases z:Y.H0 b with
  | none=>rw[Z5 z];exact s b o (sB b o h)
  | some w=>rw[Z6 z,← old b w z];exact h
section
variable {X:Cx}{Y:Fx}{a b c d:Expr}{fa fb fc fd:En->R T}{pos p:Pos}{st:Stmt}{sts sts' :List Stmt}{f g:En->RS}
def nxS:En->RS:=λρ=> .nx ρ
def zh (f g:En->RS):En->RS:=λρ=>match f ρ with
 | .nx ρ' =>g ρ'
 | r=>r
theorem z2Y:wJ X Y [] nxS:= .mk λρ=>PSs.imp Xz λD σ H ⟨B,I,q⟩=>q σ H B (zt.refl B) I
theorem z2Z (h:wz X Y st f):wJ X Y [st] f:= .mk λρ=>uQ (h ρ)
theorem Gx (h1:wz X Y st f)(h2:wJ X Y sts g):wJ X Y (st :: sts) (zh f g):= .mk λρ=>by
 refine PSs.imp (UA (u:=λD σ H=>∃ρ',tSS Y g ρ' D σ H) (h1 ρ) ?_) ?_
 ·intro pins s σ H D I ⟨ρ',q⟩;exact h2 ρ' _ s σ H D I q
 ·intro D σ H ⟨B,I,q⟩;refine⟨B,I, ?_⟩;unfold zh at q;cases e:f ρ with
  | nx ρ' =>
   rw[e]at q;intro σ' H' B' s' I';exact⟨ρ',B',I',PoS.up s' q⟩
  | rt t=>rw[e]at q;exact q
  | rf t=>rw[e]at q;exact q
  | bk ρ' =>rw[e]at q;exact q
  | ct ρ' =>rw[e]at q;exact q
  | ex c=>rw[e]at q;exact q
  | bad=>rw[e]at q;exact q
def zp (i:Nat)(fa:En->R T):En->RS:=λρ=>(fa ρ).s λt=> .nx (ρ.set i (.vl t))
theorem Gy (hN:X.N.Nodup)(hi:X.N[i]? =some x)(hx:L2.Loc X.env.scope x)(ha:Snd X Y a fa)(hs:swapsWith a (some (.Name x p')) pos.line X.env=pure false:=by rfl)
  (hf:X.fn x=true\/X.env.scope.names.lookup x=some .local:=by first | exact .inl rfl | exact .inr rfl | assumption):wz X Y (.Assign [.Name x p'] a pos) (zp i fa):= .mk λρ=>
 PS.imp (WP hN hi hx (ha ρ) hs hf) λD σ H ⟨B,I,q⟩=>jY I q λt v H1 _ s1 r1 I1 q1=>q1 _ _ _ (zt.refl _) (I1.setV i r1)
def UI (i:Nat)(ga:En->R (List T)):En->RS:=λρ=>(ga ρ).s λts=>if ts.length<=bnd then .nx (ρ.set i (.ow ts)) else .bad
theorem Gz (hN:X.N.Nodup)(hi:X.N[i]? =some x)(hx:L2.Loc X.env.scope x)(ha:uN X Y es ga)(hs:swapsWith (.List es p) (some (.Name x p')) pos.line X.env=pure false:=by rfl)
  (hf:X.fn x=true\/X.env.scope.names.lookup x=some .local:=by first | exact .inl rfl | exact .inr rfl | assumption):wz X Y (.Assign [.Name x p'] (.List es p) pos) (UI i ga):= .mk λρ=>
 PS.imp (WP hN hi hx (xC (ha ρ)) hs hf) λD σ H ⟨B,I,q⟩=>jY I q λts vs H1 _ s1 r1 I1 q1=>by
  split at q1
  ·rename_i hb;exact⟨by rw[r1.length];exact ZM hb,λp hp=>q1 _ _ _ (zt.refl _) (I1.newO i hp r1)⟩
  ·exact q1.elim
def zl (fa:En->R T):En->RS:=λρ=>(fa (frz ρ)).s λt=> .rt t
theorem z30 (ha:Snd X Y a fa):wz X Y (.Return (some a) pos) (zl fa):= .mk λρ=>
 PS.imp (Yx (ha _)) λD σ H ⟨B,I,q⟩=>by
  refine⟨_,I.frz, ?_⟩;unfold zl at q;cases e:fa _ with
  | bad=>rw[e]at q;exact q
  | ex c=>
   rw[e]at q;exact λd H' s0 sG=>q d H' s0 (I.up.trans sG)
  | ok t=>
   rw[e]at q;intro v H' s r;have J:=I.frz;exact q v H' (I.sH.trans s) (r.mono (qj J.sH J.old s J.sB))
def ifS (g:En->R Bool)(f1 f2:En->RS):En->RS:=λρ=>(g ρ).s λk=>if k=true then f1 ρ else f2 ρ
theorem z31 (hc:WK X Y c ga)(h1:wJ X Y sts f)(h2:wJ X Y sts' g):wz X Y (.If c sts sts' pos) (ifS ga f g):= .mk λρ=>
 PS.imp (z2i (hc ρ) (h1 ρ) (h2 ρ)) λD σ H ⟨B,I,q⟩=>jY I q λt v H1 _ s1 r1 I1 q1=>by
  have r1' :=r1;subst r1';cases v with
  | true=>exact⟨_,I1,q1⟩
  | false=>exact⟨_,I1,q1⟩
def wA (fa:En->R T):En->RS:=λρ=>(fa ρ).s λ_=> .nx ρ
theorem GA (ha:Snd X Y a fa)(hs:swapsWith a none pos.line X.env=pure false:=by rfl):wz X Y (.Expr a pos) (wA fa):= .mk λρ=>
 PS.imp (uR (ha ρ) hs) λD σ H ⟨B,I,q⟩=>jY I q λt v H1 _ s1 r1 I1 q1=>q1 _ _ _ (zt.refl _) I1
def Vb (i:Nat)(fa:En->R T):En->RS:=λρ=>match ρ[i]? with
 | some (.ow ts)=>(fa ρ).s λt=>if ts.length < bnd then .nx (ρ.set i (.ow (ts++[t]))) else .bad
 | _=> .bad
def yT (i:Nat)(fa:En->R T):En->RS:=λρ=>match ρ[i]? with
 | some (.ow ts)=>(fa ρ).s λt=>match t with
  | .lst us=>if ts.length+us.length<=bnd then .nx (ρ.set i (.ow (ts++us))) else .bad
  | _=> .bad
 | _=> .bad
theorem GB (h:n < bnd):n < sizeLine:=by exact h
theorem z32 (hv:PE X (.Name x px) (Uz i))(ha:Snd X Y a fa)(hb:attributeBase (.Name x px) "append" X.env (eval (.Name x px) X.env)=eval (.Name x px) X.env:=by rfl)(hs:St1 X a:=by exact st1 rfl)
  (hz:(pa.endLine == p.line)=true:=by rfl) (hw:swapsWith (.Call (.Attribute (.Name x px) "append" pa) [a] [] p) none pos.line X.env=pure false:=by rfl):wz X Y (.Expr (.Call (.Attribute (.Name x px) "append" pa) [a] [] p) pos) (Vb i fa):= .mk λρ=>by
 have e1:(((((backTo p (starEach [a] X.env)).all λx=> !x.fst) && (backToKw p (keywordEach [] X.env)).all λx=>x.fst.isSome) && decide (([a].length+([]:List Keyword).length+if ([]:List Keyword).isEmpty=true then 0 else 1) < 30))=true):=by rw[hs];rfl
 refine PS.imp (uR (YN cK PySem.F.slot_list_append PySem.F.type_list_append WZ hv (zv (ha ρ) zP hs) hb e1 hz hs rfl) hw) λD σ H ⟨B,I,q⟩=> ?_;unfold Vb at q;split at q
 ·rename_i ts e;obtain⟨l,xs,e1,b0,h0,hh,rr,d⟩:=I.ow i ts e;refine⟨.ref l,e1,.inl ⟨rfl,_,SqL.of hh⟩, ?_⟩;refine jY I q λt v H1 _ s1 r1 I1 q1=> ?_;split at q1
  ·rename_i hb;refine⟨l,xs,v,rfl,rfl,s1 _ _ hh,by rw[rr.length];exact GB hb, ?_⟩
   exact q1 _ _ _ (zt.refl _) (I1.chg i e e1 ((rr.mono (zQ.ge I.sB s1)).append (.cons r1 .nil)))
  ·exact q1.elim
 ·exact q.elim
theorem z33 (hv:PE X (.Name x px) (Uz i))(ha:Snd X Y a fa)(hb:attributeBase (.Name x px) "extend" X.env (eval (.Name x px) X.env)=eval (.Name x px) X.env:=by rfl)(hs:St1 X a:=by exact st1 rfl)
  (hz:(pa.endLine == p.line)=true:=by rfl) (hw:swapsWith (.Call (.Attribute (.Name x px) "extend" pa) [a] [] p) none pos.line X.env=pure false:=by rfl):wz X Y (.Expr (.Call (.Attribute (.Name x px) "extend" pa) [a] [] p) pos) (yT i fa):= .mk λρ=>by
 have e1:(((((backTo p (starEach [a] X.env)).all λx=> !x.fst) && (backToKw p (keywordEach [] X.env)).all λx=>x.fst.isSome) && decide (([a].length+([]:List Keyword).length+if ([]:List Keyword).isEmpty=true then 0 else 1) < 30))=true):=by rw[hs];rfl
 refine PS.imp (uR (YN cK PySem.F.slot_list_extend PySem.F.type_list_extend YO hv (zv (ha ρ) zP hs) hb e1 hz hs rfl) hw) λD σ H ⟨B,I,q⟩=> ?_;unfold yT at q;split at q
 ·rename_i ts e;obtain⟨l,xs,e1,b0,h0,hh,rr,d⟩:=I.ow i ts e;refine⟨.ref l,e1,.inl ⟨rfl,_,SqL.of hh⟩, ?_⟩;refine jY I q λt v H1 _ s1 r1 I1 q1=> ?_;cases r1 with
  | @lst b zs us hb r=>
   have q1:PoS Y _ (if ts.length+us.length<=bnd then .nx _ else .bad) D:=q1
   split at q1
   ·rename_i hl;refine⟨l,b,xs,zs,rfl,rfl,s1 _ _ hh,I1.sB _ _ hb,by rw[rr.length,r.length];exact ZM hl, ?_⟩
    exact q1 _ _ _ (zt.refl _) (I1.chg i e e1 ((rr.mono (zQ.ge I.sB s1)).append r))
   ·exact q1.elim
  | _=>exact q1.elim
 ·exact q.elim
end
def spP (cl:Nat->Value)(n:Nat)(g:List T->R T):Sp:=λvs H Q E=>∃B ts,ts.length=n/\zt B H/\zC B vs ts/\Po ⟨B,H,E,cl,[]⟩ rC B H (g ts) Q
theorem spP.len (vs:List V)(H:Hp)(Q:VK)(E:XK)(h:spP cl n g vs H Q E):vs.length=n:=by
 obtain⟨B,ts,hl,_,r,_⟩:=h;rw[r.length,hl]
def za (n:Nat)(g:List T->R T)(ga:En->R (List T)):En->R T:=λρ=>(ga ρ).bind λts=>if ts.length=n then g ts else .bad
section
theorem xJ (F:ww X.prog X.w X.K X.mg X.base CX k f fd ps (spP Y.cl n g))(hr:jq k X.A)(gl:Gl X x)(mg:X.mg x=some (.ref f))
  (kp:bZ X.K (.ref f)=true) (bd:L2.Binds X.K fd ps []) (hx:ZL CX X Y.E) (ha:uN X Y (a :: es) ga) (hd:(x == ("__debug__":Str))=false:=by decide)
  (hs:starEach (a :: es) X.env=(false,eval a X.env) :: starEach es X.env:=by exact zW rfl) (hz:((backTo pos (starEach es X.env)).any λx=>x.fst)=false:=by exact Zq rfl):Snd X Y (.Call (.Name x p) (a :: es) [] pos) (za n g ga):= .mk λρ=>
 PE.imp (uS F hr gl mg kp bd .nil hx (ha ρ) hd hs hz) λσ H Q ⟨B,I,q⟩=>step I q λts vs H1 _ s1 r1 I1 q1=>by
  split at q1
  ·rename_i hn;rw[bJ];refine⟨_,ts,hn,I1.sB,r1, ?_⟩;revert q1;cases g ts with
   | bad=>exact λq1=>q1
   | ex c=>exact λq1 d H' s sB=>q1 d H' (I1.sH.trans s) sB
   | ok t=>exact λq1=>q1
  ·exact q1.elim
end
noncomputable def zf:RS->R T
 | .rt t=> .ok t
 | .rf ts=> .ok (.lst ts)
 | .nx _=> .ok .non
 | .ex c=> .ex c
 | _=> .bad
def en0 (n:Nat)(ts:List T):En:=ts.map Sl.vl++af (n - ts.length) Sl.un
theorem zC.vl {H:Hp}:∀{vs:List V} {ts:List T} {i:Nat} {t:T} {n m:Nat},zC H vs ts->(ts.map Sl.vl++af n Sl.un)[i]? =some (Sl.vl t)->∃v:V,(vs.map some++af m none)[i]? =some (some v)/\Rep H v t
 | _,_,i,t,n,m,.nil,h=>by
  simp only[bO,bP]at h;rw[aF]at h;split at h
  ·cases h
  ·cases h
 | _,_,0,t,n,m,.cons r _,h=>by
  simp at h;subst h;exact⟨_,rfl,r⟩
 | _,_,i+1,t,n,m,.cons _ q,h=>by
  obtain⟨v,h1,h2⟩:=zC.vl q (by simpa using h)
  exact⟨v,by simpa using h1,h2⟩
theorem xK {n:Nat}:∀{ts:List T} {i:Nat} {us:List T},(ts.map Sl.vl++af n Sl.un)[i]? =some (Sl.ow us)->False
 | [],i,us,h=>by
  simp only[bO,bP]at h;rw[aF]at h;split at h
  ·cases h
  ·cases h
 | t :: ts,0,us,h=>by simp at h
 | t :: ts,i+1,us,h=>xK (by simpa using h)
theorem xL {n:Nat}:∀{ts:List T} {i:Nat} {c:Nat},(ts.map Sl.vl++af n Sl.un)[i]? =some (Sl.xc c)->False
 | [],i,us,h=>by
  simp only[bO,bP]at h;rw[aF]at h;split at h
  ·cases h
  ·cases h
 | t :: ts,0,us,h=>by simp at h
 | t :: ts,i+1,us,h=>xL (by simpa using h)
theorem qk {n:Nat}{x:Sl}(h1:∀t,x ≠ .vl t)(h2:x ≠ .un):∀{ts:List T} {i:Nat},(ts.map Sl.vl++af n Sl.un)[i]? =some x->False
 | [],i,h=>by
  simp only[bO,bP]at h;rw[aF]at h;split at h
  ·exact h2 (aL h).symm
  ·cases h
 | t :: ts,0,h=>h1 t (aL (by simpa using h)).symm
 | t :: ts,i+1,h=>qk h1 h2 (by simpa using h)
theorem SI.start {Y:Fx}{N:List Str}{vs:List V}{ts:List T}(s:zt Y.B0 Y.H0)(r:zC Y.B0 vs ts):SI Y Y.B0 (en0 N.length ts) (L2.start N vs) Y.H0 where
 s0:=s
 sH:=zt.refl _
 sB:=s
 old:=λ_ _ _=>rfl
 len:=by unfold en0 L2.start;simp[r.length]
 vl:=λi t h=>r.vl h
 ow:=λi ts h=>(xK h).elim
 xc:=λi c h=>(xL h).elim
 st:=StI.no λi s hs h=>qk (λt z=>by rw[z]at hs;cases hs) (λz=>by rw[z]at hs;cases hs) h
section
variable {P:Program}{w:World}{K:ae}{mg:Str->Option Value}{base:Heap}
theorem z34 {cl:Nat->Value}{x qual:Str}{st:Stmt}{f:Addr}{fd:FuncData}{N ps:List Str}{k n:Nat}{fb:En->RS}{g:List T->R T}(F:Fun K x qual st f fd)(S:ja N ps (zj st))(hn:n=ps.length)
  (hb:∀(cdv:Value) (A:Around) (outer:List Env) (s:Shared) (H:Hp) (E:XK) (Y:Fx),Y.cl=cl->jq k (A.deeper (envOfC qual (zj st) s.heap.objs.size f cdv))->
   wJ (Jw CX0 P w K mg base N qual (zj st) f cdv A outer s H E).nox Y (Z4 st) fb)
  (hg:∀ts,ts.length=n->g ts=zf (fb (en0 N.length ts))):ww P w K mg base CX0 (k+1) f fd ps (spP cl n g):=by
 subst hn;refine F.ok S spP.len λcdv A outer s H vs Q E hr ⟨B,ts,hl,sB,r,q⟩=> ?_;refine⟨_,hb cdv A _ s H E ⟨B,H,E,cl,[]⟩ rfl hr _,B,SI.start sB r, ?_⟩;rw[hg ts hl]at q;revert q;cases fb _ with
 | rt t=>exact λq v H' s r=>q v H' s r
 | rf t=>exact λq a xs H' B' s0 n e r _ l=>q _ H' s0 (.lst (by rw[Z5 n];exact e) (r.mono l))
 | nx ρ=>exact λq σ' H' B' _ I=>q _ H' I.sH .non
 | ex c=>exact λq=>q
 | bk ρ=>exact λq=>q.elim
 | ct ρ=>exact λq=>q.elim
 | bad=>exact λq=>q
end
abbrev rI:Hp->Hp->It->List T->Prop:=λB1 _ J ts=>∀B2 H2,zt B1 B2->zt B2 H2->(∀i,i < ts.length->J.go i H2)/\(∀(i:Nat) t x H3,ts[i]? =some t->J.yld i H2 x H3->zt H2 H3/\Rep (zQ B2 H2 H3) x t)/\(∀i,ts.length<=i->J.stop i H2)
structure uY (X:Cx) (Y:Fx) (tg iter:Expr) (f:En->R (List T)):Prop where
 mk ::
 go:∀ρ,PI X tg iter (tS Y rI f ρ)
instance {X:Cx}{Y:Fx}{tg iter:Expr}{f:En->R (List T)}:CoeFun (uY X Y tg iter f) λ_=>∀ρ,PI X tg iter (tS Y rI f ρ):=⟨uY.go⟩
section
theorem PI.imp (h:PI X tg e t)(i:∀σ H Q,t' σ H Q->t σ H Q):PI X tg e t' :=λpins s σ H Q I q=>h _ s σ H Q I (i σ H Q q)
theorem GC {K:ae}{B1 H1:Hp}{a:Addr}{xs:List V}{ts:List T}(h:B1 a=some (.tup xs))(r:zC B1 xs ts):rI B1 H1 (Itt K a) ts:=λB2 H2 s1 s2=>by
 have h2:=s2 _ _ (s1 _ _ h);refine⟨λi hi=> ?_,λi t x H3 e y=> ?_,λi hi=>⟨xs,SqT.of h2,by rw[r.length];exact hi⟩⟩
 ·obtain⟨v,e,_⟩:=r.get (ah hi);exact⟨xs,v,SqT.of h2,e⟩
 ·obtain⟨rfl,y⟩:=y;obtain⟨v,e1,r1⟩:=r.get e;have:=y xs (SqT.of h2);rw[e1]at this;cases this;refine⟨zt.refl _, ?_⟩;rw[zQ.self B2 _ s2];exact r1.mono s1
theorem GD {K:ae}{B1 H1:Hp}{a:Addr}{xs:List V}{ts:List T}(h:B1 a=some (.lst xs))(r:zC B1 xs ts):rI B1 H1 (Itl K a) ts:=λB2 H2 s1 s2=>by
 have h2:=s2 _ _ (s1 _ _ h);refine⟨λi hi=> ?_,λi t x H3 e y=> ?_,λi hi=>⟨xs,SqL.of h2,by rw[r.length];exact hi⟩⟩
 ·obtain⟨v,e,_⟩:=r.get (ah hi);exact⟨xs,v,SqL.of h2,e⟩
 ·obtain⟨rfl,y⟩:=y;obtain⟨v,e1,r1⟩:=r.get e;have:=y xs (SqL.of h2);rw[e1]at this;cases this;refine⟨zt.refl _, ?_⟩;rw[zQ.self B2 _ s2];exact r1.mono s1
noncomputable def rng (lo:Int)(n:Nat):List T:=(aX n).map λ(i:Nat)=>T.int (lo+(i:Int))
theorem xM {B1 H1:Hp}{lo:Int}{n:Nat}:rI B1 H1 (Itr lo n) (rng lo n):=λB2 H2 s1 s2=>by
 have hl:(rng lo n).length=n:=by unfold rng;simp
 refine⟨λi hi=>by rw[hl]at hi;exact hi,λi t x H3 e y=> ?_,λi hi=>by rw[hl]at hi;exact hi⟩
 obtain⟨rfl,rfl⟩:=y;refine⟨zt.refl _, ?_⟩;unfold rng at e;rw[aA]at e
 by_cases hi:i < n
 ·rw[di hi]at e;cases e;exact .int _
 ·rw[aS (by simp;omega)]at e;cases e
def zX (fa:En->R T):En->R (List T):=λρ=>(fa ρ).bind λt=>match t with
 | .int j=>if -1000000 < j/\j < 1000000 then .ok (rng 0 j.toNat) else .bad
 | _=> .bad
def Jr (fa fb:En->R T):En->R (List T):=λρ=>(fa ρ).bind λt=>(fb ρ).bind λt' =>match t,t' with
 | .int i,.int j=>if -1000000 < i/\i < 1000000/\ -1000000 < j/\j < 1000000 then .ok (rng i (j - i).toNat) else .bad
 | _,_=> .bad
theorem GE (gl:Gl X "range")(mg:X.mg "range"=none)(ha:Snd X Y a fa)(hs:St1 X a:=by exact st1 rfl):uY X Y tg (.Call (.Name "range" p) [a] [] pos) (zX fa):= .mk λρ=>PI.imp (YB gl mg (zv (ha ρ) zP hs) hs) λσ H R ⟨B,I,q⟩=>step I q λt v H1 _ s1 r1 I1 q1=>by
 cases r1 with
 | int j=>
  have q1:Po Y rI _ H1 (if -1000000 < j/\j < 1000000 then .ok _ else .bad) R:=q1
  split at q1
  ·exact⟨j,rfl,by omega,by omega,ZB I1 q1 xM⟩
  ·exact q1.elim
 | _=>exact q1.elim
theorem GF (gl:Gl X "range")(mg:X.mg "range"=none)(ha:Snd X Y a fa)(hb:Snd X Y b fb)(hs:starEach [a,b] X.env=[(false,eval a X.env),(false,eval b X.env)]:=by exact st2 rfl rfl)(hs2:St1 X b:=by exact st1 rfl):uY X Y tg (.Call (.Name "range" p) [a,b] [] pos) (Jr fa fb):= .mk λρ=>
 PI.imp (YC gl mg (zv (ha ρ) (zv (hb ρ) zP hs2) (by rw[hs,hs2])) hs hs2) λσ H R ⟨B,I,q⟩=>step I q λt v H1 _ s1 r1 I1 q1=>step I1 q1 λt' v' H2 _ s2 r2 I2 q2=>by
  cases r1 with
  | int i=>
   cases r2 with
   | int j=>
    have q2:Po Y rI _ H2 (if -1000000 < i/\i < 1000000/\ -1000000 < j/\j < 1000000 then .ok _ else .bad) R:=q2
    split at q2
    ·exact⟨i,j,rfl,⟨by omega,by omega,by omega,by omega⟩,ZB I2 q2 xM⟩
    ·exact q2.elim
   | _=>exact q2.elim
  | _=>cases r2 <;> exact q2.elim
def GG (X:Cx)(Y:Fx)(tg:Expr)(g:T->En->R En):Prop:=∃t:TG,PG X tg t/\∀B ρ σ H v x Q,SI Y B ρ σ H->Rep B v x->(match g x ρ with | .ok ρ' =>∀σ',SI Y B ρ' σ' H->Q σ' H | _=>False)->t v σ H Q
def zq (i:Nat):T->En->R En:=λt ρ=> .ok (ρ.set i (.vl t))
theorem xN (hN:X.N.Nodup)(hi:X.N[i]? =some x)(hx:L2.Loc X.env.scope x)(hf:X.fn x=true\/X.env.scope.names.lookup x=some .local:=by first | exact .inl rfl | exact .inr rfl | assumption):GG X Y (.Name x pos) (zq i):=
 ⟨W5 i,jU hN hi hx hf,λB ρ σ H v x Q I r q=>q _ (I.setV i r)⟩
def Z8 (i j:Nat):T->En->R En:=λt ρ=>match t with
 | .tup [x,y]=> .ok ((ρ.set i (.vl x)).set j (.vl y))
 | _=> .bad
theorem xO (hc:X.calm=true)(hN:X.N.Nodup)(hi:X.N[i]? =some x)(hj:X.N[j]? =some y)(hx:L2.Loc X.env.scope x)(hy:L2.Loc X.env.scope y)
  (hf:X.fn x=true\/X.env.scope.names.lookup x=some .local:=by first | exact .inl rfl | exact .inr rfl | assumption) (hf' :X.fn y=true\/X.env.scope.names.lookup y=some .local:=by first | exact .inl rfl | exact .inr rfl | assumption):
  GG X Y (.Tuple [.Name x pos,.Name y p'] k p2) (Z8 i j):=by
 refine⟨z1s X.K 2 _,xA hc (Jv (jU hN hi hx hf) (Jv (jU hN hj hy hf') Yz)),λB ρ σ H v t Q I r q=> ?_⟩;cases r with
 | @tup l xs ts h r=>
  cases r with
  | nil=>exact q.elim
  | cons r1 rr=>
   cases rr with
   | nil=>exact q.elim
   | cons r2 rr=>
    cases rr with
    | cons _ _=>exact q.elim
    | nil=>
     exact⟨l,_,rfl,SqT.of (I.sB _ _ h),rfl,_,_,rfl,_,_,rfl,rfl,q _ ((I.setV i r1).setV j r2)⟩
 | _=>exact q.elim
def Zn (g:T->En->R En)(fb:En->RS):List T->En->RS
 | [],ρ=> .nx ρ
 | t :: ts,ρ=>match g t ρ with
  | .ok ρ1=>match fb ρ1 with
   | .nx ρ2=>Zn g fb ts ρ2
   | .ct ρ2=>Zn g fb ts ρ2
   | .bk ρ2=> .nx ρ2
   | r=>r
  | .ex c=> .bad
  | .bad=> .bad
def ZK (fi:En->R (List T))(g:T->En->R En)(fb:En->RS):En->RS:=λρ=>(fi ρ).s λts=>Zn g fb ts ρ
theorem GH {g:T->En->R En}(hp:PassesOwn (model X.prog X.w) X.A X.env X.xe)(hc:X.calm=true)(hi:uY X Y tg iter fi)(hg:GG X Y tg g)(hb:wJ X Y sts fb)
  (hs:∀x,foldedSetIterable iter X.env x=pure x:=by intro _;rfl):wz X Y (.For tg iter sts [] pos) (ZK fi g fb):= .mk λρ=>by
 obtain⟨tG,hG,hG'⟩:=hg;refine PS.imp (gN (tb:=λD σ H=>∃ρ',tSS Y fb ρ' D σ H) hp hc (hi ρ) hG (λpins s σ H D I ⟨ρ',q⟩=>hb ρ' _ s σ H D I q) hs) λD σ H ⟨B,I,q⟩=> ?_;refine jY I q λts J H1 _ s1 r1 I1 q1=> ?_;refine⟨λi m σ' H' =>m=ts.length - i/\i<=ts.length/\∃ρ' B',SI Y B' ρ' σ' H' /\zt _ B' /\PoS Y B' (Zn g fb (ts.drop i) ρ') D,⟨ts.length,by simp,br _,ρ,_,I1,zt.refl _,q1⟩, ?_⟩
 rintro i m σ' H' ⟨rfl,hi,ρ',B',I',sB',q'⟩
 obtain⟨hgo,hyld,hstop⟩:=r1 B' H' sB' I'.sB
 by_cases hlt:i < ts.length
 ·refine .inr ⟨hgo i hlt,λσ2 H2=>∃ρ2 B2,SI Y B2 ρ2 σ2 H2/\zt _ B2/\PoS Y B2 _ D,λσ2 H2 ⟨ρ2,B2,I2,s2,q2⟩=>⟨ts.length - (i+1),by omega,rfl,hlt,ρ2,B2,I2,s2,q2⟩,λx H2 y=> ?_⟩
  obtain⟨s2,r2⟩:=hyld i _ x H2 (ah hlt) y;rw[cy hlt]at q';unfold Zn at q';refine hG' _ ρ' σ' H2 x _ _ (I'.grow s2) r2 ?_;cases eg:g _ ρ' with
  | bad=>rw[eg]at q';exact q'
  | ex c=>rw[eg]at q';exact q'
  | ok ρ1=>
   rw[eg]at q';intro σ1 J1;refine⟨ρ1,_,J1, ?_⟩;have q2:=PoS.up (zQ.ge I'.sB s2) q';dsimp only at q2;have s3:=sB'.trans (zQ.ge I'.sB s2);revert q2;cases fb ρ1 with
   | nx ρ2=>exact λq2 σ3 H3 B3 s4 I3=>⟨ρ2,B3,I3,s3.trans s4,PoS.up s4 q2⟩
   | ct ρ2=>exact λq2 σ3 H3 B3 s4 I3=>⟨ρ2,B3,I3,s3.trans s4,PoS.up s4 q2⟩
   | bk ρ2=>exact λq2=>q2
   | rt t=>exact λq2=>q2
   | rf t=>exact λq2=>q2
   | ex c=>exact λq2=>q2
   | bad=>exact λq2=>q2
 ·have e:i=ts.length:=by omega
  subst e;rw[iO]at q';exact .inl ⟨hstop _ (am _),q' σ' H' B' (zt.refl _) I'⟩
def Zy (g:En->R Bool)(fb:En->RS):Nat->En->RS
 | 0,_=> .bad
 | n+1,ρ=>(g ρ).s λk=>if k=true then match fb ρ with
   | .nx ρ2=>Zy g fb n ρ2
   | .ct ρ2=>Zy g fb n ρ2
   | .bk ρ2=> .nx ρ2
   | r=>r
  else .nx ρ
theorem qm (hp:PassesOwn (model X.prog X.w) X.A X.env X.xe)(hc:WK X Y c ga)(hb:wJ X Y sts fb):wz X Y (.While c sts [] pos) (Zy ga fb n):= .mk λρ=>by
 refine PS.imp (vV (tc:=λσ H Q=>∃ρ',tS Y rE ga ρ' σ H Q) (tb:=λD σ H=>∃ρ',tSS Y fb ρ' D σ H) hp (λpins s σ H D I ⟨ρ',q⟩=>hc ρ' _ s σ H D I q) (λpins s σ H D I ⟨ρ',q⟩=>hb ρ' _ s σ H D I q)) λD σ H ⟨B,I,q⟩=> ?_;refine⟨λm σ' H' =>∃ρ' B',SI Y B' ρ' σ' H' /\PoS Y B' (Zy ga fb m ρ') D,⟨n,ρ,B,I,q⟩, ?_⟩
 rintro m σ' H' ⟨ρ',B',I',q'⟩
 cases m with
 | zero=>exact q'.elim
 | succ m=>
  unfold Zy at q';refine⟨ρ',jY I' q' λt v H1 _ s1 r1 I1 q1=> ?_⟩;have r1' :=r1;subst r1';cases v with
  | false=>exact q1 _ _ _ (zt.refl _) I1
  | true=>
   refine⟨λσ2 H2=>∃ρ2 B2,SI Y B2 ρ2 σ2 H2/\PoS Y B2 _ D,λσ2 H2 h=>⟨m,dM m,h⟩,ρ',_,I1, ?_⟩;revert q1;cases fb ρ' with
   | nx ρ2=>exact λq2 σ3 H3 B3 s4 I3=>⟨ρ2,B3,I3,PoS.up s4 q2⟩
   | ct ρ2=>exact λq2 σ3 H3 B3 s4 I3=>⟨ρ2,B3,I3,PoS.up s4 q2⟩
   | bk ρ2=>exact λq2=>q2
   | rt t=>exact λq2=>q2
   | rf t=>exact λq2=>q2
   | ex c=>exact λq2=>q2
   | bad=>exact λq2=>q2
end
theorem JN:∀(ns:List (Str×NameKind)) (acc:List (Str×Addr)),(∀x∈ns,x.2=NameKind.free->∃c,env.cells.lookup x.1=some c)->(∀x c,acc.lookup x=some c->env.cells.lookup x=some c)->
  ∃cl,(forIn ns acc (λ(x:Str×NameKind) (r:List (Str×Addr))=>if (x.2 == NameKind.free)=true then (do let c ← cellOf env x.1;pure (ForInStep.yield ((x.1,c) :: r))) else pure (ForInStep.yield r)):Sem _)=pure cl/\
   (∀x c,cl.lookup x=some c->env.cells.lookup x=some c)/\(∀x c,acc.lookup x=some c->∃c',cl.lookup x=some c')/\(∀x∈ns,x.2=NameKind.free->∃c,cl.lookup x.1=some c)
 | [],acc,_,h=>⟨acc,rfl,h,λx c e=>⟨c,e⟩,λx hx=>by simp at hx⟩
 | (n,k) :: ns,acc,hf,h=>by
  by_cases hk:k=NameKind.free
  ·obtain⟨c,hc⟩:=hf _ a9 hk;have h' :∀x d,((n,c) :: acc).lookup x=some d->env.cells.lookup x=some d:=λx d e=>by
    by_cases hx:x=n
    ·subst hx;have e' :=by simpa[aK] using e
     cases e';exact hc
    ·have e' :=by
      rw[aK,(beq_eq_false_iff_ne.mpr hx)]at e;exact e
     exact h x d e'
   obtain⟨cl,e,h1,h2,h3⟩:=JN ns _ (λx hx=>hf x (a8 _ hx)) h';refine⟨cl, ?_,h1,λx d ed=> ?_,λx hx hxf=> ?_⟩
   ·rw[la];subst hk;have q:cellOf env n=pure c:=by unfold cellOf;rw[hc]
    simp only[beq_self_eq_true,if_true,q];exact e
   ·by_cases hx:x=n
    ·subst hx;exact h2 x c (by simp[aK])
    ·exact h2 x d (by rw[aK,(beq_eq_false_iff_ne.mpr hx)];exact ed)
   ·rcases ak.mp hx with rfl | hx
    ·exact h2 n c (by simp[aK])
    ·exact h3 x hx hxf
  ·obtain⟨cl,e,h1,h2,h3⟩:=JN ns acc (λx hx=>hf x (a8 _ hx)) h;refine⟨cl, ?_,h1,h2,λx hx hxf=> ?_⟩
   ·rw[la];have q:(k == NameKind.free)=false:=by simpa using hk
    simp only[q,aw,if_false];exact e
   ·rcases ak.mp hx with rfl | hx
    ·exact absurd hxf hk
    ·exact h3 x hx hxf
theorem km (hf:∀x∈scope.names,x.2=NameKind.free->∃c,env.cells.lookup x.1=some c):
  ∃cl,closureFor scope env=pure cl/\(∀x c,cl.lookup x=some c->env.cells.lookup x=some c)/\(∀x∈scope.names,x.2=NameKind.free->∃c,cl.lookup x.1=some c):=by
 obtain⟨cl,e,h1,_,h3⟩:=JN _ [] hf (λx c e=>by simp at e)
 refine⟨cl, ?_,h1,h3⟩;unfold closureFor;exact(by simpa using e)
def cxC (X:Cx)(scope:Scope)(N' :List Str)(cl:List (Str×Addr))(C:Addr)(s3:Shared)(H3:Hp)(fp:List Addr)(pins:List (Addr×Obj)):Cx:=
 { X with N:=N',s₀:=s3,H₀:=H3,env:=compEnvC scope cl C X.env,outer:=X.stack,stack:=X.stack,ex:=fp,fn:=λ_=>false,pn:=X.pn++pins,xe:=λ_ _=>False }
structure CSc (X:Cx) (scope:Scope):Prop where
 kind:scope.kind= .function
 nocell:∀x∈scope.names,x.2 ≠ .cell
 loc:∀x∈scope.names,x.2= .local->scope.names.lookup x.1=some .local
 fre:∀x∈scope.names,x.2= .free->X.env.kindOf x.1=some .cell\/X.env.kindOf x.1=some .free
theorem jO (h:(relabel scope env).names.lookup x=some k)(hk:k= .cell\/k= .free)(hn:∀x∈scope.names,x.2 ≠ NameKind.cell):∃y∈scope.names,y.1=x/\y.2= .free:=by
 have go:∀ns:List (Str×NameKind),(∀x∈ns,x.2 ≠ NameKind.cell)->(ns.map λ(n,k)=>if (k == NameKind.free && env.scope.kind == .function && env.kindOf n == some .cell) then (n,NameKind.cell) else (n,k)).lookup x=some k->∃y∈ns,y.1=x/\y.2= .free:=by
  intro ns
  induction ns with
  | nil=>intro _ h;simp at h
  | cons y ns ih=>
   intro hn h;obtain⟨n,k'⟩:=y
   by_cases hx:x=n
   ·subst hx;refine⟨(x,k'),a9,rfl, ?_⟩;rw[av]at h
    by_cases hc:(k' == NameKind.free && env.scope.kind == .function && env.kindOf x == some .cell)=true
    ·rw[ac,ac]at hc;exact eq_of_beq hc.1.1
    ·simp only[if_neg hc,aK,beq_self_eq_true]at h;cases h;rcases hk with rfl | rfl
     ·exact absurd rfl (hn _ a9)
     ·rfl
   ·obtain⟨z,hz,h1,h2⟩:=ih (λz hz=>hn z (a8 _ hz)) (by
     rw[av]at h
     by_cases hc:(k' == NameKind.free && env.scope.kind == .function && env.kindOf n == some .cell)=true
     ·simp only[if_pos hc,aK,(beq_eq_false_iff_ne.mpr hx)]at h;exact h
     ·simp only[if_neg hc,aK,(beq_eq_false_iff_ne.mpr hx)]at h;exact h)
    exact⟨z,a8 _ hz,h1,h2⟩
 exact go _ hn h
section
theorem qo (I:L2.Inv X pins σ H s)(S:CSc X scope)(hc:X.calm=true)
  (hcl:∀x c,cl.lookup x=some c->X.env.cells.lookup x=some c) (hcf:∀x∈scope.names,x.2=NameKind.free->∃c,cl.lookup x.1=some c)
  (hfp:∀b∈fp,WQ X pins H b) (hfo:∀b∈fp,∃o,s.heap.get? b=some o)
  (hns:h'.Ns s.heap.objs.size (λ_=>none)) (hk:∀b o,s.heap.get? b=some o->h'.get? b=some o)
  (hl:σ'.length=N'.length) (hσ:∀(i:Nat) (x:Str) (v:V),N'[i]? =some x->σ'[i]? =some (some v)->∃j:Nat,X.N[j]? =some x/\σ[j]? =some (some v)/\Vis X.env.scope x/\(scope.names.lookup x=some .free)/\(X.env.kindOf x=some .cell\/X.env.kindOf x=some .free)):
  L2.Inv (cxC X scope N' cl s.heap.objs.size s H fp pins) [] σ' H { s with heap:=h',toks:=tk }:=by
 have stk:=I.stkSub;have hlt:=λb hb=>let ⟨o,e⟩:=hfo b hb;aq e;have fresh:=I.hok.fresh (am _);refine⟨⟨I.ok.mod,S.kind,I.ok.glob,I.ok.blt,am _,λx y c h1 h2=>I.ok.inj x y c (hcl _ _ h1) (hcl _ _ h2),λx hx=> ?_,λx c h _=>(ay h).elim,λ_=>I.ok.hd hc,I.ok.frames,.inl rfl,λb hb=> ?_,I.bs,
   ao I.ok.bsz I.sz,λb o e hb=> ?_,λb hb hb' => ?_,I.stack,I.stkFree⟩,rfl,I.bare,Un.kept hk,⟨_,hns,λi x v h1 h2 h3=> ?_⟩,λx c e=> ?_,fresh,λx c e=>I.freeC x c (hcl _ _ e),λp hp=> ?_,I.hok.kept hk,hl⟩
 ·have hx' :=hx;obtain⟨y,hy,rfl,hyf⟩:∃y∈scope.names,y.1=x/\y.2= .free:=by
   rcases hx' with h | h
   ·exact jO h (.inl rfl) S.nocell
   ·exact jO h (.inr rfl) S.nocell
  exact hcf y hy hyf
 ·refine⟨aC (hlt b hb),λx c e=>(hfp b hb).2.2.2.2.1 x c (hcl _ _ e)⟩
 ·rcases(hfp b hb).2.2.2.1 with h | h
  ·exact I.ok.noex b o e h
  ·exact absurd (aI (aq e) (ao I.ok.bsz h)) (bH _)
 ·have q:=hfp b hb;rcases ak.mp (stk b hb') with z | z
  ·exact q.2.1 z
  ·exact q.2.2.1 z
 ·obtain⟨j,e1,e2,e3,e4,e5⟩:=hσ i x v h1 h2;obtain⟨m,hn,hloc⟩:=I.loc;obtain⟨u,ru,lk⟩:=hloc j x v e1 e2 e3;refine⟨u,ru,.inr ⟨?_, ?_⟩⟩
  ·rcases h3 with h | h | h
   ·exfalso;have:∀ns:List _,ns.lookup x=some .free->(ns.map λ(n,k)=>if (k == NameKind.free && X.env.scope.kind == .function && X.env.kindOf n == some .cell) then (n,NameKind.cell) else (n,k)).lookup x ≠ some .local:=by
     intro ns
     induction ns with
     | nil=>intro z;simp at z
     | cons y ns ih=>
      obtain⟨n,k⟩:=y;intro z w;rw[av]at w
      by_cases hx:x=n
      ·subst hx;have hkf:=by simpa[aK] using z
       by_cases hcn:(k == NameKind.free && X.env.scope.kind == .function && X.env.kindOf x == some .cell)=true
       ·simp only[if_pos hcn,aK,beq_self_eq_true]at w;cases w
       ·simp only[if_neg hcn,aK,beq_self_eq_true]at w;rw[hkf]at w;cases w
      ·have z' :=by rw[aK,(beq_eq_false_iff_ne.mpr hx)]at z;exact z
       refine ih z' ?_
       by_cases hcn:(k == NameKind.free && X.env.scope.kind == .function && X.env.kindOf n == some .cell)=true
       ·simp only[if_pos hcn,aK,(beq_eq_false_iff_ne.mpr hx)]at w;exact w
       ·simp only[if_neg hcn,aK,(beq_eq_false_iff_ne.mpr hx)]at w;exact w
    exact this _ e4 h
   ·exact .inl h
   ·exact .inr h
  ·rcases lk with ⟨hk',_⟩ | ⟨_,c,hc',hcell⟩
   ·rcases e5 with z | z <;> (rw[z]at hk';cases hk')
   ·obtain⟨c',hc2⟩:=hcf _ (cb e4) rfl;have:=hcl x c' hc2;rw[hc']at this;cases this;obtain⟨o,eo,ed⟩:=hcell;exact⟨c,hc2,o,hk _ _ eo,ed⟩
 ·obtain⟨v,o,eo,ed⟩:=I.cell x c (hcl _ _ e);exact⟨v,o,hk _ _ eo,ed⟩
 ·have hp' :=by
   have:=hp;rwa[bJ]at this
  obtain⟨e,n,ne,nf,dc⟩:=I.pin p hp';refine⟨hk _ _ e,n,aC (aq e),λhb=> ?_,dc⟩;rcases ak.mp (stk _ hb) with z | z
  ·exact ne z
  ·exact nf z
end
def PIf (X:Cx)(ifs:List Expr)(t:TT):Prop:=
 ∀(pins:List (Addr×Obj)) (s:Shared) (σ:Sg) (H:Hp) (Q:Bool->Hp->Prop),L2.Inv X pins σ H s->t σ H Q->
  wpAny (model X.prog X.w) X.A (forIn ifs true λc r=>if r=true then do let ok ← isTrue c X.env (eval c X.env);pure (ForInStep.yield ok) else pure (ForInStep.yield r)) (TP X pins σ Q) X.xe s
theorem kn:PIf X [] (λ_ H Q=>Q true H):=λ_ _ σ H _ I h=>wpAny_tests_nil ⟨H,I,h⟩
theorem ko (h:PT X c t):PIf X [c] t:=λpins s σ H Q I q=>wpAny_tests_one (h _ s σ H Q I q)
noncomputable abbrev XE (X:Cx)(xe:Value->Shared->Prop):Cx:={ X with xe:=xe }
theorem UJ (I:L2.Inv X pins σ H s):L2.Inv (XE X xe) pins σ H s:=
 ⟨⟨I.ok.mod,I.ok.kind,I.ok.glob,I.ok.blt,I.ok.above,I.ok.inj,I.ok.has,I.ok.cab,I.ok.hd,I.ok.frames,I.ok.stk,I.ok.exf,I.ok.bs,I.ok.bsz,I.ok.noex,I.ok.exfs,I.ok.funs,I.ok.frf⟩,I.os,I.bare,I.base,I.loc,I.cell,I.free,I.freeC,I.pin,I.hok,I.len⟩
theorem qp (I:L2.Inv (XE X xe) pins σ H s):L2.Inv X pins σ H s:=(UJ I:L2.Inv _ _ σ H s)
theorem z35 (hx:X.xe=λ_ _=>False)(h:PG X e t):PG (XE X xe) e t:=λpins s σ H v u Q I r q=>c7 (h _ s σ H v u Q (qp I) r q) (λ_ s' ⟨σ',H',I',q'⟩=>⟨σ',H',UJ I',q'⟩) λe s' z=>by rw[hx]at z;exact z.elim
theorem GI (hx:X.xe=λ_ _=>False)(h:PIf X e t):PIf (XE X xe) e t:=λpins s σ H Q I q=>c7 (h _ s σ H Q (qp I) q) (λ_ s' ⟨H',I',q'⟩=>⟨H',UJ I',q'⟩) λe s' z=>by rw[hx]at z;exact z.elim
theorem UK {α:Type}{m:Sem α}{Q:α->Shared->Prop}(hE:∀e s',E' e s' ->E e s')(h:wpAny M A m Q E' s):wpAny M A m Q E s:=c7 h (λ_ _ q=>q) hE
def Vc (J:It)(D:Addr)(g:TG)(tt:TT)(te:TE)(fin:Sg->Hp->Prop)(W:Nat->Nat->List V->Sg->Hp->Prop):Prop:=
 ∀i m ys σ H,W i m ys σ H->H D=some (.lst ys)/\((J.stop i H/\fin σ H)\/(J.go i H/\∀x H2,J.yld i H x H2->g x σ H2 λσ3 H3=>tt σ3 H3 λk H4=>
  if k=true then te σ3 H4 λv H5=>H5 D=some (.lst ys)/\ys.length < sizeLine/\∃m',m' < m/\W (i+1) m' (ys++[v]) σ3 (upd H5 D (.lst (ys++[v]))) else ∃m',m' < m/\W (i+1) m' ys σ3 H4))
theorem qr {X:Cx}{R:Result->Shared->Prop}(hx:∀e s',X.xe e s' ->notedBy (model X.prog X.w) X.A X.env (λe s' =>R (.error e) s') e s')(hc:X.calm=true){tg iter elt:Expr}{ifs:List Expr}{scope:Scope}{pos:Pos}{J:It}{fp:List Addr}{it:Addr}{tn:Nat->Heap->Prop}(TJ:Yl X.prog X.w X.K tg J fp it tn)
  {g:TG} {tt:TT} {te:TE} (hg:PG X tg g) (ht:PIf X ifs tt) (he:PE X elt te) {D:Addr} {fin:Sg->Hp->Prop} (W:Nat->Nat->List V->Sg->Hp->Prop) (turn:Vc J D g tt te fin W)
  (hR:∀s σ H,L2.Inv X [] σ H s->fin σ H->R (.ok .next) s) {m0:Nat} {σ0:Sg} {H0:Hp} {s0:Shared} (w0:W 0 m0 [] σ0 H0) (I0:L2.Inv X [] σ0 H0 s0) (t0:tn 0 s0.heap) (f0:∀b∈fp,WQ X [] H0 b):
  codeAny (model X.prog X.w) X.A (.compLoop (.ListComp elt [⟨tg,iter,ifs,0⟩] scope pos) 0 (.ref it) (.ref D) X.env) R s0:=by
 have stat:∀{H' :Hp},(∀b∈fp,H' b=none)->∀b∈fp,WQ X [] H' b:=λhn b hb=>⟨hn b hb,(f0 b hb).2⟩;refine codeAny_loop rfl (λn s' =>∃i ys σ' H',L2.Inv X [] σ' H' s' /\tn i s'.heap/\(∀b∈fp,H' b=none)/\W i n ys σ' H') (λn s3 h3=> ?_) m0 ⟨0,[],σ0,H0,I0,t0,λb hb=>(f0 b hb).1,w0⟩;obtain⟨i,ys,σ3,H3,I3,st3,fr3,w3⟩:=h3;show wpAny _ X.A ((compTurn _ 0 _ _ _).onRaise (λx=>do noteFrame x _;theTreesLotGoes x)) _ _ s3
 refine wpAny_noted ?_;obtain⟨hD,h⟩:=turn i n ys σ3 H3 w3;rcases h with ⟨stop,qn⟩ | ⟨go,next⟩
 ·refine a7 (wpAny_standAt (a7 (thn (TJ.done X rfl rfl rfl hc i [] s3 σ3 H3 _ I3 (stat fr3) st3 stop) λr s4 ⟨hr,I4⟩=> ?_)));subst hr;exact ar (hR s4 σ3 H3 I4 qn)
 ·refine a7 (wpAny_standAt (a7 (thn (TJ.item X rfl rfl rfl hc i [] s3 σ3 H3 _ I3 (stat fr3) st3 go) λr s4 ⟨u,hr,h4⟩=> ?_)));subst hr;refine a7 (thn h4 λ_ s5 ⟨x,H5,I5,r5,y5,st5,fr5⟩=> ?_);have I5' :=I5.pinned (stat fr5) (TJ.obj _ _ st5);refine a7 (UK hx (thn (hg _ s5 σ3 H5 x u _ I5' r5 (next x H5 y5)) λ_ s6 ⟨σ6,H6,I6,q6⟩=> ?_));have again:∀{σ7:Sg} {H7:Hp} {s7:Shared} {ys' :List V},L2.Inv X _ σ7 H7 s7->(∃m',m' < n/\W (i+1) m' ys' σ7 H7)->∃m,m < n/\∃i ys σ' H',L2.Inv X [] σ' H' s7/\tn i _/\(∀b∈fp,H' b=none)/\W i m ys σ' H' :=λ{σ7 H7 s7 ys'} I7 ⟨m',hm,w7⟩=>by
   refine⟨m',hm,i+1,ys',σ7,H7,I7.unpinned,TJ.keep _ _ _ st5 λb hb o e=>(I7.pin _ (bc _ (bc _ (jp hb e)))).1,λb hb=> ?_,w7⟩;obtain⟨o,e,d⟩:=TJ.obj _ _ st5 b hb;exact(I7.pin _ (bc _ (bc _ (jp hb e)))).2.1
  refine a7 (UK hx (thn (ht _ s6 σ6 H6 _ I6 q6) λk s7 ⟨H7,I7,q7⟩=> ?_));cases k with
  | false=>exact ar ⟨rfl,again I7 q7⟩
  | true=>
   refine a7 (a7 (UK hx (thn (he _ s7 σ6 H7 _ I7 q7) λv s8 ⟨y,H8,I8,r8,hD8,hlen,q8⟩=> ?_)));refine a7 (UK hx (thn (WZ _ s8 σ6 H8 (.ref D) [y] _ [v] (λ_ H9=>∃m',m' < n/\W _ m' _ σ6 H9) I8 rfl (.cons r8 .nil) ⟨D,ys,y,rfl,rfl,hD8,hlen,q8⟩) λw s9 ⟨_,H9,I9,_,q9⟩=> ?_));exact ar (ar ⟨rfl,again I9 q9⟩)
def Yo (k:Nat)(js:List Nat)(σ:Sg):Sg:=af k none++js.map λj=>(σ[j]?).getD none
section
abbrev xP (X:Cx)(scope:Scope)(N' :List Str)(P:Cx->Prop):Prop:=∀cl C s3 H3 fp pins,P (cxC X scope N' cl C s3 H3 fp pins)
abbrev GJ (X:Cx)(scope:Scope)(N' :List Str)(E:XK)(P:Cx->Prop):Prop:=∀cl C s3 H3 fp pins xe,ZL (CX1 X.prog X.w) (XE (cxC X scope N' cl C s3 H3 fp pins) xe) E->P (XE (cxC X scope N' cl C s3 H3 fp pins) xe)
structure z36 (X:Cx) (scope:Scope) (N' :List Str) (k:Nat) (js:List Nat):Prop where
 len:N'.length=k+js.length
 cap:∀(i j:Nat),js[i]? =some j->∃x,N'[k+i]? =some x/\X.N[j]? =some x/\Vis X.env.scope x/\scope.names.lookup x=some .free/\(X.env.kindOf x=some .cell\/X.env.kindOf x=some .free)
theorem Wb (hp:Gc X E){js:List Nat}{use:Option (Value->Sem Unit)}(S:CSc X scope)(CP:z36 X scope N' k js)(hc:X.calm=true)
  (hi:PI X tg iter wi) (hg:xP X scope N' λXC=>PG XC tg g) (ht:xP X scope N' λXC=>PIf XC ifs tt) (he:GJ X scope N' E λXC=>PE XC elt te) {pins:List (Addr×Obj)} {σ:Sg} {H:Hp} {s:Shared} {Q:Value->Shared->Prop} {F:Addr->Hp->Prop} (I:L2.Inv X pins σ H s)
  (h:wi σ H λJ H1=>∀D,H1 D=none->∃W,(∃m,W 0 m [] (Yo k js σ) (upd H1 D (.lst [])))/\Vc J D g tt te (λ_ H' =>F D H') W)
  (hQ:∀D C H' s',L2.Inv X pins σ H' s' ->F D H' ->H' C=none->(X.s₀.heap.objs.size<=C)->C ≠ X.env.locals->(∀x c,X.env.cells.lookup x=some c->c ≠ C)->(∀p∈X.pn++pins,p.1 ≠ C)->(∃m,s'.heap.Ns C m)->compPost (model X.prog X.w) X.A X.xe use Q (.ref D) C (.ok .next) s')
  (hs:∀x,foldedSetIterable iter X.env x=pure x:=by intro _;rfl):
  wpAny (model X.prog X.w) X.A (comprehension (.ListComp elt [⟨tg,iter,ifs,0⟩] scope pos) scope X.env pos' (newList []) false (eval iter X.env) use) Q X.xe s:=by
 obtain⟨cl,ecl,hcl,hcf⟩:=km (scope:=scope) (env:=X.env) λx hx hf=>I.ok.has x.1 (S.fre x hx hf);refine wpAny_comprehension_free rfl hs ecl S.kind S.loc ?_;refine thn (hi pins s σ H _ I h) λv s1 h1=>thn h1 λitv s2 h2=> ?_;obtain⟨it,fp,tn,J,H2,e,I2,TJ,st2,f2,q2⟩:=h2;subst e;refine bv ?_;have hD:=I2.hok.fresh (am _);have I3:L2.Inv X pins σ (upd H2 s2.heap.objs.size (.lst [])) { s2 with heap:=s2.heap.push { cls:= .type "list",data:= .seq _ } }:=
  I2.laid (t' :=s2.toks) (λb u e=>ag _ e) (am _) ⟨br _,[],_,.nil,aj _ rfl⟩
 obtain⟨W,⟨m0,w0⟩,turn⟩:=q2 s2.heap.objs.size hD;have f3:∀b∈fp,WQ X pins (upd H2 s2.heap.objs.size (.lst [])) b:=λb hb=>by
  obtain⟨o,eo,_⟩:=TJ.obj _ _ st2 b hb;exact⟨by rw[zk (aC (aq eo))];exact(f2 b hb).1,(f2 b hb).2⟩
 have o3:∀b∈fp,∃o,(s2.heap.push { cls:= .type "list",data:= .seq ([]:List Value).toArray }).get? b=some o:=λb hb=>by
  obtain⟨o,eo,_⟩:=TJ.obj _ _ st2 b hb;exact⟨o,ag _ eo⟩
 refine wpAny_newFunctionEnv S.nocell (by intro y hy;simp at hy) (λh4 hns4 hsb4=> ?_) S.kind
 generalize hG:s2.heap.push _=G3 at I3 o3 hns4 hsb4 ⊢;have s3e:∃s3:Shared,s3={ s2 with heap:=G3 }:=⟨_,rfl⟩;obtain⟨s3,es3⟩:=s3e;have hh3:s3.heap=s2.heap.push { cls:= .type "list",data:= .seq ([]:List Value).toArray }:=by rw[es3,hG]
 have hg3:G3=s3.heap:=by rw[es3]
 rw[← es3]at I3;rw[hg3]at hns4 hsb4 o3;have k4:=λb o e=>hsb4.extBut b o (aC (aq e)) (ag _ e);have IC:=qo (N' :=N') (cl:=cl) (fp:=fp) (σ' :=Yo k js σ) (tk:=s3.toks+([]:List (Str×Value)).length) I3 S hc hcl hcf f3 o3 hns4 k4 (by unfold Yo;simp[CP.len]) (λi x v h1 h2=>by
  unfold Yo at h2
  by_cases hik:i < k
  ·rw[aR (by simpa using hik),aF,if_pos hik]at h2
   cases h2
  ·have hk' :k<=i:=by omega
   rw[aO (by simpa using hk'),aN,aA]at h2
   cases ej:js[i - k]? with
   | none=>rw[ej]at h2;cases h2
   | some j=>
    rw[ej]at h2;obtain⟨y,e1,e2,e3,e4,e5⟩:=CP.cap (i - k) j ej;have:k+(i - k)=i:=by omega
    rw[this,h1]at e1;cases e1;refine⟨j,e2, ?_,e3,e4,e5⟩;have h2' :some ((σ[j]?).getD none)=some (some v):=h2;cases ez:σ[j]? with
    | none=>rw[ez]at h2';cases h2'
    | some z=>rw[ez]at h2';exact congrArg some (aL h2'))
 have TC:Yl _ _ _ tg J fp it tn:=TJ;have t4:tn 0 h4:=TJ.keep _ _ _ st2 λb hb o e=>k4 b o (by rw[hh3];exact ag _ e)
 have fC:∀b∈fp,WQ (cxC X scope N' cl s3.heap.objs.size s3 (upd H2 s2.heap.objs.size (.lst [])) fp pins) [] _ b:=λb hb=>by
  obtain⟨q0,q1,q2,q3,q4,q5⟩:=f3 b hb;obtain⟨o,eo⟩:=o3 b hb;refine⟨q0,aC (aq eo),λhb' => ?_,.inl hb,λx c e=>q4 x c (hcl _ _ e),λp hp=> ?_⟩
  ·rcases ak.mp (I3.stkSub b hb') with z | z
   ·exact q1 z
   ·exact q2 z
  ·exact q5 p (by
    have:=hp;rwa[bJ]at this)
 have fin:∀(s5:Shared) (σ5:Sg) (H5:Hp),L2.Inv (cxC X scope N' cl s3.heap.objs.size s3 (upd H2 s2.heap.objs.size (.lst [])) fp pins) [] σ5 H5 s5->F s2.heap.objs.size H5->compPost (model X.prog X.w) X.A X.xe use Q _ s3.heap.objs.size (.ok .next) s5:=λs5 σ5 H5 I5 q5=>by
  have J5:=I3.call' (ch:=fp) I5.os I5.base I5.hok I5.bare λb hb=>by
   obtain⟨q0,q1,q2,q3,q4,q5⟩:=f3 b hb;exact⟨q3,q1,q4,q5⟩
  refine hQ _ _ H5 s5 J5 q5 I5.free I3.sz (dU I3.lt) (λx c e z=> ?_) (λp hp z=> ?_) (let ⟨m,hm,_⟩:=I5.loc;⟨m,hm⟩)
  ·obtain⟨v',o,eo,_⟩:=I3.cell x c e;exact absurd (aq eo) (by rw[z];exact bH _)
  ·exact absurd (aq (I3.pin p hp).1) (by rw[z];exact bH _)
 have pass:ZL (CX1 X.prog X.w) (XE (cxC X scope N' cl s3.heap.objs.size s3 (upd H2 s2.heap.objs.size (.lst [])) fp pins) (notedBy (model X.prog X.w) X.A (compEnvC scope cl s3.heap.objs.size X.env) λe s' =>compPost (model X.prog X.w) X.A X.xe use Q (.ref s2.heap.objs.size) s3.heap.objs.size (.error e) s')) E:=by
  intro pins1 σ1 H1 s1 e s' I1 c1;have J1:=I3.call' I1.os I1.base I1.hok I1.bare λb hb=>by
   obtain⟨q0,q1,q2,q3,q4,q5⟩:=f3 b hb;exact⟨q3,q1,q4,q5⟩
  obtain⟨m1,hm1,_⟩:=I1.loc;refine thn (hp pins σ H1 s1 e s' _ m1 _ _ J1 hm1 I1.free I3.sz (λz=> ?_) rfl c1) λ_ s'' q=> ?_
  ·obtain⟨_,o,eo,_⟩:=I3.stack.mem z;exact absurd (aq eo) (bH _)
  ·cases use <;> exact q
 have loop:=qr (X:=XE (cxC X scope N' cl _ s3 _ fp _) (notedBy _ X.A _ λe s' =>compPost _ X.A _ use Q _ _ _ s')) (iter:=iter) (scope:=scope) (pos:=pos) (λ_ _ z=>z) hc TC (z35 rfl (hg _ _ _ _ _ _)) (GI rfl (ht _ _ _ _ _ _)) (he _ _ _ _ _ _ _ pass) W turn (λs5 σ5 H5 I5=>fin s5 σ5 H5 (qp I5)) w0 (UJ IC) t4 fC;rw[es3]at loop;exact codeAny_compStart_list loop (TJ.self _ _ _ _ _ t4 loop)
end
def zJ (g:T->En->R En)(ft:En->R Bool)(fe:En->R T):List T->En->R (List T)
 | [],_=> .ok []
 | t :: ts,ρ=>(g t ρ).bind λρ1=>(ft ρ1).bind λk=>if k=true then (fe ρ1).bind λv=>(zJ g ft fe ts ρ1).bind λvs=> .ok (v :: vs) else zJ g ft fe ts ρ1
noncomputable def uZ:Option Sl->Sl
 | some (.vl t)=> .vl t
 | some (.ob k _)=> .oc k []
 | some (.oc k fs)=> .oc k fs
 | _=> .un
def JO (k:Nat)(js:List Nat)(ρ:En):En:=af k .un++js.map λj=>uZ ρ[j]?
noncomputable def quiet {α:Type}:R α->R α
 | .ok a=> .ok a
 | _=> .bad
def zo (g:T->En->R En)(ft:En->R Bool)(fe:En->R T)(k:Nat)(js:List Nat)(ρ:En)(ts:List T):R (List T):=if ts.length<=bnd then quiet (zJ g ft fe ts (JO k js ρ)) else .bad
def zz (fi:En->R (List T))(g:T->En->R En)(ft:En->R Bool)(fe:En->R T)(k:Nat)(js:List Nat):En->R T:=λρ=>(fi ρ).bind λts=>(zo g ft fe k js ρ ts).bind λvs=> .ok (.lst vs)
def GOk (tG:TG)(g:T->En->R En):Prop:=∀Y B ρ σ H v x Q,SI Y B ρ σ H->Rep B v x->(match g x ρ with | .ok ρ' =>∀σ',SI Y B ρ' σ' H->Q σ' H | _=>False)->tG v σ H Q
theorem Vd (i:Nat):GOk (W5 i) (zq i):=λY B ρ σ H v x Q I r q=>q _ (I.setV i r)
theorem Ve (K:ae)(i j:Nat):GOk (z1s K 2 (Yy (W5 i) (Yy (W5 j) z2j))) (Z8 i j):=λY B ρ σ H v t Q I r q=>by
 cases r with
 | @tup l xs ts h r=>
  cases r with
  | nil=>exact q.elim
  | cons r1 rr=>
   cases rr with
   | nil=>exact q.elim
   | cons r2 rr=>
    cases rr with
    | cons _ _=>exact q.elim
    | nil=>exact⟨l,_,rfl,SqT.of (I.sB _ _ h),rfl,_,_,rfl,_,_,rfl,rfl,q _ ((I.setV i r1).setV j r2)⟩
 | _=>exact q.elim
theorem SI.blockS (I:SI Y B ρ σ H)(k:Nat)(js:List Nat)(E:XK)(s:zt H H'):SI ⟨B,H,E,Y.cl,[]⟩ B (JO k js ρ) (Yo k js σ) H' where
 s0:=I.sB
 sH:=s
 sB:=I.sB.trans s
 old:=λ_ _ _=>rfl
 len:=by unfold JO Yo;simp
 vl:=λi t h=>by
  unfold JO at h;unfold Yo
  by_cases hik:i < k
  ·rw[aR (by simpa using hik),aF,if_pos hik]at h;cases h
  ·have hk' :k<=i:=by omega
   rw[aO (by simpa using hk'),aN,aA]at h ⊢
   cases ej:js[i - k]? with
   | none=>rw[ej]at h;cases h
   | some j=>
    rw[ej]at h;have h' :uZ ρ[j]? = .vl t:=aL h;unfold uZ at h';split at h'
    ·rename_i u e;cases h';obtain⟨v,e1,r⟩:=I.vl j _ e;exact⟨v,by show some ((σ[j]?).getD none)=_;rw[e1];rfl,r⟩
    all_goals cases h'
 ow:=λi ts h=>by
  exfalso;unfold JO at h
  by_cases hik:i < k
  ·rw[aR (by simpa using hik),aF,if_pos hik]at h;cases h
  ·have hk' :k<=i:=by omega
   rw[aO (by simpa using hk'),aN,aA]at h
   cases ej:js[i - k]? with
   | none=>rw[ej]at h;cases h
   | some j=>
    rw[ej]at h;have h' :uZ ρ[j]? = .ow ts:=aL h;unfold uZ at h';split at h' <;> cases h'
 xc:=λi c h=>by
  exfalso;unfold JO at h
  by_cases hik:i < k
  ·rw[aR (by simpa using hik),aF,if_pos hik]at h;cases h
  ·have hk' :k<=i:=by omega
   rw[aO (by simpa using hk'),aN,aA]at h
   cases ej:js[i - k]? with
   | none=>rw[ej]at h;cases h
   | some j=>
    rw[ej]at h;have h' :uZ ρ[j]? = .xc c:=aL h;unfold uZ at h';split at h' <;> cases h'
 st:=by
  have get:∀(i:Nat) (x:Sl),x.isO=true->(JO k js ρ)[i]? =some x->∃j,js[i - k]? =some j/\k<=i/\uZ ρ[j]? =x:=λi x hx h=>by
   unfold JO at h
   by_cases hik:i < k
   ·rw[aR (by simpa using hik),aF,if_pos hik]at h
    cases h;cases hx
   ·have hk' :k<=i:=by omega
    rw[aO (by simpa using hk'),aN,aA]at h
    cases ej:js[i - k]? with
    | none=>rw[ej]at h;cases h
    | some j=>
     rw[ej]at h;exact⟨j,rfl,hk',aL h⟩
  refine⟨[],λ_=>none,eY _,λi os h=> ?_,λi _ os _ h=> ?_,λi k' n h=> ?_,λi k' fs h=> ?_,λi os h=> ?_⟩
  ·obtain⟨j,_,_,e⟩:=get i _ rfl h;unfold uZ at e;split at e <;> cases e
  ·obtain⟨j,_,_,e⟩:=get i _ rfl h;unfold uZ at e;split at e <;> cases e
  ·obtain⟨j,_,_,e⟩:=get i _ rfl h;unfold uZ at e;split at e <;> cases e
  ·obtain⟨j,ej,hk',e⟩:=get i _ rfl h;have sg:(Yo k js σ)[i]? =some ((σ[j]?).getD none):=by
    unfold Yo;rw[aO (by simpa using hk'),aN,aA,ej];rfl
   obtain⟨as,O,x⟩:=I.st;unfold uZ at e;split at e
   ·cases e
   ·rename_i k2 n2 e2;cases e;obtain⟨a,C,dx,vs,_,e3,e4,e5,_,_,e6⟩:=x.ob j _ _ e2;exact⟨a,C,dx,vs,by rw[sg,e3];rfl,e4,e5,e6,λm f d z=>by cases z⟩
   ·rename_i k2 fs2 e2;cases e;obtain⟨a,C,dx,vs,e3,e4,e5,e6,e7⟩:=x.oc j _ _ e2;exact⟨a,C,dx,vs,by rw[sg,e3];rfl,e4,I.sH _ _ e5,e6,e7.mono (zt.refl _) I.sH⟩
   ·cases e
  ·obtain⟨j,_,_,e⟩:=get i _ rfl h;unfold uZ at e;split at e <;> cases e
theorem SI.block {Y:Fx}{B:Hp}{ρ:En}{σ:Sg}{H H3:Hp}{D:Addr}(I:SI Y B ρ σ H)(k:Nat)(js:List Nat)(E:XK)(hD:H D=none)(o:HO):SI ⟨B,H,E,Y.cl,[]⟩ B (JO k js ρ) (Yo k js σ) (upd H D o):=I.blockS k js E (zt.new hD _)
theorem SI.acc {Y:Fx}{B:Hp}{ρ:En}{σ:Sg}{H:Hp}{D:Addr}(I:SI Y B ρ σ H)(hb:B D=none)(h0:Y.H0 D=none)(ho:∀(i:Nat) (ts:List T),ρ[i]? =some (Sl.ow ts)->σ[i]? ≠ some (some (V.ref D)))(hso:∀(i:Nat) (x:Sl),ρ[i]? =some x->Sl.isS x=true->False)(o:HO):SI Y B ρ σ (upd H D o) where
 s0:=I.s0
 sH:=λb u h=>by
  rw[zk (λz=>by subst z;rw[h0]at h;cases h)];exact I.sH b u h
 sB:=λb u h=>by
  rw[zk (λz=>by subst z;rw[hb]at h;cases h)];exact I.sB b u h
 old:=I.old
 len:=I.len
 vl:=I.vl
 ow:=λi ts h=>by
  obtain⟨a,xs,e,b0,h0',hh,r,d⟩:=I.ow i ts h;refine⟨a,xs,e,b0,h0', ?_,r,d⟩;rw[zk (λz=>ho i ts h (by rw[e,z]))];exact hh
 xc:=I.xc
 st:=let ⟨as,O,x⟩:=I.st;⟨as,O,x.pre,λi os h=>hso i _ h rfl |>.elim,λi j os os' h=>hso i _ h rfl |>.elim,λi k n h=>hso i _ h rfl |>.elim,x.oc,λi os h=>hso i _ h rfl |>.elim⟩
def gm (ρ:En):Prop:=∀(i:Nat) (x:Sl),ρ[i]? =some x->(∀ts,x ≠ Sl.ow ts)/\(x.isS=true->False)
theorem Vf (k:Nat)(js:List Nat)(ρ:En):gm (JO k js ρ):=λi x h=>by
 unfold JO at h
 by_cases hik:i < k
 ·rw[aR (by simpa using hik),aF,if_pos hik]at h
  cases h;exact⟨λ_=>Sl.noConfusion,ay⟩
 ·have hk' :=by omega
  rw[aO (by simpa using hk'),aN,aA]at h
  cases ej:js[i - k]? with
  | none=>rw[ej]at h;cases h
  | some j=>
   rw[ej]at h;have h' :uZ _=x:=aL h;unfold uZ at h';split at h' <;> (subst h';exact⟨λ_=>Sl.noConfusion,ay⟩)
theorem Wc {ρ:En}{i:Nat}{t:T}(h:gm ρ):gm (ρ.set i (.vl t)):=λj x e=>by
 rcases zy e with ⟨_,z⟩ | ⟨_,z⟩
 ·subst z;exact⟨λ_=>Sl.noConfusion,ay⟩
 ·exact h j x z
def GNo (g:T->En->R En):Prop:=(∀t ρ ρ',gm ρ->g t ρ= .ok ρ' ->gm ρ')/\∀t ρ c,g t ρ ≠ .ex c
theorem Vg (i:Nat):GNo (zq i):=⟨λt ρ ρ' h e=>by
 cases e;exact Wc h,λt ρ c e=>by cases e⟩
theorem Vh (i j:Nat):GNo (Z8 i j):=⟨λt ρ ρ' h e=>(by
 unfold Z8 at e;split at e
 ·cases e;exact Wc (Wc h)
 ·cases e),λt ρ c e=>by unfold Z8 at e;split at e <;> cases e⟩
section
variable {X:Cx}{Y:Fx}{tg iter elt:Expr}{ifs:List Expr}{scope:Scope}{pos pos' :Pos}{N' :List Str}{k:Nat}{js:List Nat}{fi:En->R (List T)}{tG:TG}{g:T->En->R En}{ft:En->R Bool}{fe:En->R T}
structure Wd (X:Cx) (Y:Fx) (ifs:List Expr) (f:En->R Bool):Prop where
 mk ::
 go:∀ρ,PIf X ifs (tS Y rE f ρ)
instance {X:Cx}{Y:Fx}{ifs:List Expr}{f:En->R Bool}:CoeFun (Wd X Y ifs f) λ_=>∀ρ,PIf X ifs (tS Y rE f ρ):=⟨Wd.go⟩
theorem PIf.imp {X:Cx}{e:List Expr}{t t' :TT}(h:PIf X e t)(i:∀σ H Q,t' σ H Q->t σ H Q):PIf X e t' :=λpins s σ H Q I q=>h _ s σ H Q I (i σ H Q q)
def Z3:En->R Bool:=λ_=> .ok true
theorem GK {X:Cx}:Wd X Y [] Z3:= .mk λρ=>PIf.imp kn λσ H Q ⟨B,I,q⟩=>ZB I q rfl
theorem GL {X:Cx}{c:Expr}(h:WK X Y c ft):Wd X Y [c] ft:= .mk λρ=>ko (h ρ)
noncomputable def CEnd (r:R (List T))(P:List T->Prop)(Z:Nat->Prop):Prop:=match r with
 | .ok vs=>P vs
 | .ex c=>Z c
 | .bad=>False
theorem yU {B1 H1:Hp}{σ:Sg}{ρ:En}{J:It}{ts:List T}{r:R (List T)}{D:Addr}{E0:XK}(hG:GOk tG g)(hN:GNo g)(I:SI Y B1 ρ σ H1)(rI' :rI B1 H1 J ts)(hl:ts.length<=bnd)(ev:zJ g ft fe ts (JO k js ρ)=r)(hD:H1 D=none){F:Hp->Prop}
  (hF:CEnd r (λvs=>∀H' xs B',zt H1 H' ->H' D=some (.lst xs)->zC B' xs vs->zt B' (zQ B1 H1 H')->B' D=none->zt B1 B' ->F H') λc=>∀d H',zt H1 H' ->zt B1 H' ->E0 (Y.cl c) d H'):
  ∃W,(∃m,W 0 m [] (Yo k js σ) (upd H1 D (.lst [])))/\Vc J D tG (λσ H Q=>∃Y' ρ',Y'.cl=Y.cl/\tS Y' rE ft ρ' σ H Q) (λσ H Q=>∃Y' ρ',Y'.cl=Y.cl/\Y'.E=E0/\tS Y' rC fe ρ' σ H Q) (λ_ H' =>F H') W:=by
 refine⟨λi m ys σ' H' =>m=ts.length - i/\i<=ts.length/\ys.length<=i/\H' D=some (.lst ys)/\∃ρ' B' us,SI ⟨B1,H1,E0,Y.cl,[]⟩ B' ρ' σ' H' /\gm ρ' /\zt B1 B' /\B' D=none/\zC B' ys us/\((zJ g ft fe (ts.drop i) ρ').bind λws=> .ok (us++ws))=r,
  ⟨ts.length,by simp,br _,br _,zD,_,B1,[],I.block (H3:=H1) k js _ hD _,Vf k js ρ,zt.refl _,I.sB.free hD,.nil,by rw[d7,ev];cases r <;> rfl⟩, ?_⟩
 rintro i m ys σ' H' ⟨rfl,hi,hyl,hDl,ρ',B',us,I',no',s1',bD,r',ew⟩
 refine⟨hDl, ?_⟩;obtain⟨hgo,hyld,hstop⟩:=rI' B' H' s1' I'.sB;have tD:∀H2,zt H' H2->zQ B' H' H2 D=none:=λH2 s=>by rw[Z6 hDl];exact bD
 by_cases hlt:i < ts.length
 ·refine .inr ⟨hgo i hlt,λx H2 y=> ?_⟩;obtain⟨s2,r2⟩:=hyld i _ x H2 (ah hlt) y;rw[cy hlt]at ew;unfold zJ at ew;have I2:=I'.grow s2;refine hG _ _ ρ' σ' H2 x _ _ I2 r2 ?_;cases eg:g ts[i] ρ' with
  | bad=>rw[eg]at ew;subst ew;exact hF
  | ex c=>exact(hN.2 _ _ _ eg).elim
  | ok ρ1=>
   rw[eg]at ew;have no1:=hN.1 _ _ _ no' eg;intro σ1 J1;refine⟨⟨B1,H1,E0,Y.cl,[]⟩,ρ1,rfl,_,J1, ?_⟩;have ew1:((ft ρ1).bind (λk=>if k=true then (fe ρ1).bind λv=>(zJ g ft fe (ts.drop (i+1)) ρ1).bind λvs=> .ok (v :: vs) else zJ g ft fe (ts.drop _) ρ1)).bind (λws=> .ok _)=r:=ew
   cases ef:ft ρ1 with
   | bad=>rw[ef]at ew1;subst ew1;exact hF
   | ex c=>
    rw[ef]at ew1;subst ew1;exact λd H' a b=>hF d H' a ((s1'.trans (zQ.ge I'.sB s2)).trans b)
   | ok kk=>
    rw[ef]at ew1;intro b H3 s3 eb;have eb' :=eb;subst eb';have ew2:=ew1;have J2:=J1.grow s3;have hD3:H3 D=some _:=s3 _ _ (s2 _ _ hDl);have bD3:zQ (zQ B' H' H2) H2 H3 D=none:=by rw[Z6 (s2 _ _ hDl)];exact tD H2 s2
    have sB3:=(zQ.ge I'.sB s2).trans (zQ.ge I2.sB s3);cases b with
    | false=>exact⟨ts.length - (i+1),by omega,rfl,hlt,by omega,hD3,ρ1,_,us,J2,no1,s1'.trans sB3,bD3,r'.mono sB3,ew2⟩
    | true=>
     refine⟨⟨B1,H1,E0,Y.cl,[]⟩,ρ1,rfl,rfl,_,J2, ?_⟩;have ew3:=ew2;cases ee:fe ρ1 with
     | bad=>rw[ee]at ew3;subst ew3;exact hF
     | ex c=>
      rw[ee]at ew3;subst ew3;exact λd H' a b=>hF d H' a ((s1'.trans sB3).trans b)
     | ok v=>
      rw[ee]at ew3;have ew4:=ew3;have ew5:(zJ g ft fe (ts.drop (i+1)) ρ1).bind (λws=> .ok ((us++[v])++ws))=r:=by
       rw[← ew4];cases zJ g ft fe _ ρ1 with
       | ok ws=>show R.ok _=R.ok _;rw[aU];rfl
       | _=>rfl
      intro w H4 s4 rw4;have hD4:=s4 _ _ hD3;have J3:=J2.grow s4;have bD4:zQ (zQ (zQ B' H' H2) H2 H3) H3 H4 D=none:=by rw[Z6 hD3];exact bD3
      have sB4:=sB3.trans (zQ.ge J2.sB s4);refine⟨hD4,aI (bw hyl hlt) (ZM hl),ts.length - (i+1),by omega,rfl,hlt,by rw[ax,aB];omega,zD,ρ1,_,us++[v], ?_,no1,s1'.trans sB4,bD4,(r'.mono sB4).append (.cons rw4 .nil),ew5⟩
      exact J3.acc bD4 hD (λj ts' e=>((no1 j _ e).1 ts' rfl).elim) (λj x e=>(no1 j x e).2) _
 ·have e:i=ts.length:=by omega
  subst e;refine .inl ⟨hstop _ (am _), ?_⟩;rw[iO]at ew;have ew' :R.ok _=r:=ew;rw[bJ]at ew';subst ew';refine hF H' ys B' I'.sH hDl r' (λb o h=> ?_) bD s1';cases q:H1 b with
  | none=>rw[Z5 q];exact I'.sB b o h
  | some u=>
   rw[Z6 q];have z:B' b=B1 b:=I'.old b u q;rw[← z];exact h
theorem JP {J:It}(hG:GOk tG g)(hN:GNo g)(I:SI Y B1 ρ σ H1)(rI' :rI B1 H1 J ts)(hl:ts.length<=bnd)(ev:zJ g ft fe ts (JO k js ρ)= .ok vs)(hD:H1 D=none){F:Hp->Prop}
  (hF:∀H' xs B',zt H1 H' ->H' D=some (.lst xs)->zC B' xs vs->zt B' (zQ B1 H1 H')->B' D=none->zt B1 B' ->F H'):
  ∃W,(∃m,W 0 m [] (Yo k js σ) (upd H1 D (.lst [])))/\Vc J D tG (λσ H Q=>∃Y' ρ',Y'.cl=Y.cl/\tS Y' rE ft ρ' σ H Q) (λσ H Q=>∃Y' ρ',Y'.cl=Y.cl/\(Y'.E=λ_ _ _=>False)/\tS Y' rC fe ρ' σ H Q) (λ_ H' =>F H') W:=yU hG hN I rI' hl ev hD hF
structure wL (X:Cx) (Y:Fx) (tg iter elt:Expr) (ifs:List Expr) (scope:Scope) (N' :List Str) (k:Nat) (js:List Nat) (fi:En->R (List T)) (tG:TG) (g:T->En->R En) (ft:En->R Bool) (fe:En->R T):Prop where
 sc:CSc X scope
 cp:z36 X scope N' k js
 cm:X.calm=true
 it:uY X Y tg iter fi
 gt:xP X scope N' λXC=>PG XC tg tG
 gk:GOk tG g
 gn:GNo g
 tt:∀Y',Y'.cl=Y.cl->xP X scope N' λXC=>Wd XC Y' ifs ft
 el:∀Y',Y'.cl=Y.cl->GJ X scope N' Y'.E λXC=>Snd XC Y' elt fe
 hs:∀x,foldedSetIterable iter X.env x=pure x
theorem xQ (C:wL X Y tg iter elt ifs scope N' k js fi tG g ft fe):Snd X Y (.ListComp elt [⟨tg,iter,ifs,0⟩] scope pos) (zz fi g ft fe k js):= .mk λρ=>by
 intro pins s σ H Q I ⟨B,J,q⟩;refine Wb (jW rfl) (F:=λD H' =>Q (.ref D) H') (te:=λσ H Q=>∃Y' ρ',Y'.cl=Y.cl/\(Y'.E=λ_ _ _=>False)/\tS Y' rC fe ρ' σ H Q) (tt:=λσ H Q=>∃Y' ρ',Y'.cl=Y.cl/\tS Y' rE ft ρ' σ H Q) C.sc C.cp C.cm (C.it ρ) C.gt
  (λcl Cx' s3 H3 fp pins pins' s σ H Q I ⟨Y',ρ',ey,q⟩=>C.tt Y' ey cl Cx' s3 H3 fp _ ρ' _ s σ H Q I q) (λcl Cx' s3 H3 fp pins xe hp pins' s σ H Q I ⟨Y',ρ',ey,eE,q⟩=>C.el Y' ey cl Cx' s3 H3 fp _ xe (eE ▸ hp) ρ' _ s σ H Q I q) I ?_ ?_ C.hs
 ·refine step J q λts it' H1 _ s1 r1 J1 q1=> ?_;intro D hD;unfold zo at q1;split at q1
  ·rename_i hl;cases ev:zJ g ft fe ts _ with
   | bad=>rw[ev]at q1;exact q1.elim
   | ex c=>rw[ev]at q1;exact q1.elim
   | ok vs=>
    rw[ev]at q1;refine JP C.gk C.gn J1 r1 hl ev hD λH' xs B' s' e' r' l' b' sb' => ?_;refine(show Po Y rC _ H1 _ Q from q1) _ H' s' ?_;exact .lst (by rw[Z5 hD];exact e') (r'.mono l')
  ·exact q1.elim
 ·intro D Cc H' s' I' q' hC h0 hL hcell hpin hns;obtain⟨m,hm⟩:=hns;refine⟨m,hm,λh' hsb=>⟨.ref D,H', ?_,rfl,q'⟩⟩;exact I'.turned (λb o hb e=>hsb.extBut b o hb e) hC (bK hL).symm (.inr h0) hcell hpin
end
section
variable {js:List Nat}{g:T->En->R En}
theorem GM (C:wL X Y tg iter elt ifs scope N' k js fi tG g ft fe)(hN:X.N.Nodup)(hi:X.N[i]? =some x)(hx:L2.Loc X.env.scope x)
  (hsw:swapsWith (.ListComp elt [⟨tg,iter,ifs,0⟩] scope pc) (some (.Name x p')) pos.line X.env=pure true) (hf:X.fn x=true\/X.env.scope.names.lookup x=some .local:=by first | exact .inl rfl | exact .inr rfl | assumption):
  wz X Y (.Assign [.Name x p'] (.ListComp elt [⟨tg,iter,ifs,0⟩] scope pc) pos) (zp i (zz fi g ft fe k js)):= .mk λρ=>by
 intro pins s σ H D I ⟨B,J,q⟩;rw[exec_Assign_Name_used _ _ _ _ hsw];refine a7 (wpAny_standAt (a7 ?_));refine a7 (thn (Wb (jW rfl) (F:=λD' H' =>D.nx (σ.set i (some (.ref D'))) H') (te:=λσ H Q=>∃Y' ρ',Y'.cl=Y.cl/\(Y'.E=λ_ _ _=>False)/\tS Y' rC fe ρ' σ H Q) (tt:=λσ H Q=>∃Y' ρ',Y'.cl=Y.cl/\tS Y' rE ft ρ' σ H Q) C.sc C.cp C.cm (C.it ρ) C.gt
  (λcl Cx' s3 H3 fp pins pins' s σ H Q I ⟨Y',ρ',ey,q⟩=>C.tt Y' ey cl Cx' s3 H3 fp _ ρ' _ s σ H Q I q) (λcl Cx' s3 H3 fp pins xe hp pins' s σ H Q I ⟨Y',ρ',ey,eE,q⟩=>C.el Y' ey cl Cx' s3 H3 fp _ xe (eE ▸ hp) ρ' _ s σ H Q I q) I ?_ ?_ C.hs) λ_ s' hq=>ar (ar hq))
 ·have q' :PoS Y B (((fi ρ).s λts=>(zo g ft fe k js ρ ts).s λvs=> .nx (ρ.set i (.vl (.lst vs))))) D:=by
   unfold zp zz at q;revert q;cases fi ρ with
   | bad=>exact λq=>q
   | ex c=>exact λq=>q
   | ok ts=>
    intro q;have q2:PoS Y B (((zo g ft fe k js ρ ts).bind λvs=>R.ok _).s λt=>RS.nx _) D:=q;show PoS Y B ((zo g ft fe k js ρ ts).s λvs=>RS.nx _) D;revert q2;cases zo g ft fe k js ρ ts with
    | bad=>exact λq=>q
    | ex c=>exact λq=>q
    | ok vs=>exact λq=>q
  refine jY J q' λts it' H1 _ s1 r1 J1 q1=> ?_;intro D' hD;unfold zo at q1;split at q1
  ·rename_i hl;cases ev:zJ g ft fe ts _ with
   | bad=>rw[ev]at q1;exact q1.elim
   | ex c=>rw[ev]at q1;exact q1.elim
   | ok vs=>
    rw[ev]at q1;refine JP C.gk C.gn J1 r1 hl ev hD λH' xs B' s' e' r' l' b' sb' => ?_;have rr:Rep _ _ _:= .lst (by rw[Z5 hD];exact e') (r'.mono l')
    exact q1 _ _ _ (zQ.ge J1.sB s') ((J1.grow s').setV i rr)
  ·exact q1.elim
 ·intro D' Cc H' s' I' q' hC h0 hL hcell hpin hns;obtain⟨m,hm⟩:=hns;refine wpAny_assign_Name (WO (v:= .ref D') I' hN hi hx rfl (λs'' I'' ⟨a,hsb,ha⟩=> ?_) hf);have hne:Cc ≠ a:=by
   rcases ha with rfl | ha
   ·exact hL
   ·exact(hcell x a ha).symm
  refine⟨m,hm.sameBut hsb hne,λh' hsb' =>⟨_,H', ?_,q'⟩⟩;exact I''.turned (λb o hb e=>hsb'.extBut b o hb e) hC hL (.inr h0) hcell hpin
end
noncomputable def Itc (x:Str):It:=⟨λi _=>i < x.cps.size,λi H v H' =>H' =H/\∃c,x.cps[i]? =some c/\v= .str ⟨#[c]⟩,λi _=>x.cps.size<=i⟩
theorem wM {P:Program}{w:World}{K:ae}{tg:Expr}{x:Str}{t:Tok}{ty:String}(it:Addr)(hty:ty="str_ascii_iterator"\/ty="str_iterator"):Yl P w K tg (Itc x) [it] it (λi h=>h.IsStrIter it ty x t i):=by
 have W:∀A:Around,A.handled=none->Walks P w A it [it] [it] x.cps.size (SignAt x) (λi h=>h.IsStrIter it ty x t i):=λA hA=>by
  rcases hty with rfl | rfl
  ·exact Walks.strAscii hA it x t
  ·exact Walks.strWide hA it x t
 have hn:["enumerate","zip","dict_itemiterator","dict_reverseitemiterator","odict_iterator","itertools.zip_longest","itertools.pairwise"].contains ty=false:=by rcases hty with rfl | rfl <;> decide
 refine⟨by simp,λi h st b hb=> ?_,λi h h' st k=> ?_, ?_, ?_,λA i s Q E st h=> ?_⟩
 ·have e:b=it:=by simpa using hb
  subst e;obtain⟨o,e,c,d⟩:=st;exact⟨o,e,λv z=>by rw[d]at z;cases z⟩
 ·obtain⟨o,e,r⟩:=st;exact⟨o,k it (by simp) o e,r⟩
 ·intro X hP hw hK hc i pins s σ H E I hf st hg;obtain⟨f0,f1,f2,f3,f4,f5⟩:=hf it (by simp)
  refine(W X.A (I.ok.hd hc)).item i s _ _ hg st λv h' tk hv st' kk=> ?_;obtain⟨c,u,hc',rfl⟩:=hv;have I1:L2.Inv X _ σ H { s with heap:=h',toks:=tk }:=I.turned (λb o hb e=>kk b o (by simpa using hb) e) f0 f1 f3 f4 f5
  obtain⟨o,e,cl,d⟩:=id st';exact⟨_,rfl,yG e cl d hn ⟨.str _,H,I1,⟨u,rfl⟩,⟨rfl,c,hc',rfl⟩,st',λb hb=>(hf b hb).1⟩⟩
 ·intro X hP hw hK hc i pins s σ H E I hf st hg;obtain⟨f0,f1,f2,f3,f4,f5⟩:=hf it (by simp)
  have hx:=cS hg;rcases hty with rfl | rfl
  ·exact wpAny_pyNext_ascii_end (I.ok.hd hc) st hx λh' eb=>⟨rfl,I.turned (λb o hb e=>eb b o hb e) f0 f1 f3 f4 f5⟩
  ·exact wpAny_pyNext_wide_end (I.ok.hd hc) st hx λh' eb=>⟨rfl,I.turned (λb o hb e=>eb b o hb e) f0 f1 f3 f4 f5⟩
 ·rcases hty with rfl | rfl
  ·exact wpAny_pyIter_striter_ascii st h
  ·exact wpAny_pyIter_striter_wide st h
noncomputable def j7 (x:Str):List T:=x.cps.toList.map λc=>T.str ⟨#[c]⟩
theorem Vi:rI B1 H1 (Itc x) (j7 x):=λB2 H2 s1 s2=>by
 have hl:(j7 x).length=x.cps.size:=by unfold j7;simp
 refine⟨λi hi=>by rw[hl]at hi;exact hi,λi t v H3 e y=> ?_,λi hi=>by rw[hl]at hi;exact hi⟩
 obtain⟨rfl,c,hc,rfl⟩:=y;refine⟨zt.refl _, ?_⟩;unfold j7 at e;rw[aA]at e;have hc' :x.cps.toList[i]? =some c:=by simpa using hc
 rw[hc']at e;cases e;exact .str _
section
theorem GN {l:Expr}{tl:TE}(hl:PE X l tl):PI X tg l (λσ H R=>tl σ H λx H1=>(∃a,x= .ref a/\(((∃xs,SqL X.K H1 a xs)/\R (Itl X.K a) H1)\/((∃xs,SqT X.K H1 a xs)/\R (Itt X.K a) H1)))\/(∃z,x= .str z/\R (Itc z) H1)):=by
 intro pins s σ H R I h;refine thn (hl _ s σ H _ I h) λv s1 ⟨x,H1,I1,r1,q1⟩=> ?_;have ok:∀b∈[s1.heap.objs.size],WQ X _ H1 b:=λb hb=>by
  have e:=by simpa using hb
  subst e;exact I1.fpOk (am _) (I1.hok.fresh (am _))
 rcases q1 with ⟨a,e,q⟩ | ⟨z,e,q⟩
 ·subst e;obtain rfl:v=Value.ref a:=r1;rcases q with ⟨⟨xs,hq⟩,q⟩ | ⟨⟨xs,hq⟩,q⟩
  ·obtain⟨its,rv,p,hz⟩:=I1.list hq;exact wpAny_pyIter_list p.isList ⟨s1.heap.objs.size,[s1.heap.objs.size],_,_,H1,rfl,I1.kept λb o e=>ag _ e,YA a _,⟨_,aj _ rfl,rfl,rfl⟩,ok,q⟩
  ·obtain⟨its,rv,p,hz⟩:=I1.tuple hq;exact wpAny_pyIter_tuple (show s1.heap.IsTuple a _ from p) ⟨s1.heap.objs.size,[s1.heap.objs.size],_,_,H1,rfl,I1.kept λb o e=>ag _ e,yH a _,⟨_,aj _ rfl,rfl,rfl⟩,ok,q⟩
 ·subst e;obtain⟨t,rfl⟩:=r1;cases ha:z.cps.all _
  ·exact wpAny_pyIter_wide ha ⟨s1.heap.objs.size,[s1.heap.objs.size],_,_,H1,rfl,I1.kept λb o e=>ag _ e,wM _ (.inr rfl),⟨_,aj _ rfl,rfl,rfl⟩,ok,q⟩
  ·exact wpAny_pyIter_ascii ha ⟨s1.heap.objs.size,[s1.heap.objs.size],_,_,H1,rfl,I1.kept λb o e=>ag _ e,wM _ (.inl rfl),⟨_,aj _ rfl,rfl,rfl⟩,ok,q⟩
def jP:T->R (List T)
 | .lst xs=> .ok xs
 | .tup xs=> .ok xs
 | .str x=> .ok (j7 x)
 | _=> .bad
def Zb (fa:En->R T):En->R (List T):=λρ=>(fa ρ).bind jP
theorem z37 (ha:Snd X Y a fa):uY X Y tg a (Zb fa):= .mk λρ=>PI.imp (GN (ha ρ)) λσ H R ⟨B,I,q⟩=>step I q λt v H1 _ s1 r1 I1 q1=>by
 cases r1 with
 | @tup l xs ts h r=>
  exact .inl ⟨l,rfl,.inr ⟨⟨xs,SqT.of (I1.sB _ _ h)⟩,ZB I1 (show Po Y rI _ H1 _ R from q1) (GC h r)⟩⟩
 | @lst l xs ts h r=>
  exact .inl ⟨l,rfl,.inl ⟨⟨xs,SqL.of (I1.sB _ _ h)⟩,ZB I1 (show Po Y rI _ H1 _ R from q1) (GD h r)⟩⟩
 | str z=>exact .inr ⟨z,rfl,ZB I1 (show Po Y rI _ H1 _ R from q1) Vi⟩
 | _=>exact q1.elim
end
theorem Inv.laidT {X:Cx}{pins:List (Addr×Obj)}{σ:Sg}{H:Hp}{s:Shared}{h' :Heap}{tk:Nat}{ch:List Addr}{a:Addr}{xs:List V}(I:L2.Inv X pins σ H s)(hf:∀b∈ch,WQ X pins H b)(k:∀b o,b ∉ ch->s.heap.get? b=some o->h'.get? b=some o)
  (th:∀b o,b∈ch->s.heap.get? b=some o->∃o',h'.get? b=some o') (ha:s.heap.objs.size<=a) (new:Z1 X.prog X.w (upd H a (.tup xs)) h' a (.tup xs)):L2.Inv X pins σ (upd H a (.tup xs)) { s with heap:=h',toks:=tk }:=by
 have hn:=I.hok.fresh ha;have nch:∀b u,H b=some u->b ∉ ch:=λb u e hb=>by rw[(hf b hb).1]at e;cases e
 refine I.call' rfl ⟨λb o e n _ hc=>k b o hc e,λb o e n _ hc=>⟨o.slots,k b o hc e⟩,λb o e n _=>by rw[zk (aC (aI (aq e) ha))];exact n,λb o e hc=>⟨o,k b o hc e⟩,
  λb ys e=>by rw[zk (zF e hn)];exact e,λb o u e=>by rw[zk (zF e hn)];exact e,λb ps q e=>by rw[zk (zF e hn)];exact e⟩ (λb u e=> ?_) I.bare λb hb=> ?_
 ·by_cases hb:b=a
  ·subst hb;rw[zD]at e;cases e;exact new
  ·rw[zk hb]at e;refine(I.hok b u e).stay (λc v hc q=> ?_) (λc q=>by rw[zk (zF q hn)];exact q) (λc ys q=>by rw[zk (zF q hn)];exact q) λc o u q=>by rw[zk (zF q hn)];exact q
   rcases hc with rfl | hc
   ·exact k c v (nch c u e) q
   ·exact k c v (nch c _ hc) q
 ·obtain⟨f0,f1,f2,f3,f4,f5⟩:=hf b hb;exact⟨f3,f1,f4,f5⟩
def Ite (K:ae)(l:Addr):It:=
 ⟨λi H=>∃xs x,SqL K H l xs/\xs[i]? =some x,λi H v H' =>∃p x,H p=none/\v= .ref p/\(∀xs,SqL K H l xs->xs[i]? =some x)/\H' =upd H p (.tup [.int i,x]),λi H=>∃xs,SqL K H l xs/\xs.length<=i⟩
theorem qt {P:Program}{w:World}{K:ae}{elts:List Expr}{kk:Nat}{pt:Pos}(e it l:Addr)(hei:e ≠ it)(hle:l ≠ e)(hli:l ≠ it):
  Yl P w K (.Tuple elts kk pt) (Ite K l) [e,it] e (λi h=>(∃old,IsEnum h e it i old)/\h.IsListIter it l i) where
 mem:=by simp
 obj:=λi h st b hb=>by
  obtain⟨⟨old,he⟩,o,e1,c,d⟩:=st;rcases ak.mp hb with rfl | hb
  ·exact⟨_,he,λv z=>nomatch z⟩
  ·have z:b=it:=by simpa using hb
   subst z;exact⟨o,e1,λv z=>by rw[d]at z;cases z⟩
 keep:=λi h h' st k=>by
  obtain⟨⟨old,he⟩,hit⟩:=st;exact⟨⟨old,k e (by simp) _ he⟩,hit.at λo x=>k it (by simp) o x⟩
 item:=by
  intro X hP hw hK hc i pins s σ H E I hf st hg;subst hP hw hK;obtain⟨xs,x,hq,hx⟩:=hg;obtain⟨its,rv,p,hz⟩:=I.list hq;obtain⟨u,hu,ru⟩:=rv.get hx;obtain⟨⟨old,he⟩,hit⟩:=st;have hi:i < its.toArray.size:=by
   have:=(au.mp hu).1;simpa using this
  refine(iP (prog:=X.prog) (w:=X.w) (I.ok.hd hc) e it l hei hle hli its.toArray).item i s _ _ hi ⟨⟨old,he⟩,hit,p.isList⟩ λT vals h' tk hP hT hTup hM hk=> ?_;obtain⟨t,y,hy,rfl⟩:=hP;have hyu:y=u:=by
   have:its[i]? =some y:=by simpa using hy
   rw[hu]at this;exact(aL this).symm
  subst hyu;refine⟨.ref T,rfl, ?_⟩;refine(iP (prog:=X.prog) (w:=X.w) (I.ok.hd hc) e it l hei hle hli its.toArray).go elts kk pt i T _ _ _ hM λh2 hst2 hk2=> ?_;have hTn:H T=none:=I.hok.fresh hT;have hTne:∀b∈[e,it],b ≠ T:=λb hb z=>by
   obtain⟨_,_,_,h3,h4⟩:=hM;rcases ak.mp hb with rfl | hb
   ·exact h3 z.symm
   ·have:b=it:=by simpa using hb
    subst this;exact h4 z.symm
  have WL:IsTup h2 T #[.int i t,y]:=by
   obtain⟨o,eo,r⟩:=hTup;exact⟨o,hk2 T o (λhb=>hTne T hb rfl) eo,r⟩
  refine⟨.ref T,upd H T (.tup [.int i,x]),Inv.laidT (s:=s) (h' :=h2) (ch:=[e,it]) (tk:=tk) I hf (λb o hb e=>hk2 b o hb (hk b o hb e)) (λb o hb _=> ?_) hT ⟨by rw[cj];show 2<=16777216;decide,[.int i t,y],.cons ⟨t,rfl⟩ (.cons ru .nil),WL,.inl ⟨_,_,rfl⟩⟩,rfl,⟨T,x,hTn,rfl,λys hy=>by rw[I.list_inj hy hq];exact hx,rfl⟩,⟨hst2.1,hst2.2.1⟩,λb hb=> ?_⟩
  ·obtain⟨⟨old2,he2⟩,⟨o2,eo2,_⟩,_⟩:=hst2;rcases ak.mp hb with rfl | hb
   ·exact⟨_,he2⟩
   ·have:b=it:=by simpa using hb
    subst this;exact⟨o2,eo2⟩
  ·rw[zk (hTne b hb)];exact(hf b hb).1
 done:=by
  intro X hP hw hK hc i pins s σ H E I hf st hg;subst hP hw hK;obtain⟨xs,hq,hx⟩:=hg;obtain⟨its,rv,p,hz⟩:=I.list hq;obtain⟨⟨old,he⟩,hit⟩:=st;have hl:=rv.length;refine wpAny_pyNext_enum_end (I.ok.hd hc) he hit p.isList (cS (by simp;omega)) λh' hk=>⟨rfl, ?_⟩
  obtain⟨f0,f1,f2,f3,f4,f5⟩:=hf it (by simp)
  exact I.turned (t' :=s.toks) (λb o hb e=>hk b o hb e) f0 f1 f3 f4 f5
 self:=λ_ _ _ _ _ st h=>let ⟨⟨_,he⟩,_⟩:=st;wpAny_pyIter_enum he h
noncomputable def jQ (xs:List T):List T:=(xs.zipIdx).map λp=>T.tup [.int (p.2:Nat),p.1]
theorem u8 {xs:List T}{i:Nat}{t:T}(h:(jQ xs)[i]? =some t):∃x,xs[i]? =some x/\t= .tup [.int (i:Nat),x]:=by
 unfold jQ at h;rw[aA,List.getElem?_zipIdx]at h;cases e:xs[i]? with
 | none=>rw[e]at h;cases h
 | some x=>rw[e]at h;cases h;exact⟨x,rfl,by simp⟩
theorem Jj (xs:List T):(jQ xs).length=xs.length:=by unfold jQ;simp
theorem kr {K:ae}{B1 H1:Hp}{a:Addr}{xs:List V}{ts:List T}(h:B1 a=some (.lst xs))(r:zC B1 xs ts):rI B1 H1 (Ite K a) (jQ ts):=λB2 H2 s1 s2=>by
 have h2:=s2 _ _ (s1 _ _ h);rw[Jj];refine⟨λi hi=> ?_,λi t x H3 e y=> ?_,λi hi=>⟨xs,SqL.of h2,by rw[r.length];exact hi⟩⟩
 ·obtain⟨v,e,_⟩:=r.get (ah hi);exact⟨xs,v,SqL.of h2,e⟩
 ·obtain⟨p,v,hp,rfl,y,rfl⟩:=y;obtain⟨t',et,rfl⟩:=u8 e;obtain⟨v',e1,r1⟩:=r.get et;have:=y xs (SqL.of h2);rw[e1]at this;cases this;refine⟨zt.new hp _,.tup (j1 hp _) (.cons (.int _) (.cons ?_ .nil))⟩;exact(r1.mono s1).mono (zQ.ge s2 (zt.new hp _))
section
variable {X:Cx}{Y:Fx}{a:Expr}{fa:En->R T}{pos p pt:Pos}{elts:List Expr}{kk:Nat}
theorem ku {ta:TA}(hg:Gl X "enumerate")(hm:X.mg "enumerate"=none)(ha:PA X [a] ta)(hs:St1 X a:=by exact st1 rfl):
  PI X (.Tuple elts kk pt) (.Call (.Name "enumerate" p) [a] [] pos) (λσ H R=>ta σ H λvs H1=>∃l xs,vs=[.ref l]/\H1 l=some (.lst xs)/\R (Ite X.K l) H1):=by
 intro pins s σ H R I h;refine Call_ (j9 I hg hm PyProof.Rows.Boot.«enumerate» (aT (thn (ha pos _ s σ H _ I h) λus s1 ⟨vs,H1,I1,r1,q1⟩=> ?_) hs rfl));obtain⟨l,xs,e,hl,q⟩:=q1;subst e;obtain⟨u,rfl,ru⟩:=Zv r1;obtain rfl:u=Value.ref l:=ru;obtain⟨_,its,n,rv,eo⟩:=(show Z1 _ X.w H1 _ l _ from I1.hok l _ hl);have hlt:=aq eo;refine call_enumerate_1 eo λh' he hit hsz hk=>wpAny_pyIter_enum he ?_;have f:∀b∈[s1.heap.objs.size+1,s1.heap.objs.size],WQ X _ H1 b:=λb hb=>by
  rcases ak.mp hb with rfl | hb
  ·exact I1.fpOk (dO _) (I1.hok.fresh (dO _))
  ·have z:=by simpa using hb
   subst z;exact I1.fpOk (am _) (I1.hok.fresh (am _))
 exact⟨s1.heap.objs.size+1,[s1.heap.objs.size+1,s1.heap.objs.size],_,_,H1,rfl,I1.kept hk,qt _ _ l (iQ _) (aC (cC hlt)) (aC hlt),⟨⟨_,he⟩,hit⟩,f,q⟩
def kv (fa:En->R T):En->R (List T):=λρ=>(fa ρ).bind λt=>match t with
 | .lst xs=> .ok (jQ xs)
 | _=> .bad
theorem GO (hg:Gl X "enumerate")(hm:X.mg "enumerate"=none)(ha:Snd X Y a fa)(hs:St1 X a:=by exact st1 rfl):uY X Y (.Tuple elts kk pt) (.Call (.Name "enumerate" p) [a] [] pos) (kv fa):= .mk λρ=>
 PI.imp (ku hg hm (zv (ha ρ) zP hs) hs) λσ H R ⟨B,I,q⟩=>step I q λt v H1 _ s1 r1 I1 q1=>by
  cases r1 with
  | @lst l xs ts h r=>exact⟨l,xs,rfl,I1.sB _ _ h,ZB I1 (show Po Y rI _ H1 _ R from q1) (kr h r)⟩
  | _=>exact q1.elim
noncomputable def wN:List T->Option (List Str)
 | []=>some []
 | .str x :: r=>match wN r with | some ys=>some (x :: ys) | none=>none
 | _ :: _=>none
def GP (sep:Str):T->R T
 | .lst ts=>match wN ts with
  | some ys=>if (ys.map (·.length)).sum+ys.length*sep.length<=16777216 then .ok (.str (Txt.join sep ys)) else .bad
  | none=> .bad
 | _=> .bad
theorem Jx {H:Hp}:∀{xs:List V} {ts:List T} {its:List Value} {ys:List Str},zC H xs ts->Vals xs its->wN ts=some ys->StrsAre its ys
 | _,_,_,ys,.nil,.nil,h=>by
  have h' :=h;cases h';exact .nil
 | _,_,_,ys,.cons r rs,.cons rv vs,h=>by
  cases r with
  | str x=>
   unfold wN at h;split at h
   ·rename_i zs e;cases h;obtain⟨tk,rfl⟩:=rv;exact .cons x tk (Jx rs vs e)
   ·cases h
  | _=>cases h
theorem kx:MtR X "str.join" (λx xs H Q=>∃z l zs ts ys,x= .str z/\xs=[.ref l]/\H l=some (.lst zs)/\zC H zs ts/\wN ts=some ys/\(ys.map (·.length)).sum+ys.length*z.length<=16777216/\Q (.str (Txt.join z ys)) H):=by
 intro pins s σ H x xs v us Q I rx rv h;obtain⟨z,l,zs,ts,ys,rfl,rfl,hl,r,e,hb,q⟩:=h;obtain⟨t,rfl⟩:=rx;obtain⟨u,rfl,ru⟩:=Zv rv;obtain rfl:u=Value.ref l:=ru;obtain⟨its,rv,p,_⟩:=zO I (.inl hl) r;exact join_list p (by simpa using Jx r rv e) hb λt' k=>⟨.str _,H,I.tok k,⟨t',rfl⟩,q⟩
theorem GQ (ha:je X Y a fa)(hb:attributeBase (.Constant (.str z) kc pz) "join" X.env (eval (.Constant (.str z) kc pz) X.env)=eval (.Constant (.str z) kc pz) X.env:=by rfl)(hs:St1 X a:=by exact st1 rfl)
  (hz:(pa.endLine == p.line)=true:=by rfl):Snd X Y (.Call (.Attribute (.Constant (.str z) kc pz) "join" pa) [a] [] p) (ap1 (GP z) fa):= .mk λρ=>by
 have e1:(((((backTo p (starEach [a] X.env)).all λx=> !x.fst) && (backToKw p (keywordEach [] X.env)).all λx=>x.fst.isSome) && decide (([a].length+([]:List Keyword).length+if ([]:List Keyword).isEmpty=true then 0 else 1) < 30))=true):=by rw[hs];rfl
 refine PE.imp (YN PySem.F.plainAttrs_str PySem.F.slot_str_join PySem.F.type_str_join kx xz (zv (ha ρ) zP hs) hb e1 hz hs rfl) λσ H Q ⟨B,I,q⟩=> ?_;refine⟨rfl,step I q λt v H1 _ s1 r1 I1 q1=> ?_⟩;cases r1 with
 | @lst l xs ts h r=>
  have q1:Po Y rC _ H1 (match wN ts with | some ys=>if (ys.map _).sum+ys.length*z.length<=16777216 then .ok _ else .bad | none=> .bad) Q:=q1
  split at q1
  ·rename_i ys e;split at q1
   ·rename_i hl;exact⟨z,l,xs,ts,ys,rfl,rfl,h,r,e,hl,po0 I1.sB q1 rfl (.str _)⟩
   ·exact q1.elim
  ·exact q1.elim
 | _=>exact q1.elim
end
noncomputable def dd:List Str->List Str->List Str
 | acc,[]=>acc
 | acc,x :: r=>dd (if x∈acc then acc else acc++[x]) r
section
variable {prog:Program}{w:World}{A:Around}{R:Result->Shared->Prop}{I:Addr}{fp wr:List Addr}{n:Nat}{P:Nat->Value->Prop}{St:Nat->Heap->Prop}
theorem jr {h h' :Heap}{S:Addr}{f g:Str->Bool}{m k:Nat}(x:h.SetOf (strKind prog w) S f m)(e:∀o,h.get? S=some o->h'.get? S=some o)(ef:f=g)(em:m=k):h'.SetOf (strKind prog w) S g k:=by
 subst ef em;obtain⟨o,es,ep,t,ho,r⟩:=x;exact⟨o,es,ep,t,e o ho,r⟩
theorem Vj (W:Walks prog w A.in1 I fp wr n P St)(S:Addr)(hSf:S ∉ fp)(val:Nat->Str)(hval:∀i v,P i v->∃t,v=Value.str (val i) t)(hb:n+1 < scanBound):
  ∀(k i:Nat) (acc:List Str) (s:Shared),n - i=k->i<=n->acc.length<=i->St i s.heap->s.heap.SetOf (strKind prog w) S (λx=>decide (x∈acc)) acc.length->
   (∀h' tk,(∀b o,b ∉ S :: wr->s.heap.get? b=some o->h'.get? b=some o)->h'.SetOf (strKind prog w) S (λx=>decide (x∈dd acc ((i_ i k).map val))) (dd acc ((i_ i k).map val)).length->
    R (.ok (.ret .none)) { s with heap:=h',toks:=tk })->codeAny (model prog w) A (.builtin "set.update.loop" ⟨[.ref S,.ref I],[]⟩) R s:=by
 intro k
 induction k with
 | zero=>
  intro i acc s hk hi hal hst hS hR;obtain rfl:i=n:=by omega
  refine bS f6 ?_;refine a7 (W.done s _ _ hst λh' tk hk' =>ar ?_);exact hR h' tk (λb o hb e=>hk' b o (λz=>hb (a8 _ z)) e) (jr hS (λo e=>hk' S o (λz=>hSf (W.sub _ z)) e) rfl rfl)
 | succ k ih=>
  intro i acc s hk hi hal hst hS hR;refine bS f6 ?_;refine a7 (W.item i s _ _ (by omega) hst λv h1 tk1 hP hst1 hk1=> ?_)
  obtain⟨t,rfl⟩:=hval i v hP;have hS1:=jr hS (λo e=>hk1 S o (λz=>hSf (W.sub _ z)) e) rfl rfl;refine a7 (m:=holding _ _) (ck ?_);unfold setAdd;have isk:(strKind prog w).is (val i) (.str (val i) t)=true:=strKind_is _ _ _ _;refine ck (a7 ((strKind _ w).pyHash isk ?_));refine wpAny_setAddHashed_of isk rfl hS1 (by omega) λh2 hsb hS2=> ?_
  have e2:(if decide (val i∈acc)=true then acc.length else acc.length+1)=(if val i∈acc then acc else acc++[val i]).length:=by
   by_cases hm:val i∈acc
   ·simp[hm]
   ·simp[hm]
  have e1:(λx=>decide (x∈acc) || decide (x=val i))=(λx=>decide (x∈(if val i∈acc then acc else acc++[val i]))):=by
   funext x
   by_cases hm:val i∈acc
   ·simp only[if_pos hm]
    by_cases hx:x=val i
    ·subst hx;simp[hm]
    ·simp[hx]
   ·simp[hm,Bool.decide_or]
  have hS3:=jr hS2 (λo e=>e) e1 e2;refine ar ⟨dn F.plain_set_update_loop _,ih _ _ _ (by omega) (by omega) ?_ (W.frame _ h1 _ hst1 λb hb o e=> ?_) hS3 λh3 tk3 hk3 hS4=> ?_⟩
  ·split
   ·omega
   ·rw[ax,aB];omega
  ·exact(hsb.2 b (λz=>hSf (z ▸ hb))).trans e
  ·refine hR h3 tk3 (λb o hb e=>hk3 b o hb ?_) hS4;exact(hsb.2 b (λz=>hb (z ▸ a9))).trans (hk1 b o (λz=>hb (a8 _ z)) e)
end
section
set_option maxRecDepth 100000 in
set_option maxHeartbeats 3200000 in
theorem qu {l:Addr}{its:List Value}{ys:List Str}{Q:Value->Shared->Prop}(hh:A.handled=none)(hl:s.heap.IsList l its.toArray)(hi:StrsAre its ys)(hb:its.length+1 < scanBound)
  (h:∀(h' :Heap) (tk:Nat),h'.SetOf (strKind prog w) s.heap.objs.size (λx=>decide (x∈dd [] ys)) (dd [] ys).length->(∀b o,b < s.heap.objs.size->s.heap.get? b=some o->h'.get? b=some o)->
   Q (.ref s.heap.objs.size) { s with heap:=h',toks:=tk }):wpAny (model prog w) A (call (.type "set") [.ref l]) Q E s:=by
 have getv:∀{its:List Value} {ys:List Str},StrsAre its ys->its.length=ys.length/\∀(i:Nat) (v:Value),its[i]? =some v->∃t,v=Value.str (ys.getD i ⟨#[]⟩) t:=λ{its ys} hi=>by
  induction hi with
  | nil=>exact⟨rfl,λi v e=>by simp at e⟩
  | cons y t _ ih=>
   refine⟨by simp[ih.1],λi v e=> ?_⟩
   cases i with
   | zero=>exact⟨t,by simpa using e.symm⟩
   | succ i=>exact ih.2 i v (by simpa using e)
 obtain⟨hlen,hget⟩:=getv hi;have hys:(i_ 0 its.length).map (λi=>ys.getD i ⟨#[]⟩)=ys:=by
  rw[hlen];refine dG λi=> ?_;rw[aA]
  by_cases hi' :i < ys.length
  ·rw[List.getElem?_range' hi',ah hi'];simp[ah hi']
  ·rw[aS (by simp;omega),aS (by omega)]
   rfl
 obtain⟨c,tl,hmro⟩:=cT.mro;have hmade:=cT.made;have hsub:=cT.sub;have h1:=cT.notType;have h2:=cT.canCreate;have hct:=F.typeCall_set_1 (.ref l);refine wpAny_call (codeAny_of_tree (show wpAny _ _ (callAny (.type "set") _) _ _ _ from ?_));refine ar ⟨i7 _ (by decide+kernel),bS F.entry_type_call ?_⟩
 rw[Around.under_plain (weight_type_call_type "set" [.ref l] []) rfl]
 repeat any_goals (first | assumption | wp_step)
 refine codeAny_mono (code_set_new_1 (.ref l) (E:=E) (Q₁:=λobj s₁=>∃led:Bool,obj= .ref s.heap.objs.size/\s₁={ s with heap:=s.heap.push { cls:= .type "set",dict:=none,data:= .set #[] 0 (.fresh 0 0 led) } }) λled=>⟨led,rfl,rfl⟩) λr s₁ hr=> ?_;cases r with
 | error e=>exact hr
 | ok fl=>
  cases fl with
  | ret obj=>
   obtain⟨led,rfl,rfl⟩:=hr;generalize hG:s.heap.push { cls:= .type "set",dict:=none,data:= .set #[] 0 (.fresh 0 0 led) }=G;have hS:G.get? s.heap.objs.size=some { cls:= .type "set",dict:=none,data:= .set #[] 0 (.fresh 0 0 led) }:=by rw[← hG];exact aj _ rfl
   have hGs:G.objs.size=s.heap.objs.size+1:=by rw[← hG,cx]
   have hGk:∀b o,s.heap.get? b=some o->G.get? b=some o:=λb o e=>by rw[← hG];exact ag _ e
   have hT:hW { s with heap:=G } (.ref s.heap.objs.size) "set":=⟨_,hS,rfl⟩;have hli:=cT.init.lookup;have hbi:=cT.init.bind (.ref s.heap.objs.size)
   repeat any_goals (first | assumption | wp_step)
   refine codeAny_mono (codeAny_call_builtin (R:=wants (λr s₂=>r= .none/\∃h' tk,s₂={ s with heap:=h',toks:=tk }/\h'.SetOf (strKind prog w) s.heap.objs.size (λx=>decide (x∈dd [] ys)) (dd [] ys).length/\
     (∀b o,b < s.heap.objs.size->s.heap.get? b=some o->h'.get? b=some o)) E) cT.init.plain F.entry_set_init (check_set_init_1 hT ?_)) λr₂ s₂ hr₂=> ?_
   ·obtain⟨⟨ocls,odict,odata,oslots⟩,hol,hcl,nl,hdl⟩:=hl;simp only at hcl hdl;subst hcl;subst hdl;have hol' :=hGk _ _ hol;have hsls:=F.sub_list_set;have hslf:=F.sub_list_frozenset;have hne:(Value.type "list" == Value.type "dict")=false:=by decide
    have hl1:G.IsList l its.toArray:=⟨_,hol',rfl,nl,rfl⟩;have hlS:l < s.heap.objs.size:=aq hol;unfold Builtin.«set.__init__» noKeywords Builtin.Frozenset.updateFrom;generalize hPI:pyIter=PI
    wp_walk
    subst hPI;refine wpAny_pyIter_list hl1 (a7 (wpAny_runValue ?_));have hSf:s.heap.objs.size ∉ [G.objs.size,l]:=by
     rw[hGs];intro z;rcases ak.mp z with z | z
     ·exact absurd z (aC (dM _))
     ·exact absurd (aG.mp z) (dU hlS)
    refine Vj (lj (A:=A.in1.in1.in1) (by simp[hh]) G.objs.size l (by rw[hGs];exact aC (cC hlS)) its.toArray) s.heap.objs.size hSf (λi=>ys.getD i ⟨#[]⟩) (λi v e=>hget i v (by simpa using e)) (by simpa using hb) its.length 0 [] _ (by simp) (br _) (am _)
     ⟨⟨_,aj _ rfl,rfl,rfl⟩,hl1.push _⟩ ?_ ?_
    ·have hget' :(G.push { cls:= .type "list_iterator",data:= .fields #[.ref l,.int 0 0] }).get? s.heap.objs.size=some { cls:= .type "set",dict:=none,data:= .set #[] 0 (.fresh 0 0 led) }:=ag _ hS;exact jr ((PyProof.Rows.setObjOf_fresh (knd:=strKind prog w) led).setOf hget' (by unfold scanBound;omega)) (λo e=>e) (by funext x;simp) rfl
    ·intro h' tk' hm hS';rw[hys]at hS';refine ar (show wpAny _ _ (ret Value.none) _ _ _ from ar ⟨rfl,h',tk',rfl,hS',λb o hb e=> ?_⟩);refine hm b o (λz=> ?_) (ag _ (hGk b o e));rcases ak.mp z with z | z
     ·exact absurd z (aC hb)
     ·have z' :b=G.objs.size:=aG.mp z;rw[hGs]at z';exact absurd z' (aC (cC hb))
   ·cases r₂ with
    | error e=>exact hr₂
    | ok fl₂=>
     cases fl₂ with
     | ret r=>
      obtain⟨rfl,h',tk,rfl,hS',hk'⟩:=hr₂
      repeat any_goals (first | assumption | wp_step)
      exact h _ _ hS' hk'
     | _=>exact hr₂.elim
  | _=>exact hr.elim
end
section
theorem qv (hh:X.A.handled=none):Zk X (.type "set") (λvs H Q=>∃l xs ts ys,vs=[.ref l]/\H l=some (.lst xs)/\zC H xs ts/\wN ts=some ys/\ts.length+1 < 4096/\
  ∀q,H q=none->Q (.ref q) (upd H q (.ext λh=>h.SetOf (strKind X.prog X.w) q (λx=>decide (x∈dd [] ys)) (dd [] ys).length))):=by
 intro pins s σ H vs us Q I rv h;obtain⟨l,xs,ts,ys,rfl,hl,r,ey,hb,q⟩:=h;obtain⟨u,rfl,ru⟩:=Zv rv;obtain rfl:u=Value.ref l:=ru;obtain⟨its,rv,pl,hln,_⟩:=zO I (.inl hl) r;refine qu hh pl (Jx r rv ey) (by unfold scanBound;omega) λh' tk hS hk=> ?_
 refine⟨.ref _,_,I.laid (λb u e=>hk b u (aq e) e) (am _) ?_,rfl,q _ (I.hok.fresh (am _))⟩;obtain⟨o,es,ep,t,ho,rr⟩:=id hS;exact⟨hS,⟨o,ho⟩,λh1 h2 ⟨o1,es1,ep1,t1,ho1,rr1⟩ e=>⟨o1,es1,ep1,t1,e _ ho1,rr1⟩⟩
theorem qw:Zk X (.builtin "len") (λvs H Q=>∃q φ f n,vs=[.ref q]/\H q=some (.ext φ)/\(∀h:Heap,φ h->h.SetOf (strKind X.prog X.w) q f n)/\Q (.int n) H):=by
 intro pins s σ H vs us Q I rv h;obtain⟨l,φ,f,n,rfl,hl,hφ,q⟩:=h;obtain⟨u,rfl,ru⟩:=Zv rv;obtain rfl:u=Value.ref l:=ru;obtain⟨h1,_,_⟩:=(show Z1 _ X.w H _ l _ from I.hok l _ hl);obtain⟨o,es,ep,t,ho,hex,hd,_,_,hb,hf,hn⟩:=hφ _ h1;refine call_len_set ho hex hd hf ?_ ⟨.int _,H,I.tok _,⟨_,rfl⟩,by rw[hn];exact q⟩
 have:es.size < 4096:=hb;omega
def Vk:T->R T
 | .lst ts=>match wN ts with
  | some ys=>if ts.length+1 < 4096 then .ok (.int (dd [] ys).length) else .bad
  | none=> .bad
 | _=> .bad
theorem GR (hh:X.A.handled=none)(gl:Gl X "len")(mg:X.mg "len"=none)(gl' :Gl X "set")(mg' :X.mg "set"=none)(ha:je X Y a fa)(hs:St1 X a:=by exact st1 rfl)(hs' :St1 X (.Call (.Name "set" p') [a] [] pos'):=by exact st1 rfl):
  Snd X Y (.Call (.Name "len" p) [.Call (.Name "set" p') [a] [] pos'] [] pos) (ap1 Vk fa):= .mk λρ=>
 PE.imp (j0 qw gl mg PySem.boot_len (zv (jb (qv hh) gl' mg' PyProof.Rows.Boot.«set» (zv (ha ρ) zP hs) (by decide) (by decide) hs rfl) zP hs') (by decide) (by decide) hs' rfl) λσ H Q ⟨B,I,q⟩=>
  step I q λt v H1 _ s1 r1 I1 q1=>by
   cases r1 with
   | @lst l xs ts h r=>
    have q1:Po Y rC _ H1 (match wN ts with | some ys=>if ts.length+1 < 4096 then .ok _ else .bad | none=> .bad) Q:=q1
    split at q1
    ·rename_i ys e;split at q1
     ·rename_i hl;refine⟨l,xs,ts,ys,rfl,h,r,e,hl,λz hz=>⟨z,_,_,_,rfl,zD,λh hh=>hh, ?_⟩⟩;exact q1 _ _ (zt.new hz _) (.int _)
     ·exact q1.elim
    ·exact q1.elim
   | _=>exact q1.elim
def yV (i j:Nat)(ga:En->R (List T)):En->RS:=λρ=>(ga ρ).s λts=>match ts with
 | [x,y]=> .nx ((ρ.set i (.vl x)).set j (.vl y))
 | _=> .bad
theorem z38 (hc:X.calm=true)(hN:X.N.Nodup)(hi:X.N[i]? =some x)(hj:X.N[j]? =some y)(hij:i ≠ j)(hx:X.env.scope.names.lookup x=some .local)(hy:X.env.scope.names.lookup y=some .local)
  (ha:uN X Y [a,b] ga) (hs:swappedStores [.Tuple [.Name x px,.Name y py] kt pt] (.Tuple [a,b] k2 pt2) X.env=pure (some [x,y])) (hw:swapsWithSole [.Tuple [.Name x px,.Name y py] kt pt] (.Tuple [a,b] k2 pt2) pos.line X.env=pure false:=by rfl):
  wz X Y (.Assign [.Tuple [.Name x px,.Name y py] kt pt] (.Tuple [a,b] k2 pt2) pos) (yV i j ga):= .mk λρ=>
 PS.imp (gL hc hN hi hj hij hx hy (ha ρ) hs hw) λD σ H ⟨B,I,q⟩=>jY I q λts vs H1 _ s1 r1 I1 q1=>by
  cases r1 with
  | nil=>exact q1.elim
  | cons r rr=>
   cases rr with
   | nil=>exact q1.elim
   | cons r' rr=>
    cases rr with
    | cons _ _=>exact q1.elim
    | nil=>exact⟨_,_,rfl,q1 _ _ _ (zt.refl _) ((I1.setV i r).setV j r')⟩
end
theorem ky:ZL CX0 X E:=λ_ _ _ _ _ _ _ h=>h.elim
section
theorem kz (hy:Y.cl=cl)(F:ww X.prog X.w X.K X.mg X.base CX0 j f fd ps (spP cl n g))(hr:jq k X.A)(hj:j<=k)(gl:Gl X x)
  (mg:X.mg x=some (.ref f)) (kp:bZ X.K (.ref f)=true) (bd:L2.Binds X.K fd ps []) (ha:uN X Y (a :: es) ga) (hd:(x == ("__debug__":Str))=false:=by decide)
  (hs:starEach (a :: es) X.env=(false,eval a X.env) :: starEach es X.env:=by exact zW rfl) (hz:((backTo pos (starEach es X.env)).any λx=>x.fst)=false:=by exact Zq rfl):Snd X Y (.Call (.Name x p) (a :: es) [] pos) (za n g ga):=by
 subst hy;exact xJ F (hr.mono hj) gl mg kp bd ky ha hd hs hz
theorem We (gl:Gl X x)(mg:X.mg x=some u)(hu:∃t,u=Value.int i t)(hd:(x == ("__debug__":Str))=false:=by decide):Snd X Y (.Name x pos) (cE (.int i)):= .mk λρ=>
 PE.imp (Yv (v:= .int i) gl mg hu hd) λσ H Q ⟨B,I,q⟩=>ZB I q (.int i)
end
noncomputable def z1y (scope sc0:Scope):Bool:=(scope.kind == .function) && scope.names.all (λx=>x.2 != .cell) && scope.names.all (λx=>x.2 != .local || scope.names.lookup x.1 == some .local) &&
 scope.names.all (λx=>x.2 != .free || sc0.names.lookup x.1 == some .cell || sc0.names.lookup x.1 == some .free)
theorem GS (sc0:Scope)(h0:X.env.scope=sc0)(h:z1y scope sc0=true):CSc X scope:=by
 unfold z1y at h;simp only[ac,aJ]at h;obtain⟨⟨⟨h1,h2⟩,h3⟩,h4⟩:=h;refine⟨eq_of_beq h1,λx hx=>by simpa using h2 x hx,λx hx hl=> ?_,λx hx hf=> ?_⟩
 ·have:=h3 x hx;rw[hl]at this;simpa using this
 ·have:=h4 x hx;rw[hf]at this;show X.env.scope.names.lookup x.1=_\/X.env.scope.names.lookup x.1=_;rw[h0];simpa using this
noncomputable def z1z (N N' :List Str)(scope sc0:Scope)(k:Nat)(js:List Nat):Bool:=(N'.length == k+js.length) && (aX js.length).all λi=>match js[i]? with
 | none=>true
 | some j=>match N'[k+i]?,N[j]? with
  | some x,some y=>(x == y) && (sc0.names.lookup x == some .cell || sc0.names.lookup x == some .free) && (scope.names.lookup x == some .free)
  | _,_=>false
theorem kA {js:List Nat}(N:List Str)(sc0:Scope)(hN:X.N=N)(h0:X.env.scope=sc0)(h:z1z N N' scope sc0 k js=true):z36 X scope N' k js:=by
 unfold z1z at h;simp only[ac,aJ]at h;obtain⟨h1,h2⟩:=h;refine⟨eq_of_beq h1,λi j e=> ?_⟩;have hi:=(au.mp e).1;have q:=h2 i (aZ.mpr hi);rw[e]at q;dsimp only at q;split at q
 ·rename_i x y e1 e2;simp only[ac,lb,beq_iff_eq]at q;obtain⟨⟨rfl,q2⟩,q3⟩:=q;refine⟨x,e1,by rw[hN];exact e2, ?_,q3, ?_⟩
  ·rw[h0];exact .inr q2
  ·show X.env.scope.names.lookup x=_\/X.env.scope.names.lookup x=_;rw[h0];exact q2
 ·cases q
theorem xR {js:List Nat}{g:T->En->R En}(N' :List Str)(N:List Str)(sc0:Scope)(hN:X.N=N)(h0:X.env.scope=sc0)
  (h:(z1y scope sc0 && z1z N N' scope sc0 k js)=true) (cm:X.calm=true) (it:uY X Y tg iter fi) (gt:xP X scope N' λXC=>PG XC tg tG) (gk:GOk tG g) (gn:GNo g) (tt:∀Y',Y'.cl=Y.cl->xP X scope N' λXC=>Wd XC Y' ifs ft)
  (el:∀Y',Y'.cl=Y.cl->GJ X scope N' Y'.E λXC=>Snd XC Y' elt fe) (hs:∀x,foldedSetIterable iter X.env x=pure x:=by intro _;rfl):wL X Y tg iter elt ifs scope N' k js fi tG g ft fe:=by
 rw[ac]at h;exact⟨GS sc0 h0 h.1,kA N sc0 hN h0 h.2,cm,it,gt,gk,gn,tt,el,hs⟩
end PV
namespace PV
open PySem PySem.Spec PyProof.Rows L2 PySem.W
section
theorem kB (hy:Y.cl=cl)(hp:ZL (CX1 X.prog X.w) X Y.E)(F:ww X.prog X.w X.K X.mg X.base (CX1 X.prog X.w) j f fd ps (spP cl n g))(hr:jq k X.A)(hj:j<=k)(gl:Gl X x)
  (mg:X.mg x=some (.ref f)) (kp:bZ X.K (.ref f)=true) (bd:L2.Binds X.K fd ps []) (ha:uN X Y (a :: es) ga) (hd:(x == ("__debug__":Str))=false:=by decide)
  (hs:starEach (a :: es) X.env=(false,eval a X.env) :: starEach es X.env:=by exact zW rfl) (hz:((backTo pos (starEach es X.env)).any λx=>x.fst)=false:=by exact Zq rfl):Snd X Y (.Call (.Name x p) (a :: es) [] pos) (za n g ga):=by
 subst hy;exact xJ F (hr.mono hj) gl mg kp bd hp ha hd hs hz
end
def u9 (c:Nat):En->RS:=λ_=> .ex c
section
variable {P:Program}{w:World}{K:ae}{mg:Str->Option Value}{base:Heap}{N:List Str}{qual:Str}{scope:Scope}{f:Addr}{cd:Value}{A:Around}{outer:List Env}{s:Shared}{H:Hp}{E:XK}{Y:Fx}
theorem Wf {x m:Str}{C:Addr}{bm bmN:List Value}{Bn Bb newId nid initId inN:String}{np cpos pos ap:Pos}{j c:Nat}(O:OwnCls x C bm newId mg base)(Fn:ExcBaseFacts Bn newId inN bmN)(hBn:bm.contains (.type Bn)=true)(FB:ExcBaseFacts Bb nid initId bm)
  (hY:Y.E=E) (hc:Y.cl c= .ref C) (hg:Gl (Jw (CX1 P w) P w K mg base N qual scope f cd A outer s H E) x) (hd:(x == ("__debug__":Str))=false:=by decide):
  wz (Jw (CX1 P w) P w K mg base N qual scope f cd A outer s H E) Y (.Raise (some (.Call (.Name x np) [.Constant (.str m) j ap] [] cpos)) none pos) (u9 c):= .mk λρ=>by
 subst hY;refine PS.imp (YS O Fn hBn FB hg ((xE Gf Gg:uN _ Y _ _) ρ) (zW rfl) hd) λD σ H1 ⟨B,I,q⟩=>⟨B,I,λvs H2 s2 r2=> ?_⟩;refine⟨?_, ?_⟩
 ·rw[r2.length];exact(by decide:1<=sizeLine)
 ·have:=q none H2 (I.sH.trans s2) (I.sB.trans s2);rw[hc]at this;exact this
theorem Fun.okX {x qual:Str}{st:Stmt}{f:Addr}{fd:FuncData}{N ps:List Str}{k:Nat}{sp:Sp}(F:Fun K x qual st f fd)(S:ja N ps (zj st))(len:∀vs H Q E,sp vs H Q E->vs.length=ps.length)
  (hbody:∀(cdv:Value) (A:Around) (outer:List Env) (s:Shared) (H:Hp) (vs:List V) (Q:VK) (E:XK),jq k (A.deeper (envOfC qual (zj st) s.heap.objs.size f cdv))->sp vs H Q E->
   ∃t,PSs (Jw (CX1 P w) P w K mg base N qual (zj st) f cdv A outer s H E) (Z4 st) t/\t { nx:=λ_ H' =>Q .non H',rt:=Q } (start N vs) H):ww P w K mg base (CX1 P w) (k+1) f fd ps sp:=by
 obtain⟨oc,od,kV,doc,pm,an,cdv,ct,osl,rfl,lk,hcd⟩:=F.ex;exact gY lk hcd S len λA outer s H vs Q E hr hsp=>hbody cdv A _ s H vs Q E hr hsp
theorem xS {cl:Nat->Value}{x qual:Str}{st:Stmt}{f:Addr}{fd:FuncData}{N ps:List Str}{k n:Nat}{fb:En->RS}{g:List T->R T}(F:Fun K x qual st f fd)(S:ja N ps (zj st))(hn:n=ps.length)
  (hb:∀(cdv:Value) (A:Around) (outer:List Env) (s:Shared) (H:Hp) (E:XK) (Y:Fx),Y.cl=cl->Y.E=E->jq k (A.deeper (envOfC qual (zj st) s.heap.objs.size f cdv))->
   wJ (Jw (CX1 P w) P w K mg base N qual (zj st) f cdv A outer s H E) Y (Z4 st) fb)
  (hg:∀ts,ts.length=n->g ts=zf (fb (en0 N.length ts))):ww P w K mg base (CX1 P w) (k+1) f fd ps (spP cl n g):=by
 subst hn;refine Fun.okX F S spP.len λcdv A outer s H vs Q E hr ⟨B,ts,hl,sB,r,q⟩=> ?_;refine⟨_,hb cdv A _ s H E ⟨B,H,E,cl,[]⟩ rfl rfl hr _,B,SI.start sB r, ?_⟩;rw[hg ts hl]at q;revert q;cases fb _ with
 | rt t=>exact λq v H' s r=>q v H' s r
 | rf t=>exact λq a xs H' B' s0 n e r _ l=>q _ H' s0 (.lst (by rw[Z5 n];exact e) (r.mono l))
 | nx ρ=>exact λq σ' H' B' s' I' =>q _ H' I'.sH .non
 | bk ρ=>exact λq=>q.elim
 | ct ρ=>exact λq=>q.elim
 | ex c=>exact λq=>q
 | bad=>exact λq=>q
end
def kC (k:Nat)(ok:Nat->Bool)(fb:En->RS):En->RS:=λρ=>match fb ρ with
 | .ex c=>if ok c=true then .nx ((af ρ.length Sl.un).set k (.xc c)) else .bad
 | r=>r
theorem SI.wish (I:SI Y B ρ σ H)(E:XK):SI { Y with E:=E } B ρ σ H:=⟨I.s0,I.sH,I.sB,I.old,I.len,I.vl,I.ow,I.xc,let ⟨as,O,x⟩:=I.st;⟨as,O,x.on (λ_ _ _ h=>⟨h,rfl⟩) (zt.refl _) rfl rfl (zt.refl _) λ_ _ h b0 h0 _=>⟨h,b0,h0,id⟩⟩⟩
theorem SI.unwish (I:SI { Y with E:=E } B ρ σ H):SI Y B ρ σ H:=⟨I.s0,I.sH,I.sB,I.old,I.len,I.vl,I.ow,I.xc,let ⟨as,O,x⟩:=I.st;⟨as,O,x.on (λ_ _ _ h=>⟨h,rfl⟩) (zt.refl _) rfl rfl (zt.refl _) λ_ _ h b0 h0 _=>⟨h,b0,h0,id⟩⟩⟩
theorem SI.caught (s0:zt Y.B0 Y.H0)(old:∀b o,Y.H0 b=some o->B b=Y.B0 b)(hH:zt Y.H0 H')(hB:zt B H')(he:H' ea=none)(hl:m=σ.length)(hk:σ[k]? =some (some (V.ref ea))):
  ∃B',zt B B' /\SI Y B' ((af m Sl.un).set k (.xc c)) σ (upd H' ea (.ext (yP (Y.cl c) ea))):=by
 have up:zt H' (upd H' ea (.ext (yP (Y.cl c) ea))):=zt.new he _;have h0:=hH.free he;refine⟨zQ _ _ (upd H' ea (.ext (yP (Y.cl c) ea))),λb o e=> ?_,⟨s0,hH.trans up,λb o e=> ?_,λb o e=>by rw[Z6 e],by rw[bu,aN,hl],λi t e=> ?_,λi ts e=> ?_,λi d e=> ?_,StI.no λi y hy e=> ?_⟩⟩
 ·cases q:Y.H0 b with
  | none=>rw[Z5 q];exact up b o (hB b o e)
  | some u=>rw[Z6 q,← old b u q];exact e
 ·cases q:Y.H0 b with
  | none=>rw[Z5 q]at e;exact e
  | some u=>rw[Z6 q]at e;exact up b o (hH b o (s0 b o e))
 ·rcases zy e with ⟨_,z⟩ | ⟨_,z⟩
  ·cases z
  ·rw[aF]at z;split at z <;> cases z
 ·rcases zy e with ⟨_,z⟩ | ⟨_,z⟩
  ·cases z
  ·rw[aF]at z;split at z <;> cases z
 ·rcases zy e with ⟨rfl,z⟩ | ⟨_,z⟩
  ·cases z;exact⟨ea,hk,by rw[Z5 h0,zD]⟩
  ·rw[aF]at z;split at z <;> cases z
 ·rcases zy e with ⟨_,z⟩ | ⟨_,z⟩
  ·subst z;cases hy
  ·rw[aF]at z;split at z
   ·cases z;cases hy
   ·cases z
theorem z39 {ok:Nat->Bool}
  (hX:X.stack=X.env :: X.outer) (hf:X.env.frame=some X.env.locals) (hN:X.N.Nodup)
  (hi:X.N[i]? =some n) (hl:X.env.scope.names.lookup n=some .local) (hk:X.N[k]? =some y) (hy:X.env.scope.names.lookup y=some .local) (hik:i ≠ k)
  (hg:Gl X c) (hm:X.mg c=some (.ref C)) (hok:∀c,ok c=true->exmOne X.K (Y.cl c) (.ref C)=some true)
  (hb:∀(E' :XK) (pn:List (Addr×Obj)) (xe:Value->Shared->Prop),ZL (CX1 X.prog X.w) (X.try' pn xe) E' ->wJ (X.try' pn xe) { Y with E:=E' } body fb)
  (hs:swapsWith (.Name n np) (some (.Name y yp)) apos.line X.env=pure false:=by rfl)
  (hdc:(c == ("__debug__":Str))=false:=by decide) (hdn:(n == ("__debug__":Str))=false:=by decide) (hcd:(n == ("__classdict__":Str))=false:=by decide):
  wz X Y (.Try body [.ExceptHandler (some (.Name c cp)) (some n) [.Assign [.Name y yp] (.Name n np) apos] hp] [] [] pos) (kC k ok fb):= .mk λρ=>by
 refine PS.imp (XR hX hf hN hi hl hk hy hg hm (λE' pn xe p=>hb E' pn xe p ρ) hs hdc hdn hcd) λD σ H ⟨B,I,q⟩=> ?_;refine⟨λcls _ H' =>zt Y.H0 H' /\zt B H' /\∃c,cls=Y.cl c/\ok c=true/\PoS Y B (.nx ((af ρ.length Sl.un).set k (.xc c))) D,λcls d H' ea σ' ⟨s1,s2,c,e1,e2,q1⟩=> ?_,B,I.wish _, ?_⟩
 ·subst e1;refine⟨hok c e2,λhe hl' hX' => ?_⟩;have hkl:k < σ'.length:=by rw[hl',hX'];exact(au.mp hk).1
  have hlen:ρ.length=((((σ'.set i (some (V.ref ea))).set k (some (V.ref ea))).set i none)).length:=by
   rw[bu,bu,bu,hl',I.len]
  obtain⟨B',b1,b2⟩:=SI.caught I.s0 I.old s1 s2 he hlen (by
   rw[aH hik,aW (by rw[bu];exact hkl)])
  exact q1 _ _ B' b1 b2
 ·unfold kC at q;cases e:fb ρ with
  | nx ρ' =>rw[e]at q;exact λσ' H' B' s' I' =>q σ' H' B' s' I'.unwish
  | rt t=>rw[e]at q;exact q
  | rf t=>rw[e]at q;exact q
  | bk ρ' =>rw[e]at q;exact λσ' H' B' s' I' =>q σ' H' B' s' I'.unwish
  | ct ρ' =>rw[e]at q;exact λσ' H' B' s' I' =>q σ' H' B' s' I'.unwish
  | bad=>rw[e]at q;exact q
  | ex c=>
   rw[e]at q;dsimp only at q;split at q
   ·rename_i hc;exact λd H' s1 s2=>⟨s1,s2,c,rfl,hc,q⟩
   ·exact q.elim
end PV
namespace PySem.W
open PySem PySem.Calls PyProof.Rows PySem.Spec Builtin Builtin.ObjectAttr Builtin.Getset_descriptor
section
variable {prog:Program}{w:World}{A:Around}{E:Value->Shared->Prop}{s:Shared}{K:Frag}{x C:Addr}
theorem ua {tp:Value}{R:Result->Shared->Prop}(X:K.In s.heap)(L0:Looks (model prog w) s.heap (typeOf (.ref x)) (.ref C))(hm:mroIn K C (.type "object")=some true)
  (h:R (.ok (.ret (.ref C))) s):codeAny (model prog w) A (.call (.builtin "getset_descriptor.__get__") ⟨[.builtin "object.__class__",.ref x,tp],[]⟩) R s:=by
 have L1:=looks_mroIn (M:=model prog w) X hm;refine codeAny_call_builtin KF.slot_gs.plain KF.entry_gs (KF.slot_gs.check _ _ _ _ _ _ _ _ KF.type_class (KF.args_gs _ _ _) ?_);refine a7 (ar ?_);unfold descrGetter descrCheckInstance descrNameAndClass isInstance;simp only[KF.owner_class]
 repeat lk
 refine⟨i7 _ (by decide+kernel),bS KF.entry_class ?_⟩
 repeat lk
 exact h
theorem kD {M:Model}{h:Heap}(X:K.In h)(ha:findIn K (.ref C) "__class__"=some (some (.builtin "object.__class__")))(hn:specialIn K (.builtin "object.__class__") "__get__"=some (some (.builtin "getset_descriptor.__get__")))
  (htk:takesIn K (.builtin "object.__class__")=some true):Looks M h (find (.ref x) (.ref C) "__class__") (.bind (.builtin "getset_descriptor.__get__") (.builtin "object.__class__")):=by
 have L1:=looks_findIn (M:=M) X ha;have L2:Looks M h _ _:=looks_specialIn X hn;have L3:=looks_takesIn (M:=M) X htk;refine L1.andThen (L2.andThen ?_);exact(show Looks M h (dataDescriptor? (some _) (some _)) _ from L3.andThen .now).andThen (Looks.tag .now)
theorem Vl {Q:Unit->Shared->Prop}(L0:Looks M s.heap (typeOf (.ref x)) (.ref C))(L1:Looks M s.heap (isSubtype (.ref C) (.type "BaseException")) true)(hq:Q () s):wpAny M A (checkBuiltinCall "BaseException.__getattribute__" ⟨[.ref x,nameV],[]⟩) Q E s:=by
 have hk:builtinKind "BaseException.__getattribute__"=some .slot:=by decide+kernel
 have hsplit:splitId "BaseException.__getattribute__"=some ("BaseException","__getattribute__"):=by decide+kernel
 simp only[checkBuiltinCall,hk,hsplit]
 repeat (first | lk | wp_step)
 exact hq
end
end PySem.W
namespace PySem.W
open PySem PySem.Calls PyProof.Rows PySem.Spec Builtin Builtin.ObjectAttr Builtin.Getset_descriptor
section
variable {prog:Program}{w:World}{A:Around}{E:Value->Shared->Prop}{s:Shared}{K:Frag}{x C:Addr}
structure XCls (K:Frag) (C:Addr):Prop where
 ga:findIn K (.ref C) "__getattribute__"=some (some (.builtin "BaseException.__getattribute__"))
 gt:findIn K (.ref C) "__getattr__"=some none
 ca:findIn K (.ref C) "__class__"=some (some (.builtin "object.__class__"))
 sp:specialIn K (.builtin "object.__class__") "__get__"=some (some (.builtin "getset_descriptor.__get__"))
 tk:takesIn K (.builtin "object.__class__")=some true
 ob:mroIn K C (.type "object")=some true
 be:mroIn K C (.type "BaseException")=some true
 cl:(clsIn K C).isSome=true
theorem Vm {tk:Tok}{Q:Fin->Shared->Prop}(X:K.In s.heap)(c:XCls K C)(L0:Looks (model prog w) s.heap (typeOf (.ref x)) (.ref C))(hq:Q (.done (.ret (.ref C))) s):
  wpAny (model prog w) A (Builtin.«object.__getattribute__» ⟨[.ref x,.str "__class__" tk],[]⟩) Q E s:=by
 have L1:=kD (M:=model prog w) (x:=x) X c.ca c.sp c.tk;refine a7 (ar (a7 (ar (a7 (L0.at (a7 (L1.at ?_)))))));refine a7 (wpAny_call (ua X L0 c.ob ?_));exact ar hq
end
end PySem.W
namespace PySem.W
open PySem PySem.Calls PyProof.Rows PySem.Spec Builtin Builtin.ObjectAttr Builtin.Getset_descriptor
section
variable {prog:Program}{w:World}{A:Around}{E:Value->Shared->Prop}{s:Shared}{K:Frag}{x C:Addr}
theorem Vn {Q:Option Value->Shared->Prop}(X:K.In s.heap)(c:XCls K C)(L0:Looks (model prog w) s.heap (typeOf (.ref x)) (.ref C))(h:Q (some (.ref C)) { s with toks:=s.toks+1 }):wpAny (model prog w) A (getAttr? (.ref x) "__class__") Q E s:=by
 have L1:=looks_findIn (M:=model prog w) X c.ga;have L2:=looks_findIn (M:=model prog w) X c.gt;have L3:=looks_mroIn (M:=model prog w) X c.be;have fb:=f7.ga.bind (.ref x);refine a7 (wpAny_mkText (a7 (c_ (ck (a7 (L0.at (a7 (L1.at ?_))))))));refine a7 ?_;refine L2.at ?_;refine a7 (c_ (ck ?_));unfold callGetattribute;unfold boundAndCalled;rw[fb];refine wpAny_call (codeAny_call_builtin f7.ga.plain PySem.F.entry_bexc_ga (Vl L0 L3 (Vm X c L0 ?_)));exact handed_on rfl (ar h)
theorem kE (c:XCls K C):KitX K (.ref x) (.ref C) (λh=>∃o,h.get? x=some o/\o.cls= .ref C) where
 ty:=λM h _ ⟨o,h1,h2⟩=>h2 ▸ (Looks.ld h1).andThen .now
 it:=λ_ _ X _=>by
  obtain⟨cdD,hcD⟩:=dj.mp c.cl;unfold clsIn at hcD;split at hcD
  ·rename_i c' d' cd' sl' ho;intro A' Q' E' s' k q;unfold isType loadHead;exact a7 (wpAny_loadPart (k _ _ (X _ _ ho)) (ar q))
  ·cases hcD
 ne:=λh tp dd its n sl X htp=>by
  obtain⟨cdD,hcD⟩:=dj.mp c.cl;refine iw.mpr λq=> ?_;have e:C=tp:=Value.ref.inj (beq_iff_eq.mp q);subst e;unfold clsIn at hcD;split at hcD
  ·rename_i c' d' cd' sl' ho;have z:=(X _ _ ho).symm.trans htp;cases z
  ·cases hcD
 ca:=λ{prog w A E Q s} X ⟨o,h1,h2⟩ k=>Vn X c (h2 ▸ (Looks.ld h1).andThen .now) k
end
end PySem.W
namespace PV
open PySem PySem.Spec PyProof.Rows L2 PySem.W
section
def JQ (i:Nat)(ok tab:Nat->Bool):En->R T:=λρ=>match ρ[i]? with
 | some (.xc c)=>if ok c=true then .ok (.bl (tab c)) else .bad
 | _=> .bad
theorem ub:Zk X (.builtin "isinstance") (λxs H Q=>∃a C v b,xs=[.ref a,v]/\H a=some (.ext (yP (.ref C) a))/\XCls X.K C/\(∀u,RelV v u->kitOne X.K (.ref C) u=some b)/\Q (.bl b) H):=by
 intro pins s σ H xs us Q I rv h;obtain⟨a,C,v,b,rfl,e,c,hk,q⟩:=h;obtain⟨u,w,rfl,ru,rw'⟩:=yL rv;obtain rfl:u=Value.ref a:=ru;obtain⟨hx,_,_⟩:=(show Z1 _ X.w H _ a _ from I.hok a _ e);exact kia_one (kE c) I.kIn hx (hk w rw') (λz=>nomatch z) λtk=>⟨.bl _,H,I.tok tk,rfl,q⟩
structure XK1 (K:Frag) (cl:Nat->Value) (ok:Nat->Bool):Prop where
 at_:∀c,ok c=true->∃C,cl c= .ref C/\XCls K C
theorem jZ {ok tab:Nat->Bool}(hK:XK1 X.K Y.cl ok)(ht:∀c,ok c=true->kitOne X.K (Y.cl c) (.ref C)=some (tab c))(gl:Gl X "isinstance")(mg:X.mg "isinstance"=none)(hv:PE X (.Name y yp) (Uz i))(gl' :Gl X cn)(mg' :X.mg cn=some (.ref C))
  (hd:(cn == ("__debug__":Str))=false:=by decide):Snd X Y (.Call (.Name "isinstance" p) [.Name y yp,.Name cn cp] [] pos) (JQ i ok tab):= .mk λρ=>
 PE.imp (j0 ub gl mg PyProof.Rows.Boot.«isinstance» (zv hv (zv (Yv (v:= .ref C) gl' mg' rfl hd) zP (st1 rfl)) (st2 rfl rfl)) (by decide) (by decide) (by rw[st2 rfl rfl,st1 rfl]) (Zq rfl)) λσ H Q ⟨B,I,q⟩=>by
  unfold JQ at q;split at q
  ·rename_i c e;split at q
   ·rename_i hc;obtain⟨a,e1,r⟩:=I.xc i c e;obtain⟨Cc,e2,xc⟩:=hK.at_ c hc;have ht' :=ht c hc;rw[e2]at r ht';exact⟨_,e1,a,Cc,_,_,rfl,I.sB a _ r,xc,λu ru=>by obtain rfl:u=Value.ref C:=ru;exact ht',ZB I q (.bl _)⟩
   ·exact q.elim
  ·exact q.elim
theorem kF {ok tab:Nat->Bool}(hK:XK1 X.K Y.cl ok)(ht:∀c,ok c=true->kitOne X.K (Y.cl c) (.type n)=some (tab c))(gl:Gl X "isinstance")(mg:X.mg "isinstance"=none)(hv:PE X (.Name y yp) (Uz i))(gl' :Gl X (bf n))(mg' :X.mg (bf n)=none)
  (bt:bootBuiltins (bf n)=some (.type n)) (hn:bf n ≠ "__name__":=by decide) (hd:(bf n == ("__debug__":Str))=false:=by decide):Snd X Y (.Call (.Name "isinstance" p) [.Name y yp,.Name (bf n) cp] [] pos) (JQ i ok tab):= .mk λρ=>
 PE.imp (j0 ub gl mg PyProof.Rows.Boot.«isinstance» (zv hv (zv (Yw (v:= .ty n) gl' mg' bt rfl hn hd) zP (st1 rfl)) (st2 rfl rfl)) (by decide) (by decide) (by rw[st2 rfl rfl,st1 rfl]) (Zq rfl)) λσ H Q ⟨B,I,q⟩=>by
  unfold JQ at q;split at q
  ·rename_i c e;split at q
   ·rename_i hc;obtain⟨a,e1,r⟩:=I.xc i c e;obtain⟨Cc,e2,xc⟩:=hK.at_ c hc;have ht' :=ht c hc;rw[e2]at r ht';exact⟨_,e1,a,Cc,_,_,rfl,I.sB a _ r,xc,λu ru=>by obtain rfl:u=Value.type n:=ru;exact ht',ZB I q (.bl _)⟩
   ·exact q.elim
  ·exact q.elim
def z3a (i:Nat):En->R Bool:=λρ=>match ρ[i]? with
 | some (.xc _)=> .ok false
 | some (.vl t)=>vI t .non
 | _=> .bad
theorem GT:OpR X (compareOp .Is) (λx y H Q=>y= .non/\((∃a,x= .ref a/\Q (.bl false) H)\/∃t b,Rep H x t/\vI t .non= .ok b/\Q (.bl b) H)):=by
 intro pins s σ H x y v u Q I rx ry h;obtain⟨rfl,h⟩:=h;rcases h with ⟨a,rfl,q⟩ | ⟨t,b,r,e,q⟩
 ·obtain rfl:u=Value.none:=ry;obtain rfl:v=Value.ref a:=rx;exact wpAny_is_plain rfl ⟨.bl _,H,I,rfl,q⟩
 ·exact Gr _ s σ H x _ v u Q I rx ry ⟨t,.non,b,r,.non,e,q⟩
theorem GU (hv:PE X (.Name y yp) (Uz i)):WK X Y (.Compare (.Name y yp) [.Is] [.Constant .none j p'] pos) (z3a i):= .mk λρ=>
 PT.imp (YF GT hv xy (by rfl)) λσ H Q ⟨B,I,q⟩=>by
  unfold z3a at q;split at q
  ·rename_i c e;obtain⟨a,e1,r⟩:=I.xc i c e;exact⟨_,e1,rfl,.inl ⟨a,rfl,false,rfl,ZB I q rfl⟩⟩
  ·rename_i t e;obtain⟨v,e1,r⟩:=I.vl i t e;refine⟨v,e1,rfl,.inr ?_⟩;cases ek:vI t _ with
   | bad=>rw[ek]at q;exact q.elim
   | ex c=>exact absurd ek (Gq _ _ _)
   | ok b=>rw[ek]at q;exact⟨t,b,r.mono I.sB,ek,b,rfl,ZB I q rfl⟩
  ·exact q.elim
def spC (cl:Nat->Value)(gx:Nat->R T):Sp:=λvs H Q E=>∃B a c,vs=[V.ref a]/\zt B H/\B a=some (.ext (yP (cl c) a))/\Po ⟨B,H,E,cl,[]⟩ rC B H (gx c) Q
def kG (i:Nat)(gx:Nat->R T):En->R T:=λρ=>match ρ[i]? with
 | some (.xc c)=>gx c
 | _=> .bad
theorem kH {gx:Nat->R T}(hy:Y.cl=cl)(F:ww X.prog X.w X.K X.mg X.base CX0 j f fd ps (spC cl gx))(hr:jq k X.A)(hj:j<=k)(gl:Gl X x)
  (mg:X.mg x=some (.ref f)) (kp:bZ X.K (.ref f)=true) (bd:L2.Binds X.K fd ps []) (hv:PE X (.Name y yp) (Uz i)) (hd:(x == ("__debug__":Str))=false:=by decide):Snd X Y (.Call (.Name x p) [.Name y yp] [] pos) (kG i gx):= .mk λρ=>
 PE.imp (uS F (hr.mono hj) gl mg kp bd .nil (ky) (zv hv zP (st1 rfl)) hd (st1 rfl) rfl) λσ H Q ⟨B,I,q⟩=>by
  subst hy;unfold kG at q;split at q
  ·rename_i c e;obtain⟨a,e1,r⟩:=I.xc i c e;refine⟨_,e1,B,a,c,rfl,I.sB,r, ?_⟩;revert q;cases gx c with
   | bad=>exact λq=>q
   | ex c=>exact λq d H' s sB=>q d H' (I.sH.trans s) sB
   | ok t=>exact λq=>q
  ·exact q.elim
end
section
variable {P:Program}{w:World}{K:ae}{mg:Str->Option Value}{base:Heap}
def enC (n c:Nat):En:= .xc c :: af (n - 1) .un
theorem SI.startC (s:zt Y.B0 Y.H0)(hN:1<=N.length)(r:Y.B0 a=some (.ext (yP (Y.cl c) a))):SI Y Y.B0 (enC N.length c) (L2.start N [V.ref a]) Y.H0 where
 s0:=s
 sH:=zt.refl _
 sB:=s
 old:=λ_ _ _=>rfl
 len:=by unfold enC L2.start;simp
 vl:=λi t h=>by
  unfold enC at h;cases i with
  | zero=>cases h
  | succ i=>rw[cL,aF]at h;split at h <;> cases h
 ow:=λi t h=>by
  unfold enC at h;cases i with
  | zero=>cases h
  | succ i=>rw[cL,aF]at h;split at h <;> cases h
 xc:=λi d h=>by
  unfold enC at h;cases i with
  | zero=>
   cases h;exact⟨a,by unfold L2.start;rfl,r⟩
  | succ i=>rw[cL,aF]at h;split at h <;> cases h
 st:=StI.no λi y hy h=>by
  unfold enC at h;cases i with
  | zero=>cases h;cases hy
  | succ i=>
   rw[cL,aF]at h;split at h
   ·cases h;cases hy
   ·cases h
theorem GV {cl:Nat->Value}{x qual q:Str}{st:Stmt}{f:Addr}{fd:FuncData}{N:List Str}{k:Nat}{fb:En->RS}{gx:Nat->R T}(F:Fun K x qual st f fd)(S:ja N [q] (zj st))(hN:1<=N.length)
  (hb:∀(cdv:Value) (A:Around) (outer:List Env) (s:Shared) (H:Hp) (E:XK) (Y:Fx),Y.cl=cl->jq k (A.deeper (envOfC qual (zj st) s.heap.objs.size f cdv))->
   wJ (Jw CX0 P w K mg base N qual (zj st) f cdv A outer s H E).nox Y (Z4 st) fb)
  (hg:∀c,gx c=zf (fb (enC N.length c))):ww P w K mg base CX0 (k+1) f fd [q] (spC cl gx):=by
 refine F.ok S (λvs H Q E ⟨_,_,_,e,_⟩=>by rw[e];rfl) λcdv A outer s H vs Q E hr ⟨B,a,c,e,sB,r,q⟩=> ?_
 subst e;refine⟨_,hb cdv A _ s H E ⟨B,H,E,cl,[]⟩ rfl hr _,B,SI.startC sB hN r, ?_⟩;rw[hg c]at q;revert q;cases fb _ with
 | rt t=>exact λq v H' s r=>q v H' s r
 | rf t=>exact λq a xs H' B' s0 n e r _ l=>q _ H' s0 (.lst (by rw[Z5 n];exact e) (r.mono l))
 | nx ρ=>exact λq σ' H' B' _ I=>q _ H' I.sH .non
 | ex c=>exact λq=>q
 | bk ρ=>exact λq=>q.elim
 | ct ρ=>exact λq=>q.elim
 | bad=>exact λq=>q
end
end PV
namespace PySem.ZG
open PySem PySem.Spec PySem.Builtin.SmallTypes
structure U0 (i:Addr) (fp:List Addr) (v:Nat->Option Value) (St:Nat->Heap->Prop):Prop where
 mem:i∈fp
 item:∀{prog:Program} {w:World} {A:Around} {E:Value->Shared->Prop} {s:Shared} {Q:Value->Shared->Prop} {k:Nat} {x:Value},St k s.heap->v k=some x->(∀h',St (k+1) h' ->cP i s.heap h' ->Q x { s with heap:=h' })->wpAny (model prog w) A (nextOf (.ref i)) Q E s
 stop:∀{prog:Program} {w:World} {A:Around} {E:Value->Shared->Prop} {s:Shared} {Q:Value->Shared->Prop} {k:Nat},A.handled=none->St k s.heap->v k=none->(∀h' e,fS i s.heap h' ->(∃o,h'.get? e=some o/\o.cls= .type "StopIteration")->E (.ref e) { s with heap:=h' })->wpAny (model prog w) A (nextOf (.ref i)) Q E s
 keep:∀{k:Nat} {h h' :Heap},St k h->(∀b∈fp,∀o,h.get? b=some o->h'.get? b=some o)->St k h'
 there:∀{k:Nat} {h:Heap},St k h->∀b∈fp,∃o,h.get? b=some o
theorem U0.but {v:Nat->Option Value}{St:Nat->Heap->Prop}(N:U0 i fp v St)(x:St k h)(e:fS b h h')(n:b ∉ fp):St k h' :=
 N.keep x λc hc o q=>e c o (λz=>n (z ▸ hc)) q
theorem kI (hil:l ≠ i)(xs:Array Value):U0 i [i,l] (λk=>xs[k]?) (λk h=>h.IsListIter i l k/\h.IsList l xs) where
 mem:= .head _
 item:=λst hx h=>wpAny_nextOf_list_item st.1 st.2 hx λh' a b=>h h' ⟨a,st.2.extBut b.extBut hil⟩ b
 stop:=λhh st hx h=>wpAny_nextOf_list_end hh st.1 st.2 hx h
 keep:=λst k=>⟨st.1.at λo e=>k i (.head _) o e,st.2.at λo e=>k l (.tail _ (.head _)) o e⟩
 there:=λst b hb=>by
  obtain⟨⟨o,e,_⟩,o2,e2,_⟩:=st;rcases ak.mp hb with z | hb
  ·exact⟨o,z ▸ e⟩
  ·exact⟨o2,(aG.mp hb) ▸ e2⟩
end PySem.ZG
namespace PySem.ZG
open PySem PySem.Spec PySem.Builtin.SmallTypes
section
theorem UL (hit:s.heap.IsTupleIter it l k)(h:wpAny (model prog w) A.in1 (Builtin.«tuple_iterator.__next__» ⟨[.ref it],[]⟩) (λfin s' =>∃v,fin= .done (.ret v)/\Q v s') E s):wpAny (model prog w) A (nextOf (.ref it)) Q E s:=by
 exact a7 (bz hit.typeIs dH (bV dH hit.typeIs PySem.F.entry_tuple_iterator_next
  (c7 h (λfin s' ⟨v,e,q⟩=>⟨v,e,ar q⟩) λ_ _ z=>z) (PySem.F.args_tuple_iterator_next_1 _)))
theorem tup_item (hit:s.heap.IsTupleIter it l k)(ht:s.heap.IsTuple l xs)(hx:xs[k]? =some x)(h:∀h',h'.IsTupleIter it l (k+1)->cP it s.heap h' ->Q x { s with heap:=h' }):wpAny (model prog w) A (nextOf (.ref it)) Q E s:=by
 refine UL hit ?_;obtain⟨o,ho,hc,hd⟩:=id hit;obtain⟨ol,hol,_,nl,hdl⟩:=ht;refine a7 (m:=field _ 0) (bn ho hd rfl ?_);refine a7 (bn ho hd rfl (a7 (b_ hol hdl ?_)));simp only[aY,hx];have g:=Heap.get?_update_self (Obj.mapFields (·.setIfInBounds 1 (rawInt (k+1)))) ho (Obj.isFreed_of_fields (i8 hd _));refine a7 (wpAny_setField ho hd (by simp) (ar ⟨x,rfl,h _ ⟨_,g,(Obj.cls_mapFields ..).trans hc, ?_⟩ (fZ ..)⟩))
 rw[i8 hd];simp[rawInt]
theorem tup_stop (hh:A.handled=none)(hit:s.heap.IsTupleIter it l k)(ht:s.heap.IsTuple l xs)(hx:xs[k]? =none)
  (h:∀h' e,fS it s.heap h' ->(∃o,h'.get? e=some o/\o.cls= .type "StopIteration")->E (.ref e) { s with heap:=h' }):wpAny (model prog w) A (nextOf (.ref it)) Q E s:=by
 refine UL hit ?_;obtain⟨o,ho,hc,hd⟩:=id hit;obtain⟨ol,hol,_,nl,hdl⟩:=ht;refine a7 (m:=field _ 0) (bn ho hd rfl ?_);refine a7 (bn ho hd rfl (a7 (b_ hol hdl ?_)));simp only[aY,hx];refine a7 (dL (a7 (wpAny_setField ho hd (by simp) (a7 ?_))))
 refine a7 (bv (a7 (cD (by first | rfl | (simp only[firstArgMember])) (bv ?_ (by size_fits)))) (by size_fits))
 refine a7 (wpAny_handled ?_);rw[hh];exact a7 (ar (wpAny_throw (h _ _ (((fZ ..).extBut.push _).push _) ⟨_,aj _ rfl,rfl⟩)))
end
theorem nx_tup (hil:l ≠ i)(xs:Array Value):U0 i [i,l] (λk=>xs[k]?) (λk h=>h.IsTupleIter i l k/\h.IsTuple l xs) where
 mem:= .head _
 item:=λst hx h=>tup_item st.1 st.2 hx λh' a b=>h h' ⟨a,st.2.extBut b.extBut hil⟩ b
 stop:=λhh st hx h=>tup_stop hh st.1 st.2 hx h
 keep:=λst k=>by
  obtain⟨⟨o,e,r⟩,o2,e2,r2⟩:=st;exact⟨⟨o,k i (.head _) o e,r⟩,o2,k l (.tail _ (.head _)) o2 e2,r2⟩
 there:=λst b hb=>by
  obtain⟨⟨o,e,_⟩,o2,e2,_⟩:=st;rcases ak.mp hb with z | hb
  ·exact⟨o,z ▸ e⟩
  ·exact⟨o2,(aG.mp hb) ▸ e2⟩
end PySem.ZG
namespace PySem.ZG
open PySem PySem.Spec PySem.Builtin.SmallTypes
structure Ap (z TI TO i1 i2:Addr) (fp1 fp2:List Addr):Prop where
 Iz:TI ≠ z
 Oz:TO ≠ z
 IO:TI ≠ TO
 I1:TI ≠ i1
 I2:TI ≠ i2
 z1:z ∉ fp1
 z2:z ∉ fp2
 O1:TO ∉ fp1
 O2:TO ∉ fp2
 a:i1 ∉ fp2
 b:i2 ∉ fp1
section
variable {v1 v2:Nat->Option Value}{S1 S2:Nat->Heap->Prop}
theorem Ap.ne1 (D:Ap z TI TO i1 i2 fp1 fp2)(N1:U0 i1 fp1 v1 S1):i1 ≠ z/\i1 ≠ TO:=⟨λe=>D.z1 (e ▸ N1.mem),λe=>D.O1 (e ▸ N1.mem)⟩
theorem Ap.ne2 (D:Ap z TI TO i1 i2 fp1 fp2)(N2:U0 i2 fp2 v2 S2):i2 ≠ z/\i2 ≠ TO:=⟨λe=>D.z2 (e ▸ N2.mem),λe=>D.O2 (e ▸ N2.mem)⟩
theorem kJ {Q:Value->Shared->Prop}(N1:U0 i1 fp1 v1 S1)(N2:U0 i2 fp2 v2 S2)(D:Ap z TI TO i1 i2 fp1 fp2)(hz:IsZip s.heap z TI TO .none)(hTI:IsPair s.heap TI (.ref i1) (.ref i2))(hTO:IsPair s.heap TO a b)(p1:S1 k s.heap)(p2:S2 k s.heap)(hx:v1 k=some x)(hy:v2 k=some y)
  (hQ:∀h',IsZip h' z TI TO (rawInt s.heap.objs.size)->IsPair h' TO x y->S1 (k+1) h' ->S2 (k+1) h' ->IsPair h' s.heap.objs.size x y->
   (∀c o,c ≠ z->c ≠ TO->c ≠ i1->c ≠ i2->s.heap.get? c=some o->h'.get? c=some o)->Q (.ref s.heap.objs.size) { s with heap:=h' }):
  wpAny (model prog w) A (Builtin.«zip.__next__» ⟨[.ref z],[]⟩) (λfin s' =>∃v,fin= .done (.ret v)/\Q v s') E s:=by
 refine a7 (m:=field (.ref z) 2) (bn hz rfl (x:= .bool false) rfl (a7 (bn hz rfl (x:= .ref TI) rfl (a7 (b_ hTI rfl ?_)))));refine a7 ?_;refine a7 (bn hz rfl (x:= .none) rfl (ar ?_));refine a7 (dL (a7 (bn hz rfl (x:= .ref TO) rfl (a7 (bG hz (by simp) λg1 z1 e1=> ?_)))))
 replace z1:=z1
 refine a7 ?_;refine a7 (a7 (wpAny_onRaise (a7 (N1.item (N1.but p1 e1.extBut D.z1) hx λg2 q1 e2=>ar ?_))));have t2:IsPair g2 TO a b:=e2.extBut _ _ (D.ne1 N1).2.symm (e1.extBut _ _ D.Oz hTO);refine a7 (b_ t2 rfl (a7 (wpAny_updateSeq_pair t2 λg3 t3 e3=> ?_)));refine a7 (wpAny_letGo (ar ?_));refine a7 (a7 (wpAny_onRaise (a7 (N2.item (N2.but (N2.but (N2.but p2 e1.extBut D.z2) e2.extBut D.a) e3.extBut D.O2) hy λg4 q2 e4=>ar ?_))));have t4:IsPair g4 TO x b:=e4.extBut _ _ (D.ne2 N2).2.symm t3;refine a7 (b_ t4 rfl (a7 (wpAny_updateSeq_pair t4 λg5 t5 e5=> ?_)))
 replace t5:IsPair g5 TO x y:=t5
 refine a7 (wpAny_letGo (ar (ar ?_)));refine a7 (b_ t5 rfl (a7 (wpAny_newTuple ?_)));have sz:g5.objs.size=s.heap.objs.size:=by rw[e5.1,e4.1,e3.1,e2.1,e1.1]
 have z5:=e5.extBut _ _ D.Oz.symm (e4.extBut _ _ (D.ne2 N2).1.symm (e3.extBut _ _ D.Oz.symm (e2.extBut _ _ (D.ne1 N1).1.symm z1)));have k5:∀c o,c ≠ z->c ≠ TO->c ≠ i1->c ≠ i2->s.heap.get? c=some o->g5.get? c=some o:=λc o c1 c2 c3 c4 e=>
  e5.extBut _ _ c2 (e4.extBut _ _ c4 (e3.extBut _ _ c2 (e2.extBut _ _ c3 (e1.extBut _ _ c1 e))))
 have r1:S1 (k+1) g5:=N1.but (N1.but (N1.but q1 e3.extBut D.O1) e4.extBut D.b) e5.extBut D.O1;have r2:S2 (k+1) g5:=N2.but q2 e5.extBut D.O2;refine a7 ?_;have z6:IsZip (g5.push { cls:= .type "tuple",data:= .seq #[x,y] }) z TI TO _:=ag _ z5;refine a7 (bG z6 (by simp) λg7 z7 e7=> ?_)
 refine bG z7 (by simp) λg8 z8 e8=> ?_
 have up:∀c o,c ≠ z->g5.get? c=some o->g8.get? c=some o:=λc o c1 e=>e8.extBut _ _ c1 (e7.extBut _ _ c1 (ag _ e));have hn:g5.objs.size ≠ z:=dU (aq z5);have t8:=e8.extBut _ _ hn (e7.extBut _ _ hn (aj _ rfl));rw[sz]at z8 t8;refine ar ⟨_,rfl, ?_⟩;rw[sz];exact hQ g8 z8 (up _ _ D.Oz t5) (N1.keep r1 λc hc o e=>up c o (λq=>D.z1 (q ▸ hc)) e) (N2.keep r2 λc hc o e=>up c o (λq=>D.z2 (q ▸ hc)) e) t8 λc o c1 c2 c3 c4 e=>up c o c1 (k5 c o c1 c2 c3 c4 e)
theorem kK {Q:Fin->Shared->Prop}(hh:A.handled=none)(N1:U0 i1 fp1 v1 S1)(N2:U0 i2 fp2 v2 S2)(D:Ap z TI TO i1 i2 fp1 fp2)(hz:IsZip s.heap z TI TO .none)(hTI:IsPair s.heap TI (.ref i1) (.ref i2))(hTO:IsPair s.heap TO a b)(p1:S1 k s.heap)(p2:S2 k s.heap)(hend:v1 k=none\/v2 k=none)
  (hE:∀h' e,(∀c o,c ≠ z->c ≠ TO->c ≠ i1->c ≠ i2->s.heap.get? c=some o->h'.get? c=some o)->(∃o,h'.get? e=some o/\o.cls= .type "StopIteration")->E (.ref e) { s with heap:=h' }):
  wpAny (model prog w) A (Builtin.«zip.__next__» ⟨[.ref z],[]⟩) Q E s:=by
 refine a7 (m:=field (.ref z) 2) (bn hz rfl (x:= .bool false) rfl (a7 (bn hz rfl (x:= .ref TI) rfl (a7 (b_ hTI rfl ?_)))));refine a7 ?_;refine a7 (bn hz rfl (x:= .none) rfl (ar ?_));simp only[if_true];refine a7 (dL (a7 (bn hz rfl (x:= .ref TO) rfl (a7 (bG hz (by simp) λg1 z1 e1=> ?_)))))
 replace z1:=z1
 refine a7 ?_;have off:∀{g:Heap} {e:Addr} {oe:Obj},IsZip g z TI TO .ellipsis->g.get? e=some oe->oe.cls= .type "StopIteration"->e ≠ z:=λhg he hc q=>by
  subst q;rw[hg]at he;cases he;simp at hc
 cases hx:v1 k with
 | none=>
  refine a7 (a7 (wpAny_onRaise (a7 (N1.stop hh (N1.but p1 e1.extBut D.z1) hx λg2 e e2 he=> ?_))));obtain⟨oe,ho,hc⟩:=he;have z2:=e2 _ _ (D.ne1 N1).1.symm z1;exact bG z2 (by simp) λg3 _ e3=>hE g3 e (λc o c1 _ c3 _ q=>e3.extBut _ _ c1 (e2 _ _ c3 (e1.extBut _ _ c1 q))) ⟨oe,e3.extBut _ _ (off z2 ho hc) ho,hc⟩
 | some x=>
  have hy:v2 k=none:=by
   rcases hend with q | q
   ·rw[hx]at q;cases q
   ·exact q
  refine a7 (a7 (wpAny_onRaise (a7 (N1.item (N1.but p1 e1.extBut D.z1) hx λg2 q1 e2=>ar ?_))));have t2:=e2.extBut _ _ (D.ne1 N1).2.symm (e1.extBut _ _ D.Oz hTO);refine a7 (b_ t2 rfl (a7 (wpAny_updateSeq_pair t2 λg3 t3 e3=>a7 (wpAny_letGo (ar ?_)))));refine a7 (a7 (wpAny_onRaise (a7 (N2.stop hh (N2.but (N2.but (N2.but p2 e1.extBut D.z2) e2.extBut D.a) e3.extBut D.O2) hy λg4 e e4 he=> ?_))));obtain⟨oe,ho,hc⟩:=he;have z4:=e4 _ _ (D.ne2 N2).1.symm (e3.extBut _ _ D.Oz.symm (e2.extBut _ _ (D.ne1 N1).1.symm z1));exact bG z4 (by simp) λg5 _ e5=>hE g5 e (λc o c1 c2 c3 c4 q=>e5.extBut _ _ c1 (e4 _ _ c4 (e3.extBut _ _ c2 (e2.extBut _ _ c3 (e1.extBut _ _ c1 q))))) ⟨oe,e5.extBut _ _ (off z4 ho hc) ho,hc⟩
theorem kL {Q:Option Value->Shared->Prop}(N1:U0 i1 fp1 v1 S1)(N2:U0 i2 fp2 v2 S2)(D:Ap z TI TO i1 i2 fp1 fp2)(hz:IsZip s.heap z TI TO .none)(hTI:IsPair s.heap TI (.ref i1) (.ref i2))(hTO:IsPair s.heap TO a b)(p1:S1 k s.heap)(p2:S2 k s.heap)(hx:v1 k=some x)(hy:v2 k=some y)
  (hQ:∀h',IsZip h' z TI TO (rawInt s.heap.objs.size)->IsPair h' TO x y->S1 (k+1) h' ->S2 (k+1) h' ->IsPair h' s.heap.objs.size x y->
   (∀c o,c ≠ z->c ≠ TO->c ≠ i1->c ≠ i2->s.heap.get? c=some o->h'.get? c=some o)->Q (some (.ref s.heap.objs.size)) { s with heap:=h' }):wpAny (model prog w) A (pyNext (.ref z)) Q E s:=by
 have ty:s.TypeIs (.ref z) _:=⟨_,hz,rfl⟩;exact a7 (c_ (bz ty d3 (bV d3 ty fA
  (kJ N1 N2 D hz hTI hTO p1 p2 hx hy λh' a1 a2 a3 a4 a5 a6=>ar (hQ h' a1 a2 a3 a4 a5 a6)) (f8 _))))
theorem kM {Q:Option Value->Shared->Prop}(hh:A.handled=none)(N1:U0 i1 fp1 v1 S1)(N2:U0 i2 fp2 v2 S2)(D:Ap z TI TO i1 i2 fp1 fp2)(hz:IsZip s.heap z TI TO .none)(hTI:IsPair s.heap TI (.ref i1) (.ref i2))(hTO:IsPair s.heap TO a b)(p1:S1 k s.heap)(p2:S2 k s.heap)(hend:v1 k=none\/v2 k=none)
  (hQ:∀h',(∀c o,c ≠ z->c ≠ TO->c ≠ i1->c ≠ i2->s.heap.get? c=some o->h'.get? c=some o)->Q none { s with heap:=h' }):wpAny (model prog w) A (pyNext (.ref z)) Q E s:=by
 have ty:s.TypeIs (.ref z) _:=⟨_,hz,rfl⟩;refine a7 (c_ (bz ty d3 (bV d3 ty fA
  (kK hh N1 N2 D hz hTI hTO p1 p2 hend λh' e kp he=> ?_) (f8 _))))
 obtain⟨o,ho,hc⟩:=he;exact a7 (wpAny_isInstance ⟨o,ho,hc⟩ isSubtype_stop (ar (hQ _ kp)))
end
end PySem.ZG
namespace PySem.ZG
open PySem PySem.Spec PySem.Builtin.SmallTypes
structure kN (l:Addr) (o:Obj) (P:Heap->Prop):Prop where
 go:∀{prog:Program} {w:World} {A:Around} {E:Value->Shared->Prop} {s:Shared} {Q:Value->Shared->Prop},P s.heap->Q (.ref s.heap.objs.size) { s with heap:=s.heap.push o }->wpAny (model prog w) A (pyIter (.ref l)) Q E s
 push:∀{h:Heap} (o' :Obj),P h->P (h.push o')
 fresh:o.isFreed=false
noncomputable abbrev oL (l:Addr):Obj:={ cls:= .type "list_iterator",data:= .fields #[.ref l,.int 0 0] }
noncomputable abbrev oT (l:Addr):Obj:={ cls:= .type "tuple_iterator",data:= .fields #[.ref l,.int 0 0] }
theorem kO (l:Addr)(xs:Array Value):kN l (oL l) (λh=>h.IsList l xs):=⟨λp q=>wpAny_pyIter_list p q,λo p=>Heap.IsList.push p o,rfl⟩
theorem GW (l:Addr)(xs:Array Value):kN l (oT l) (λh=>h.IsTuple l xs):=⟨λp q=>wpAny_pyIter_tuple p q,λo p=>ix.push p o,rfl⟩
noncomputable abbrev zh2 (h:Heap)(o1 o2:Obj):Heap:=(h.push o1).push o2
abbrev zh3 (h:Heap)(o1 o2:Obj):Heap:=(zh2 h o1 o2).push { cls:= .type "tuple",data:= .seq #[.ref h.objs.size,.ref (h.push o1).objs.size] }
abbrev zh4 (h:Heap)(o1 o2:Obj):Heap:=(zh3 h o1 o2).push { cls:= .type "tuple",data:= .seq #[.none,.none] }
abbrev zh5 (h:Heap)(o1 o2:Obj):Heap:=(zh4 h o1 o2).push { cls:= .type "zip",data:= .fields #[.none,.bool false,.bool false,.ref (zh2 h o1 o2).objs.size,.ref (zh3 h o1 o2).objs.size] }
theorem GX {P1 P2:Heap->Prop}(J1:kN l1 o1 P1)(J2:kN l2 o2 P2):
  Meets (Builtin.«zip.__new__» ⟨[.type "zip",.ref l1,.ref l2],[]⟩) (λ_ R s=>P1 s.heap/\P2 s.heap/\R (.ok (.ret (.ref (zh4 s.heap o1 o2).objs.size))) { s with heap:=zh5 s.heap o1 o2 }):=
 .of_wp λprog w A R s h=>by
  obtain⟨hp,g,d,tk,os⟩:=s;obtain⟨q1,q2,h⟩:=h;have hsub:=sub_zip;have c1:P1 (j_ ⟨hp,g,d,tk,os⟩):=q1;have c2:P2 (j_ ⟨hp.push o1,g,d,tk,os⟩):=J2.push o1 q2
  wp_walk using J1.go c1,J2.go c2
  exact⟨_,rfl,h⟩
end PySem.ZG
namespace PySem.ZG
open PySem PySem.Spec PySem.Builtin.SmallTypes
theorem kP {P1 P2:Heap->Prop}(J1:kN l1 o1 P1)(J2:kN l2 o2 P2)(q1:P1 s.heap)(q2:P2 s.heap)
  (h:∀h' n,n=s.heap.objs.size->IsZip h' (n+4) (n+2) (n+3) .none->IsPair h' (n+2) (.ref n) (.ref (n+1))->IsPair h' (n+3) .none .none->h'.get? n=some o1->h'.get? (n+1)=some o2->
   (∀c o,s.heap.get? c=some o->h'.get? c=some o)->Q (.ref (n+4)) { s with heap:=h' }):wpAny (model prog w) A (call (.type "zip") [.ref l1,.ref l2]) Q E s:=by
 refine callType_new PySem.F.called_zip (by decide) (PySem.F.typeCall_zip_2 _ _) (PySem.F.newCall_zip_2 _ _) (λobj=>PySem.F.args_object_init_3 obj _ _) PySem.F.entry_zip_new (GX J1 J2) ⟨q1,q2, ?_⟩
 have n1:(s.heap.push o1).objs.size=s.heap.objs.size+1:=cx ..;have n2:(zh2 s.heap o1 o2).objs.size=s.heap.objs.size+2:=by rw[cx,n1]
 have n3:(zh3 s.heap o1 o2).objs.size=s.heap.objs.size+3:=by rw[cx,n2]
 have n4:(zh4 s.heap o1 o2).objs.size=s.heap.objs.size+4:=by rw[cx,n3]
 have up:∀{h:Heap} {c:Addr} {o:Obj} (o' :Obj),h.get? c=some o->(h.push o').get? c=some o:=λo' e=>ag o' e;have e5:(zh5 s.heap o1 o2).get? _=some _:=aj _ rfl;have e4:(zh5 s.heap o1 o2).get? _=some _:=up _ (aj _ rfl);have e3:(zh5 s.heap o1 o2).get? _=some _:=up _ (up _ (aj _ rfl));have e2:(zh5 s.heap o1 o2).get? _=some _:=up _ (up _ (up _ (aj _ J2.fresh)));have e1:(zh5 s.heap o1 o2).get? _=some _:=up _ (up _ (up _ (up _ (aj _ J1.fresh))));rw[n2,n3,n4]at e5;rw[n1,n2]at e3;rw[n3]at e4;rw[n1]at e2;rw[n4];exact⟨⟨_,e5,rfl⟩,h _ _ rfl e5 e3 e4 e1 e2 λc o q=>up _ (up _ (up _ (up _ (up _ q))))⟩
end PySem.ZG
namespace PV
open PySem PySem.Spec PyProof.Rows L2 PySem.ZG
inductive SK where
 | l | t
noncomputable def SK.it:SK->Heap->Addr->Addr->Nat->Prop
 | .l=>λh i l k=>h.IsListIter i l k
 | .t=>λh i l k=>h.IsTupleIter i l k
noncomputable def SK.has:SK->Heap->Addr->Array Value->Prop
 | .l=>λh l xs=>h.IsList l xs
 | .t=>λh l xs=>h.IsTuple l xs
def SK.sq (K:ae):SK->Hp->Addr->List V->Prop
 | .l=>λH a xs=>SqL K H a xs
 | .t=>λH a xs=>SqT K H a xs
noncomputable def SK.tr:SK->List V->HO
 | .l=> .lst
 | .t=> .tup
def SK.ob:SK->Addr->Obj
 | .l=>oL
 | .t=>oT
theorem SK.nx (k:SK){i l:Addr}(h:l ≠ i)(xs:Array Value):U0 i [i,l] (λn=>xs[n]?) (λn hp=>k.it hp i l n/\k.has hp l xs):=by
 cases k with
 | l=>exact kI h xs
 | t=>exact nx_tup h xs
theorem SK.of (k:SK)(l:Addr)(xs:Array Value):kN l (k.ob l) (λh=>k.has h l xs):=by
 cases k with
 | l=>exact kO l xs
 | t=>exact GW l xs
theorem SK.start (k:SK){h:Heap}{i l:Addr}(e:h.get? i=some (k.ob l)):k.it h i l 0:=by
 cases k with
 | l=>exact⟨_,e,rfl,rfl⟩
 | t=>exact⟨_,e,rfl,rfl⟩
theorem SK.obj {k:SK}{h:Heap}{i l:Addr}{n:Nat}(x:k.it h i l n):∃o,h.get? i=some o/\∀v,o.data ≠ .cell v:=by
 cases k with
 | l=>obtain⟨o,e,_,d⟩:=x;exact⟨o,e,λv z=>by rw[d]at z;cases z⟩
 | t=>obtain⟨o,e,_,d⟩:=x;exact⟨o,e,λv z=>by rw[d]at z;cases z⟩
theorem SK.at_ {k:SK}{h h' :Heap}{i l:Addr}{n:Nat}(x:k.it h i l n)(q:∀o,h.get? i=some o->h'.get? i=some o):k.it h' i l n:=by
 cases k with
 | l=>obtain⟨o,e,r⟩:=x;exact⟨o,q o e,r⟩
 | t=>obtain⟨o,e,r⟩:=x;exact⟨o,q o e,r⟩
theorem SK.sqOf {K:ae}(k:SK){H:Hp}{a:Addr}{xs:List V}(e:H a=some (k.tr xs)):k.sq K H a xs:=by
 cases k with
 | l=>exact SqL.of e
 | t=>exact SqT.of e
theorem Inv.seq (I:L2.Inv X pins σ H s)(k:SK)(h:k.sq X.K H a xs):∃its:List Value,Vals xs its/\k.has s.heap a its.toArray/\∃o,s.heap.get? a=some o:=by
 cases k with
 | l=>
  obtain⟨its,r,p,_⟩:=I.list h;obtain⟨o,_,e,_⟩:=id p;exact⟨its,r,p.isList,o,e⟩
 | t=>
  obtain⟨its,r,p,_⟩:=I.tuple h;obtain⟨o,e,_⟩:=id p;exact⟨its,r,p,o,e⟩
def Itz (K:ae)(k1 k2:SK)(l1 l2:Addr):It:=
 ⟨λi H=>∃xs ys x y,k1.sq K H l1 xs/\k2.sq K H l2 ys/\xs[i]? =some x/\ys[i]? =some y,λi H v H' =>∃p x y,H p=none/\v= .ref p/\(∀xs,k1.sq K H l1 xs->xs[i]? =some x)/\(∀ys,k2.sq K H l2 ys->ys[i]? =some y)/\H' =upd H p (.tup [x,y]),
  λi H=>∃xs ys,k1.sq K H l1 xs/\k2.sq K H l2 ys/\(xs.length<=i\/ys.length<=i)⟩
theorem Inv.seq_inj (I:L2.Inv X pins σ H s)(k:SK)(h:k.sq X.K H a xs)(h' :k.sq X.K H a ys):xs=ys:=by
 cases k with
 | l=>exact I.list_inj h h'
 | t=>exact I.tuple_inj h h'
theorem nN {a b:Nat}(h:a ≠ b): @Ne Addr a b:=h
theorem nM {a b c:Nat}(h:a ≠ b)(h' :a ≠ c):¬ @Membership.mem Addr (List Addr) _ [b,c] a:=λq=>by
 rcases ak.mp q with z | z
 ·exact h z
 ·exact h' (aG.mp z)
theorem Vo {P:Program}{w:World}{K:ae}{elts:List Expr}{kk:Nat}{pt:Pos}(k1 k2:SK){n l1 l2:Nat}(h1:l1 < n)(h2:l2 < n):
  Yl P w K (.Tuple elts kk pt) (Itz K k1 k2 l1 l2) [n+4,n+2,n+3,n,n+1] (n+4)
   (λi h=>IsZip h (n+4) (n+2) (n+3) .none/\IsPair h (n+2) (.ref n) (.ref (n+1))/\(∃a b,IsPair h (n+3) a b)/\k1.it h n l1 i/\k2.it h (n+1) l2 i):=by
 have D:Ap (n+4) (n+2) (n+3) n (n+1) [n,l1] [n+1,l2]:=by
  refine⟨nN (by omega),nN (by omega),nN (by omega),nN (by omega),nN (by omega),nM (by omega) (by omega),nM (by omega) (by omega),nM (by omega) (by omega),nM (by omega) (by omega),nM (by omega) (by omega),nM (by omega) (by omega)⟩
 refine⟨by simp,λi h st b hb=> ?_,λi h h' st k=> ?_, ?_, ?_, ?_⟩
 ·obtain⟨hz,hI,⟨a,c,hO⟩,p1,p2⟩:=st;simp only[ak,bh,or_false]at hb;rcases hb with rfl | rfl | rfl | rfl | rfl
  ·exact⟨_,hz,λv z=>nomatch z⟩
  ·exact⟨_,hI,λv z=>nomatch z⟩
  ·exact⟨_,hO,λv z=>nomatch z⟩
  ·exact SK.obj p1
  ·exact SK.obj p2
 ·obtain⟨hz,hI,⟨a,c,hO⟩,p1,p2⟩:=st;exact⟨k _ (by simp) _ hz,k _ (by simp) _ hI,⟨a,c,k _ (by simp) _ hO⟩,SK.at_ p1 λo e=>k n (by simp) o e,SK.at_ p2 λo e=>k (n+1) (by simp) o e⟩
 ·intro X hP hw hK hc i pins s σ H E I hf st hg;subst hP hw hK;obtain⟨xs,ys,x,y,s1,s2,hx,hy⟩:=hg;obtain⟨hz,hI,⟨a,c,hO⟩,p1,p2⟩:=st;obtain⟨its1,r1,b1,_⟩:=Inv.seq I k1 s1;obtain⟨its2,r2,b2,_⟩:=Inv.seq I k2 s2;obtain⟨u,hu,ru⟩:=r1.get hx;obtain⟨v,hv,rv⟩:=r2.get hy;refine kL (k1.nx (aC h1) its1.toArray) (k2.nx (i:=n+1) (nN (by omega)) its2.toArray) D hz hI hO ⟨p1,b1⟩ ⟨p2,b2⟩ (x:=u) (y:=v) (by simpa using hu) (by simpa using hv) λg a1 a2 a3 a4 a5 kp=>⟨_,rfl, ?_⟩
  refine wpAny_letOwnedTupleGo_zip a1 λg2 z2 e2=> ?_;have hlt:n+4 < s.heap.objs.size:=aq hz;have ne:∀b:Nat,b<=n+4->s.heap.objs.size ≠ b:=λb hb=>by
   omega
  have kp2:∀b o,b ∉ [n+4,n+2,n+3,n,n+1]->s.heap.get? b=some o->g2.get? b=some o:=λb o hb e=>by
   simp only[ak,bh,or_false,not_or]at hb;exact e2.extBut _ _ hb.1 (kp b o hb.1 hb.2.2.1 hb.2.2.2.1 hb.2.2.2.2 e)
  have g2P:=e2.extBut _ _ (ne _ (am _)) a5;have g2I:=e2.extBut _ _ D.Iz (kp _ _ D.Iz D.IO D.I1 D.I2 hI);have g2O:=e2.extBut _ _ D.Oz a2;have q1:=SK.at_ a3.1 λo e=>e2.extBut _ _ (nN (by omega)) e
  have q2:=SK.at_ a4.1 λo e=>e2.extBut _ _ (nN (by omega)) e
  have hfr:=I.hok.fresh (am _);refine⟨.ref s.heap.objs.size,upd H s.heap.objs.size (.tup [x,y]),Inv.laidT (s:=s) (h' :=g2) (tk:=s.toks) I hf kp2 (λb o hb _=> ?_) (am _)
   ⟨by rw[cj];show 2<=16777216;decide,[u,v],.cons ru (.cons rv .nil),⟨_,g2P,rfl,_,rfl⟩,.inr ⟨_,g2P,rfl⟩⟩,rfl,⟨_,x,y,hfr,rfl,λzs hq=>by rw[← Inv.seq_inj I k1 s1 hq];exact hx,λzs hq=>by rw[← Inv.seq_inj I k2 s2 hq];exact hy,rfl⟩,⟨z2,g2I,⟨u,v,g2O⟩,q1,q2⟩,λb hb=> ?_⟩
  ·simp only[ak,bh,or_false]at hb;rcases hb with rfl | rfl | rfl | rfl | rfl
   ·exact⟨_,z2⟩
   ·exact⟨_,g2I⟩
   ·exact⟨_,g2O⟩
   ·obtain⟨o',e',_⟩:=SK.obj q1;exact⟨o',e'⟩
   ·obtain⟨o',e',_⟩:=SK.obj q2;exact⟨o',e'⟩
  ·have hb2:(b:Nat)<=n+4:=by
    have hb:=by simpa using hb
    rcases hb with rfl | rfl | rfl | rfl | rfl
    ·exact am _
    ·exact dS (by decide) n
    ·exact dS (by decide) n
    ·exact aD _ _
    ·exact dS (by decide) n
   rw[zk λz=>ne b hb2 z.symm];exact(hf b hb).1
 ·intro X hP hw hK hc i pins s σ H E I hf st hg;subst hP hw hK;obtain⟨xs,ys,s1,s2,hend⟩:=hg;obtain⟨hz,hI,⟨a,c,hO⟩,p1,p2⟩:=st;obtain⟨its1,r1,b1,_⟩:=Inv.seq I k1 s1;obtain⟨its2,r2,b2,_⟩:=Inv.seq I k2 s2;have l1' :=r1.length;have l2' :=r2.length;refine kM (I.ok.hd hc) (k1.nx (aC h1) its1.toArray) (k2.nx (nN (by omega)) _) D hz hI hO ⟨p1,b1⟩ ⟨p2,b2⟩ ?_ λg kp=>⟨rfl, ?_⟩
  ·rcases hend with q | q
   ·exact .inl (cS (by rw[aE,← l1'];exact q))
   ·exact .inr (cS (by rw[aE,← l2'];exact q))
  ·have kp2:∀b o,b ∉ [n+4,n+3,n,n+1]->s.heap.get? b=some o->g.get? b=some o:=λb o hb e=>by
    simp only[ak,bh,or_false,not_or]at hb;exact kp b o hb.1 hb.2.1 hb.2.2.1 hb.2.2.2 e
   have nch:∀b u,H b=some u->b ∉ [n+4,n+3,n,n+1]:=λb u e hb=>by
    have hb' :b∈[n+4,n+2,n+3,n,n+1]:=by
     simp only[ak,bh,or_false]at hb ⊢;rcases hb with q | q | q | q
     ·exact .inl q
     ·exact .inr (.inr (.inl q))
     ·exact .inr (.inr (.inr (.inl q)))
     ·exact .inr (.inr (.inr (.inr q)))
    rw[(hf b hb').1]at e;cases e
   refine I.call' rfl ⟨λb o e _ _ hc=>kp2 b o hc e,λb o e _ _ hc=>⟨o.slots,kp2 b o hc e⟩,λb o e q _=>q,λb o e hc=>⟨o,kp2 b o hc e⟩,λb ys e=>e,λb o u e=>e,λ_ _ _ e=>e⟩ (λb u e=> ?_) I.bare λb hb=> ?_
   ·refine(I.hok b u e).stay (λc v hc q=>kp2 c v ?_ q) (λ_ q=>q) λ_ _ q=>q;rcases hc with rfl | hc
    ·exact nch c u e
    ·exact nch c _ hc
   ·have hb' :b∈[n+4,n+2,n+3,n,n+1]:=by
     simp only[ak,bh,or_false]at hb ⊢;rcases hb with q | q | q | q
     ·exact .inl q
     ·exact .inr (.inr (.inl q))
     ·exact .inr (.inr (.inr (.inl q)))
     ·exact .inr (.inr (.inr (.inr q)))
    obtain⟨f0,f1,f2,f3,f4,f5⟩:=hf b hb';exact⟨f3,f1,f4,f5⟩
 ·intro A i s Q E st h;exact wpAny_pyIter_zip st.1 h
noncomputable def vJ (xs ys:List T):List T:=(xs.zip ys).map λp=>T.tup [p.1,p.2]
theorem Vp {xs ys:List T}{i:Nat}{t:T}(h:(vJ xs ys)[i]? =some t):∃x y,xs[i]? =some x/\ys[i]? =some y/\t= .tup [x,y]:=by
 unfold vJ at h;rw[aA]at h;cases e:(xs.zip ys)[i]? with
 | none=>rw[e]at h;cases h
 | some p=>
  rw[e]at h;cases h;have:=List.getElem?_zip_eq_some.mp e;exact⟨p.1,p.2,this.1,this.2,rfl⟩
theorem U1 (xs ys:List T):(vJ xs ys).length=min xs.length ys.length:=by unfold vJ;simp
theorem GY {K:ae}{B1 H1:Hp}{k1 k2:SK}{a b:Addr}{xs ys:List V}{ts us:List T}(ha:B1 a=some (k1.tr xs))(hb:B1 b=some (k2.tr ys))(ra:zC B1 xs ts)(rb:zC B1 ys us):rI B1 H1 (Itz K k1 k2 a b) (vJ ts us):=λB2 H2 s1 s2=>by
 have a2:=k1.sqOf (K:=K) (s2 _ _ (s1 _ _ ha));have b2:=k2.sqOf (K:=K) (s2 _ _ (s1 _ _ hb));rw[U1];refine⟨λi hi=> ?_,λi t x H3 e y=> ?_,λi hi=>⟨xs,ys,a2,b2, ?_⟩⟩
 ·obtain⟨v,e1,_⟩:=ra.get (ah (show i < ts.length by omega))
  obtain⟨u,e2,_⟩:=rb.get (ah (show i < us.length by omega))
  exact⟨xs,ys,v,u,a2,b2,e1,e2⟩
 ·obtain⟨p,v,u,hp,rfl,y1,y2,rfl⟩:=y;obtain⟨t1,t2,et,eu,rfl⟩:=Vp e;obtain⟨v',e1,r1⟩:=ra.get et;obtain⟨u',e2,r2⟩:=rb.get eu;have q1:=y1 xs a2;have q2:=y2 ys b2;rw[e1]at q1;cases q1;rw[e2]at q2;cases q2;have up:=zQ.ge s2 (zt.new hp (.tup [v,u]));exact⟨zt.new hp _,.tup (j1 hp _) (.cons ((r1.mono s1).mono up) (.cons ((r2.mono s1).mono up) .nil))⟩
 ·rw[ra.length,rb.length];omega
section
theorem GZ {ta:TA}(hg:Gl X "zip")(hm:X.mg "zip"=none)(ha:PA X [a,b] ta)(hs:starEach [a,b] X.env=[(false,eval a X.env),(false,eval b X.env)])(hs2:starEach [b] X.env=[(false,eval b X.env)]):
  PI X (.Tuple elts kk pt) (.Call (.Name "zip" p) [a,b] [] pos) (λσ H R=>ta σ H λvs H1=>∃k1 k2 l1 l2 xs ys,vs=[.ref l1,.ref l2]/\H1 l1=some (SK.tr k1 xs)/\H1 l2=some (SK.tr k2 ys)/\R (Itz X.K k1 k2 l1 l2) H1):=by
 intro pins s σ H R I h;refine Call_ (j9 I hg hm PyProof.Rows.Boot.«zip» (aT (thn (ha pos _ s σ H _ I h) λus s1 ⟨vs,H1,I1,r1,q1⟩=> ?_) (by rw[hs,hs2]) (by rw[hs2];rfl)))
 obtain⟨k1,k2,l1,l2,xs,ys,e,h1,h2,q⟩:=q1;subst e;obtain⟨u,v,rfl,ru,rv⟩:=yL r1;obtain rfl:u=Value.ref l1:=ru;obtain rfl:v=Value.ref l2:=rv;obtain⟨its1,_,b1,o1,e1⟩:=Inv.seq I1 k1 (k1.sqOf h1);obtain⟨its2,_,b2,o2,e2⟩:=Inv.seq I1 k2 (k2.sqOf h2);refine kP (k1.of l1 _) (k2.of l2 _) b1 b2 λg n hn z1 z2 z3 z4 z5 kp=>wpAny_pyIter_zip z1 ?_;subst hn;have f:∀b∈[s1.heap.objs.size+4,s1.heap.objs.size+2,s1.heap.objs.size+3,s1.heap.objs.size,s1.heap.objs.size+1],WQ X _ H1 b:=λb hb=>by
  have hb' :s1.heap.objs.size<=b:=by
   simp only[ak,bh,or_false]at hb;rcases hb with rfl | rfl | rfl | rfl | rfl
   ·exact aD _ _
   ·exact aD _ _
   ·exact aD _ _
   ·exact am _
   ·exact aD _ _
  exact I1.fpOk hb' (I1.hok.fresh hb')
 exact⟨s1.heap.objs.size+4,_,_,_,H1,rfl,I1.kept kp,Vo k1 k2 (aq e1) (aq e2),⟨z1,z2,⟨_,_,z3⟩,SK.start k1 z4,SK.start k2 z5⟩,f,q⟩
noncomputable def J0:T->R (List T)
 | .lst xs=> .ok xs
 | .tup xs=> .ok xs
 | _=> .bad
def xT (fa fb:En->R T):En->R (List T):=λρ=>(fa ρ).bind λt=>(fb ρ).bind λu=>(J0 t).bind λxs=>(J0 u).bind λys=> .ok (vJ xs ys)
theorem qx (r:Rep B v t)(e:J0 t= .ok xs):∃(k:SK) (a:Addr) (vs:List V),v= .ref a/\B a=some (k.tr vs)/\zC B vs xs:=by
 cases r with
 | lst h r=>cases e;exact⟨.l,_,_,rfl,h,r⟩
 | tup h r=>cases e;exact⟨.t,_,_,rfl,h,r⟩
 | _=>cases e
theorem UM (t:T)(c:Nat):J0 t ≠ .ex c:=by cases t <;> exact λz=>nomatch z
theorem z3b (hg:Gl X "zip")(hm:X.mg "zip"=none)(ha:Snd X Y a fa)(hb:Snd X Y b fb)(hs:starEach [a,b] X.env=[(false,eval a X.env),(false,eval b X.env)]:=by exact st2 rfl rfl)(hs2:starEach [b] X.env=[(false,eval b X.env)]:=by exact st1 rfl):
  uY X Y (.Tuple elts kk pt) (.Call (.Name "zip" p) [a,b] [] pos) (xT fa fb):= .mk λρ=>
 PI.imp (GZ hg hm (zv (ha ρ) (zv (hb ρ) zP hs2) (by rw[hs,hs2])) hs hs2) λσ H R ⟨B,I,q⟩=>step I q λt v H1 _ s1 r1 I1 q1=>step I1 q1 λu v' H2 _ s2 r2 I2 q2=>by
  cases e1:J0 t with
  | bad=>rw[e1]at q2;exact q2.elim
  | ex c=>exact absurd e1 (UM _ _)
  | ok xs=>
   rw[e1]at q2;cases e2:J0 u with
   | bad=>rw[e2]at q2;exact q2.elim
   | ex c=>exact absurd e2 (UM _ _)
   | ok ys=>
    rw[e2]at q2;obtain⟨k1,a1,vs1,rfl,h1,w1⟩:=qx (r1.mono (zQ.ge I1.sB s2)) e1;obtain⟨k2,a2,vs2,rfl,h2,w2⟩:=qx r2 e2;exact⟨k1,k2,a1,a2,vs1,vs2,rfl,I2.sB _ _ h1,I2.sB _ _ h2,ZB I2 (show Po Y rI _ H2 _ R from q2) (GY h1 h2 w1 w2)⟩
end
end PV
namespace PV
open PySem PySem.Spec PyProof.Rows L2
section
def qy:T->R T
 | .bl b=> .ok (.int (b2 b))
 | .int i=> .ok (.int i)
 | _=> .bad
theorem z3c (v:V)(t:T)(B H:Hp)(Q:VK)(r:Rep B v t)(sB:zt B H)(q:Po Y rC B H (qy t) Q):
  (∃i,[v]=[V.int i]/\Q (.int i) H)\/∃k,[v]=[V.bl k]/\Q (.int (if k then 1 else 0)) H:=by
 cases r with
 | int i=>exact .inl ⟨i,rfl,po0 sB q rfl (.int i)⟩
 | bl k=>exact .inr ⟨k,rfl,po0 sB q rfl (by cases k <;> exact .int _)⟩
 | _=>exact q.elim
theorem z00 (gl:Gl X "int")(mg:X.mg "int"=none)(ha:Snd X Y a fa)(hs:St1 X a:=by exact st1 rfl):Snd X Y (.Call (.Name "int" p) [a] [] pos) (ap1 qy fa):=
 qc YH z3c gl mg (PyProof.Rows.Boot.«int») ha hs
theorem qz:Zk X (.type "range") (λxs H Q=>∃i j,xs=[.int i,.int j]/\∀r,H r=none->Q (.ref r) (upd H r (.rng i j))):=by
 intro pins s σ H xs us Q I r h;obtain⟨i,j,rfl,q⟩:=h;obtain⟨u,v,rfl,ru,rv⟩:=yL r;obtain⟨t,rfl⟩:=ru;obtain⟨t',rfl⟩:=rv;exact call_range_2 ⟨.ref _,_,I.laid (λb o e=>ag _ e) (am _) (show Z1 _ X.w _ _ _ (.rng i j) from ⟨_,_,_,aj _ rfl⟩),rfl,q _ (I.hok.fresh (am _))⟩
noncomputable def vK (lo:Int)(n:Nat):List V:=(aX n).map λ(i:Nat)=>V.int (lo+(i:Int))
theorem Wg (hh:X.A.handled=none):Zk X (.type "list") (λxs H Q=>∃r lo hi,xs=[.ref r]/\H r=some (.rng lo hi)/\(-1000000 < lo/\lo < 1000000/\ -1000000 < hi/\hi < 1000000)/\∀l,H l=none->Q (.ref l) (upd H l (.lst (vK lo (hi - lo).toNat)))):=by
 intro pins s σ H xs us Q I rv h;obtain⟨r,lo,hi,rfl,e,⟨c1,c2,c3,c4⟩,q⟩:=h;obtain⟨u,rfl,ru⟩:=Zv rv;obtain rfl:u=Value.ref r:=ru;obtain⟨t,v,v',eo⟩:=(show Z1 _ X.w H _ r _ from I.hok r _ e);have hn:eX lo hi 1=((hi - lo).toNat):=by rw[rangeSize_one];split <;> omega
 refine call_list_range hh eo (small_one (by omega) (by omega) (by omega) (by omega)) hn (by omega) λh' tk acc c kp eo' hacc=> ?_
 have hv:Vals (vK lo (hi - lo).toNat) acc.toList:=by
  have key:∀(n:Nat) (lo:Int) (vs:List _),vs.length=n->(∀(j:Nat) (v:Value),vs[j]? =some v->∃t,v=Value.int (lo+(j)) t)->Vals (vK lo n) vs:=by
   intro n
   induction n with
   | zero=>
    intro lo vs hl _;rw[List.eq_nil_of_length_eq_zero hl];exact .nil
   | succ n ih=>
    intro lo vs hl hv;cases vs with
    | nil=>cases hl
    | cons v vs=>
     have e:vK lo (n+1)=V.int (lo+0) :: vK (lo+1) n:=by
      unfold vK;rw[ci,av,aM];refine congrArg _ (ce λj _=> ?_);show V.int _=V.int _;congr 1;omega
     rw[e];refine .cons (hv 0 v rfl) (ih _ vs (by simpa using hl) λj x hx=> ?_)
     obtain⟨t,z⟩:=hv (j+1) x (by simpa using hx)
     exact⟨t,by rw[z];congr 1;omega⟩
  refine key _ lo _ (by simpa using hacc.1) λj v hj=> ?_
  obtain⟨t,z⟩:=hacc.2 j v (by simpa using hj)
  exact⟨t,by rw[z];congr 1;omega⟩
 have hz:(vK lo (hi - lo).toNat).length<=sizeLine:=by
  rw[cj];unfold vK;rw[aa,bo];omega
 exact⟨.ref _,_,I.laid kp (am _) (show Z1 _ X.w _ h' _ (.lst _) from ⟨hz,acc.toList,c,hv,by simpa using eo'⟩),rfl,q _ (I.hok.fresh (am _))⟩
def z1A (fi:En->R (List T)):En->R T:=λρ=>(fi ρ).bind λts=> .ok (.lst ts)
theorem qA (lo:Int)(n:Nat):zC B (vK lo n) (rng lo n):=by
 unfold vK rng
 induction aX n with
 | nil=>exact .nil
 | cons i is ih=>exact .cons (.int _) ih
theorem kQ (hh:X.A.handled=none)(gl:Gl X "list")(mg:X.mg "list"=none)(gl' :Gl X "range")(mg' :X.mg "range"=none)(ha:Snd X Y a fa)(hb:Snd X Y b fb)
  (hs:starEach [a,b] X.env=[(false,eval a X.env),(false,eval b X.env)]:=by exact st2 rfl rfl) (hs2:St1 X b:=by exact st1 rfl):Snd X Y (.Call (.Name "list" p) [.Call (.Name "range" p') [a,b] [] pos'] [] pos) (z1A (Jr fa fb)):= .mk λρ=>
 PE.imp (jb (Wg hh) gl mg PyProof.Rows.Boot.«list» (zv (jb qz gl' mg' boot_range (zv (ha ρ) (zv (hb ρ) zP hs2) (by rw[hs,hs2])) (by decide) (by decide) (by rw[hs,hs2]) (by rw[hs2];rfl)) zP (st1 rfl)) (by decide) (by decide) (st1 rfl) rfl) λσ H Q ⟨B,I,q⟩=>by
  have q:Po Y rC B H ((fa ρ).bind λt=>(fb ρ).bind λt' =>(match t,t' with | .int i,.int j=>if -1000000 < i/\i < 1000000/\ -1000000 < j/\j < 1000000 then R.ok (rng i (j - i).toNat) else .bad | _,_=> .bad).bind λts=> .ok (.lst ts)) Q:=by
   revert q;unfold z1A Jr;cases fa ρ with
   | ok t=>cases fb ρ <;> exact λq=>q
   | ex c=>exact λq=>q
   | bad=>exact λq=>q
  refine step I q λt v H1 _ s1 r1 I1 q1=>step I1 q1 λt' v' H2 _ s2 r2 I2 q2=> ?_;cases r1 with
  | int i=>
   cases r2 with
   | int j=>
    by_cases c: -1000000 < i/\i < 1000000/\ -1000000 < j/\j < 1000000
    ·dsimp only at q2;rw[if_pos c]at q2;refine⟨i,j,rfl,λr hr=>⟨r,i,j,rfl,zD,c,λl hl=> ?_⟩⟩;have hlr:l ≠ r:=λz=>by rw[z,zD]at hl;cases hl
     have hl2:=by rw[zk hlr]at hl;exact hl
     refine q2 _ _ (zt.new hr _ |>.trans (zt.new hl _)) (.lst ?_ (qA _ _))
     rw[Z5 hl2,zD]
    ·dsimp only at q2;rw[if_neg c]at q2;exact q2.elim
   | _=>exact q2.elim
  | _=>cases r2 <;> exact q2.elim
def mvS (i j:Nat):En->RS:=λρ=>match ρ[j]? with
 | some (.ow ts)=> .nx ((ρ.set j (.vl (.lst ts))).set i (.vl (.lst ts)))
 | _=> .bad
theorem SI.give (I:SI Y B ρ σ H)(hj:ρ[j]? =some (.ow ts)):∃(a:Addr) (B' :Hp),σ[j]? =some (some (V.ref a))/\zt B B' /\Rep B' (.ref a) (.lst ts)/\SI Y B' (ρ.set j (.vl (.lst ts))) σ H:=by
 obtain⟨a,xs,e,b0,h0,hh,rr,d⟩:=I.ow j ts hj;have s1:zt B (upd B a (.lst xs)):=zt.new b0 _;have rp:Rep _ _ _:= .lst zD (rr.mono s1);refine⟨a,_,e,s1,rp,⟨I.s0,I.sH,λb o q=> ?_,λb o q=> ?_,by rw[bu];exact I.len,λk t q=> ?_,λk us q=> ?_,λk c q=> ?_, ?_⟩⟩
 ·by_cases hb:b=a
  ·subst hb;rw[zD]at q;cases q;exact hh
  ·rw[zk hb]at q;exact I.sB b o q
 ·rw[zk λz=>by rw[z,h0]at q;cases q];exact I.old b o q
 ·rcases zy q with ⟨rfl,z⟩ | ⟨_,z⟩
  ·cases z;exact⟨_,e,rp⟩
  ·obtain⟨v,e1,r⟩:=I.vl k t z;exact⟨v,e1,r.mono s1⟩
 ·rcases zy q with ⟨rfl,z⟩ | ⟨hk,z⟩
  ·cases z
  ·obtain⟨a',xs',e',b0',h0',hh',rr',d'⟩:=I.ow k us z;have hne:a' ≠ a:=λw=>by subst w;exact d k us hk z e'
   refine⟨a',xs',e',by rw[zk hne];exact b0',h0',hh',rr'.mono s1,λm ws hm hw=> ?_⟩
   rcases zy hw with ⟨rfl,w⟩ | ⟨_,w⟩
   ·cases w
   ·exact d' m ws hm w
 ·rcases zy q with ⟨rfl,z⟩ | ⟨_,z⟩
  ·cases z
  ·obtain⟨a',e',r⟩:=I.xc k c z;exact⟨a',e',s1 _ _ r⟩
 ·obtain⟨as,O,x⟩:=I.st;refine⟨as,O,x.on (λk y hy h=> ?_) s1 rfl rfl (zt.refl _) λb o hb b0' h0' cs=> ?_⟩
  ·rcases zy h with ⟨_,z⟩ | ⟨_,z⟩
   ·subst z;cases hy
   ·exact⟨z,rfl⟩
  ·have hne:b ≠ a:=λz=>by
    subst z;rcases cs with ⟨C,dx,vs,ez⟩ | ok
    ·rw[hh]at hb;cases hb;cases ez
    ·exact ok j ts hj e
   refine⟨hb,by rw[zk hne];exact b0',h0',λok k us h=> ?_⟩
   rcases zy h with ⟨_,z⟩ | ⟨_,z⟩
   ·cases z
   ·exact ok k us z
theorem s_mv (hv:PE X (.Name y yp) (Uz j))(hN:X.N.Nodup)(hi:X.N[i]? =some x)(hx:L2.Loc X.env.scope x)(hs:swapsWith (.Name y yp) (some (.Name x p')) pos.line X.env=pure false:=by rfl)
  (hf:X.fn x=true\/X.env.scope.names.lookup x=some .local:=by first | exact .inl rfl | exact .inr rfl | assumption):wz X Y (.Assign [.Name x p'] (.Name y yp) pos) (mvS i j):= .mk λρ=>
 PS.imp (WP hN hi hx hv hs hf) λD σ H ⟨B,I,q⟩=>by
  unfold mvS at q;split at q
  ·rename_i ts e;obtain⟨a,B',e1,s1,r,J⟩:=I.give e;exact⟨_,e1,q _ _ B' s1 (J.setV i r)⟩
  ·exact q.elim
end
def eqs (y:T):List T->Option (List Bool)
 | []=>some []
 | t :: ts=>match eqF 30 t y with
  | none=>none
  | some b=>match eqs y ts with
   | none=>none
   | some bs=>some (b :: bs)
def z3d (y:T)(ts:List T):R T:=match eqs y ts with
 | some bs=> .ok (.int (bs.count true))
 | none=> .bad
def z3e (y:T)(ts:List T):R T:=match eqs y ts with
 | some bs=>if true∈bs then .ok (.int (bs.idxOf true)) else .bad
 | none=> .bad
def z1B (g:T->List T->R T)(fa fb:En->R T):En->R T:=λρ=>(fa ρ).bind λt=>match t with
 | .lst ts=>(fb ρ).bind λu=>g u ts
 | _=> .bad
theorem qB {H:Hp}{y:T}{e:Value->Bool}(he:∀(v:V) (t:T) (u:Value) (b:Bool),RelV v u->Rep H v t->eqF 30 t y=some b->e u=b):∀{xs:List V} {ts:List T} {its:List Value} {bs:List Bool},
  Vals xs its->zC H xs ts->eqs y ts=some bs->its.map e=bs/\∀u∈its,∃v t k,RelV v u/\Rep H v t/\eqF 30 t y=some k
 | _,_,_,_,.nil,.nil,h=>by
  cases h;exact⟨rfl,λu hu=>by simp at hu⟩
 | _,_,_,_,.cons rv vs,.cons r rs,h=>by
  rename_i v u vals us t ts;unfold eqs at h;cases q:eqF 30 t y with
  | none=>rw[q]at h;cases h
  | some k=>
   rw[q]at h;cases q' :eqs y ts with
   | none=>rw[q']at h;cases h
   | some k' =>
    rw[q']at h;cases h;obtain⟨h1,h2⟩:=qB he vs rs q';refine⟨by rw[av,h1,he v t u k rv r q],λw hw=> ?_⟩
    rcases ak.mp hw with z | hw
    ·exact⟨v,t,k,z ▸ rv,r,q⟩
    ·exact h2 w hw
section
theorem qD {e:Value->Bool}:∀its:List Value,List.countP e its=(its.map e).count true
 | []=>rfl
 | u :: us=>by
  rw[List.countP_cons,av,List.count_cons,qD us];cases e u <;> rfl
theorem Vq (hu:X.A.units+64 < cLine):MtR X "list.count" (λx xs H Q=>∃l ys ts v t bs,x= .ref l/\xs=[v]/\H l=some (.lst ys)/\zC H ys ts/\Rep H v t/\eqs t ts=some bs/\Q (.int (bs.count true)) H):=by
 intro pins s σ H x xs v0 us Q I rx rv h;obtain⟨l,ys,ts,v,t,bs,rfl,rfl,hl,r,rt,e,q⟩:=h;obtain rfl:v0=Value.ref l:=rx;obtain⟨u,rfl,ru⟩:=Zv rv;obtain⟨hz,its,n,ri,eo⟩:=(show Z1 _ X.w H _ l _ from I.hok l _ hl);obtain⟨f,hf⟩:=uX λz=>eqF 30 z t;obtain⟨h2,h3⟩:=qB hf ri r e;refine du f9 ⟨_,eo,rfl⟩ PySem.F.entry_list_count (PySem.F.args_list_count_2 _ _) (SeqAt.list_countAt l _ n _ #[] u f) ⟨eo,λw hw=> ?_, ?_⟩
 ·obtain⟨v',t',k,rv',rr,ee⟩:=h3 w (by simpa using hw)
  rw[hf v' t' w k rv' rr ee];exact(YW I 30 _ (by rw[jM];omega) t' t k v' v w u ee rr rt rv' ru).1
 ·rw[qD,h2];exact⟨.int _,H,I.tok _,⟨_,rfl⟩,q⟩
theorem Vr (hu:X.A.units+64 < cLine):MtR X "list.index" (λx xs H Q=>∃l ys ts v t bs,x= .ref l/\xs=[v]/\H l=some (.lst ys)/\zC H ys ts/\Rep H v t/\eqs t ts=some bs/\true∈bs/\Q (.int (bs.idxOf true)) H):=by
 intro pins s σ H x xs v0 us Q I rx rv h;obtain⟨l,ys,ts,v,t,bs,rfl,rfl,hl,r,rt,e,hm,q⟩:=h;obtain rfl:v0=Value.ref l:=rx;obtain⟨u,rfl,ru⟩:=Zv rv;obtain⟨hz,its,n,ri,eo⟩:=(show Z1 _ X.w H _ l _ from I.hok l _ hl);obtain⟨f,hf⟩:=uX λz=>eqF 30 z t;obtain⟨h2,h3⟩:=qB hf ri r e;have hj:=List.idxOf_lt_length_iff.mpr hm;have hlen:bs.length=its.length:=by rw[← h2,aa]
 have hri:=ri.length;rw[cj]at hz;have hat:∀m (hm:m < its.length),f its[m]=bs[m]'(by rw[hlen];exact hm):=λm hm=>by
  have:(its.map f)[m]'(by rw[aa];exact hm)=bs[m]'(by rw[hlen];exact hm):=by simp only[h2]
  rw[← this,fg]
 refine du fj ⟨_,eo,rfl⟩ PySem.F.entry_list_index (PySem.F.args_list_index_2 _ _) (SeqAt.list_indexAt l _ n _ #[] u f _ (by rw[aE,← hlen];exact hj) (by omega) ?_ ?_) ⟨eo,λw hw=> ?_, ?_⟩
 ·rw[fT,hat];exact List.getElem_idxOf hj
 ·intro m hm hlt;rw[fT,hat m (by simpa using hm)]
  have:=List.not_of_lt_findIdx hlt;simpa using this
 ·obtain⟨v',t',k,rv',rr,ee⟩:=h3 w (by simpa using hw)
  rw[hf v' t' w k rv' rr ee];exact(YW I 30 _ (by rw[jM];omega) t' t k v' v w u ee rr rt rv' ru).1
 ·exact⟨.int _,H,I.tok _,⟨_,rfl⟩,q⟩
theorem kR (hu:X.A.units+64 < cLine)(ha:je X Y a fa)(hb:je X Y b fb)(hb1:attributeBase a "count" X.env (eval a X.env)=eval a X.env:=by rfl)(hs:St1 X b:=by exact st1 rfl)(hz:(pa.endLine == p.line)=true:=by rfl):
  Snd X Y (.Call (.Attribute a "count" pa) [b] [] p) (z1B z3d fa fb):= .mk λρ=>by
 have e1:(((((backTo p (starEach [b] X.env)).all λx=> !x.fst) && (backToKw p (keywordEach [] X.env)).all λx=>x.fst.isSome) && decide (([b].length+([]:List Keyword).length+if ([]:List Keyword).isEmpty=true then 0 else 1) < 30))=true):=by rw[hs];rfl
 refine PE.imp (YN cK f9 PySem.F.type_list_count (Vq hu) (ha ρ) (zv (hb ρ) zP hs) hb1 e1 hz hs rfl) λσ H Q ⟨B,I,q⟩=>step I q λt v H1 _ s1 r1 I1 q1=> ?_;cases t with
 | lst ts=>
  cases r1 with
  | @lst l xs _ h r=>
   refine⟨.inl ⟨rfl,_,SqL.of h⟩,step I1 q1 λu v' H2 _ s2 r2 I2 q2=> ?_⟩;unfold z3d at q2;split at q2
   ·rename_i bs e;exact⟨l,xs,ts,v',u,bs,rfl,rfl,s2 _ _ h,r.mono s2,r2,e,ZB I2 q2 (.int _)⟩
   ·exact q2.elim
 | _=>exact q1.elim
theorem kS (hu:X.A.units+64 < cLine)(ha:je X Y a fa)(hb:je X Y b fb)(hb1:attributeBase a "index" X.env (eval a X.env)=eval a X.env:=by rfl)(hs:St1 X b:=by exact st1 rfl)(hz:(pa.endLine == p.line)=true:=by rfl):
  Snd X Y (.Call (.Attribute a "index" pa) [b] [] p) (z1B z3e fa fb):= .mk λρ=>by
 have e1:(((((backTo p (starEach [b] X.env)).all λx=> !x.fst) && (backToKw p (keywordEach [] X.env)).all λx=>x.fst.isSome) && decide (([b].length+([]:List Keyword).length+if ([]:List Keyword).isEmpty=true then 0 else 1) < 30))=true):=by rw[hs];rfl
 refine PE.imp (YN cK fj PySem.F.type_list_index (Vr hu) (ha ρ) (zv (hb ρ) zP hs) hb1 e1 hz hs rfl) λσ H Q ⟨B,I,q⟩=>step I q λt v H1 _ s1 r1 I1 q1=> ?_;cases t with
 | lst ts=>
  cases r1 with
  | @lst l xs _ h r=>
   refine⟨.inl ⟨rfl,_,SqL.of h⟩,step I1 q1 λu v' H2 _ s2 r2 I2 q2=> ?_⟩;unfold z3e at q2;split at q2
   ·rename_i bs e;split at q2
    ·rename_i hm;exact⟨l,xs,ts,v',u,bs,rfl,rfl,s2 _ _ h,r.mono s2,r2,e,hm,ZB I2 q2 (.int _)⟩
    ·exact q2.elim
   ·exact q2.elim
 | _=>exact q1.elim
end
noncomputable def ZN:List T->Option (List Int)
 | []=>some []
 | .int i :: r=>match ZN r with | some l=>some (i :: l) | none=>none
 | _ :: _=>none
def kT:T->R T
 | .lst ts=>match ZN ts with | some l=> .ok (.int l.sum) | none=> .bad
 | _=> .bad
def z1C (fi:En->R (List T))(g:T->En->R En)(ft:En->R Bool)(fe:En->R T)(k:Nat)(js:List Nat):En->RS:=λρ=>(fi (frz ρ)).s λts=>(zo g ft fe k js (frz ρ) ts).s λvs=> .rf vs
theorem U2:∀{H:Hp} {xs:List V} {ts:List T} {its:List Value} {is:List Int},zC H xs ts->Vals xs its->ZN ts=some is->∃ps:List (Int×Tok),its=ps.map (λp=>Value.int p.1 p.2)/\ps.map (·.1)=is
 | _,_,_,_,is,.nil,.nil,h=>by
  have h' :=h;cases h';exact⟨[],rfl,rfl⟩
 | H,_,_,_,is,.cons r rs,.cons rv vs,h=>by
  cases r with
  | int i=>
   unfold ZN at h;split at h
   ·rename_i l e;cases h;obtain⟨ps,h1,h2⟩:=U2 rs vs e;obtain⟨tk,rfl⟩:=rv;exact⟨(i,tk) :: ps,by rw[h1];rfl,by rw[av,h2]⟩
   ·cases h
  | _=>cases h
section
variable {X:Cx}{Y:Fx}{a b:Expr}{fa fb:En->R T}{pos p p' pos' :Pos}
theorem qE (hh:X.A.handled=none):Zk X (.builtin "sum") (λvs H Q=>∃l xs ts is,vs=[.ref l]/\H l=some (.lst xs)/\zC H xs ts/\ZN ts=some is/\Q (.int is.sum) H):=by
 intro pins s σ H vs us Q I rv h;obtain⟨l,xs,ts,is,rfl,hl,r,hk,q⟩:=h;obtain⟨u,rfl,ru⟩:=Zv rv;obtain rfl:u=Value.ref l:=ru;obtain⟨its,rv,p,_⟩:=zO I (.inl hl) r;obtain⟨ps,h1,h2⟩:=U2 r rv hk;have e:its.toArray=intItems ps.toArray:=by rw[h1];simp[intItems]
 rw[e]at p;refine sum_intListG hh p λh' tk t' kp=> ?_;have e2:preSum (numAt ps.toArray) ps.toArray.size=is.sum:=by
  rw[preSum_eq,dI (by simp),← h2]
 rw[e2];exact⟨.int _,H,I.kept kp,⟨t',rfl⟩,q⟩
theorem z3f (hh:X.A.handled=none)(gl:Gl X "sum")(mg:X.mg "sum"=none)(ha:je X Y a fa)(hs:St1 X a:=by exact st1 rfl):Snd X Y (.Call (.Name "sum" p) [a] [] pos) (ap1 kT fa):=
 JM (qE hh) (λv t B H Q r sB q=>by
  cases r with
  | @lst l xs ts h r=>
   have q:Po Y rC B H (match ZN ts with | some k=> .ok _ | none=> .bad) Q:=q
   split at q
   ·rename_i k e;exact⟨l,xs,ts,k,rfl,h,r,e,po0 sB q rfl (.int _)⟩
   ·exact q.elim
  | _=>exact q.elim) gl mg boot_sum ha hs
end
section
variable {X:Cx}{Y:Fx}{tg iter elt:Expr}{ifs:List Expr}{scope:Scope}{pos pos' :Pos}{N' :List Str}{k:Nat}{js:List Nat}{fi:En->R (List T)}{tG:TG}{g:T->En->R En}{ft:En->R Bool}{fe:En->R T}
theorem z01 (C:wL X Y tg iter elt ifs scope N' k js fi tG g ft fe):wz X Y (.Return (some (.ListComp elt [⟨tg,iter,ifs,0⟩] scope pos)) pos') (z1C fi g ft fe k js):= .mk λρ=>by
 have pe:PE X (.ListComp elt [⟨tg,iter,ifs,0⟩] scope pos) (λσ H Q=>∃B,SI Y B (frz ρ) σ H/\PoS Y B ((fi (frz ρ)).s λts=>(zo g ft fe k js (frz ρ) ts).s λvs=> .rf vs) { nx:=λ_ _=>False,rt:=Q }):=by
  intro pins s σ H Q I ⟨B,J,q⟩;refine Wb (jW rfl) (F:=λD H' =>Q (.ref D) H') (te:=λσ H Q=>∃Y' ρ',Y'.cl=Y.cl/\(Y'.E=λ_ _ _=>False)/\tS Y' rC fe ρ' σ H Q) (tt:=λσ H Q=>∃Y' ρ',Y'.cl=Y.cl/\tS Y' rE ft ρ' σ H Q) C.sc C.cp C.cm (C.it (frz ρ)) C.gt
   (λcl Cx' s3 H3 fp pins pins' s σ H Q I ⟨Y',ρ',ey,q⟩=>C.tt Y' ey cl Cx' s3 H3 fp _ ρ' _ s σ H Q I q) (λcl Cx' s3 H3 fp pins xe hp pins' s σ H Q I ⟨Y',ρ',ey,eE,q⟩=>C.el Y' ey cl Cx' s3 H3 fp _ xe (eE ▸ hp) ρ' _ s σ H Q I q) I ?_ ?_ C.hs
  ·refine jY J q λts it' H1 _ s1 r1 J1 q1=> ?_;intro D hD;unfold zo at q1;split at q1
   ·rename_i hl;cases ev:zJ g ft fe ts _ with
    | bad=>rw[ev]at q1;exact q1.elim
    | ex c=>rw[ev]at q1;exact q1.elim
    | ok vs=>
     rw[ev]at q1;refine JP C.gk C.gn J1 r1 hl ev hD λH' xs B' s' e' r' l' b' sb' => ?_;exact(show PoS Y _ _ _ from q1) D xs H' B' (J1.sH.trans s') (J1.sH.free hD) e' r' b' (l'.trans (qj J1.sH J1.old s' J1.sB))
   ·exact q1.elim
  ·intro D Cc H' s' I' q' hC h0 hL hcell hpin hns;obtain⟨m,hm⟩:=hns;refine⟨m,hm,λh' hsb=>⟨.ref D,H', ?_,rfl,q'⟩⟩;exact I'.turned (λb o hb e=>hsb.extBut b o hb e) hC (bK hL).symm (.inr h0) hcell hpin
 refine PS.imp (Yx pe) λD σ H ⟨B,I,q⟩=>⟨_,I.frz, ?_⟩;have q:=PoS.up I.up q;unfold z1C at q;revert q;cases fi _ with
 | bad=>exact λq=>q
 | ex c=>exact λq=>q
 | ok ts=>
  show PoS Y _ ((zo g ft fe k js _ ts).s λvs=> .rf vs) D->PoS Y _ ((zo g ft fe k js _ ts).s λvs=> .rf vs) _;cases zo g ft fe k js _ ts with
  | bad=>exact λq=>q
  | ex c=>exact λq=>q
  | ok vs=>exact λq=>q
end
end PV
namespace PySem.RV
open PySem PySem.Spec PyProof.Rows PySem.Builtin.SmallTypes
theorem UN:Manifest.owners.lookup (String.ofList "desrever".toList.reverse)=some Manifest.sig_reversed:=by kernel_rfl
theorem jh:Slot "reversed" "__next__" "reversed.__next__":=
 .of (owner:="reversed") (n:="__next__") (by kernel_rfl) (by decide+kernel) (by decide+kernel) (by decide+kernel)
  (by first | exact .inl (by decide+kernel) | exact .inr (by decide+kernel)) (by kernel_rfl)
theorem wO:entryFor table "reversed.__next__"=some Builtin.«reversed.__next__»:=entryFor_of_tree (by kernel_rfl)
theorem uc (a:Value):argsOk "reversed.__next__" ⟨[a],[]⟩:=by
 unfold argsOk;rw[signature?_of (n:="__txen__".toList) (by kernel_rfl) UN];kernel_rfl
theorem ud:Slot "reversed" "__iter__" "reversed.__iter__":=
 .of (owner:="reversed") (n:="__iter__") (by kernel_rfl) (by decide+kernel) (by decide+kernel) (by decide+kernel)
  (by first | exact .inl (by decide+kernel) | exact .inr (by decide+kernel)) (by kernel_rfl)
theorem qF (a:Value):argsOk "reversed.__iter__" ⟨[a],[]⟩:=by
 unfold argsOk;rw[signature?_of (n:="__reti__".toList) (by kernel_rfl) UN];kernel_rfl
theorem yW:entryFor table "reversed.__iter__"=some Builtin.«dict_keyiterator.__iter__»:=
 entryFor_alias (id' :="dict_keyiterator.__iter__") (by kernel_rfl) (by first | rfl | decide+kernel | (unfold String.splitOn;simp+decide [String.splitOnAux])) (by decide+kernel) (by kernel_rfl)
theorem z02:typeLookup (.type "tuple") "__reversed__"=pure none:=by rw[typeLookup_type,builtinLookup_eq_fast];kernel_rfl
theorem z03:isSubtype (.type "tuple") (.type "dict")=pure false:=by rw[isSubtype_type];kernel_rfl
noncomputable abbrev IsRv (h:Heap)(it:Addr)(v:Value)(i:Int):Prop:=h.get? it=some { cls:= .type "reversed",data:= .fields #[v,rawInt i] }
section
variable {prog:Program}{w:World}{A:Around}{E:Value->Shared->Prop}{s:Shared}{it l:Addr}{xs:Array Value}
theorem U3 {v:Value}{i:Int}(x:IsRv s.heap it v i):s.TypeIs (.ref it) "reversed":=⟨_,x,rfl⟩
theorem next_item {i:Nat}{x:Value}{Q:Option Value->Shared->Prop}(hit:IsRv s.heap it (.ref l) (i:Int))(ht:IsTup s.heap l xs)(hf:(xs.size:Int) < 2 ^ 63)(hx:xs[i]? =some x)
  (hQ:∀h' tk,IsRv h' it (.ref l) ((i:Int) - 1)->cP it s.heap h' ->Q (some x) { s with heap:=h',toks:=tk }):wpAny (model prog w) A (pyNext (.ref it)) Q E s:=by
 refine a7 (c_ (bz (U3 hit) jh (bV jh (U3 hit) wO ?_ (uc _))));refine a7 (cD rfl ?_);refine a7 (bn hit rfl rfl ?_);refine a7 (bn hit rfl rfl ?_);have hi:=(Array.getElem?_eq_some_iff.mp hx).1;have hT:=ht.typeIs;refine a7 (wpAny_specialOf hT slot_tuple_getitem.lookup ?_);refine a7 (wpAny_mkInt ?_);refine a7 (c_ (getItem_tuple ht (by omega) (by omega) (seqIndex_of (by omega) (by omega)) (by simpa using hx) ?_))
 refine a7 (bn hit rfl rfl ?_);refine a7 (bG hit (by simp) λg1 z1 e1=> ?_)
 exact ar ⟨x,rfl,ar (hQ g1 _ z1 e1)⟩
theorem next_end {Q:Option Value->Shared->Prop}(hh:A.handled=none)(hit:IsRv s.heap it (.ref l) (-1))
  (hQ:∀h',fS it s.heap h' ->Q none { s with heap:=h' }):wpAny (model prog w) A (pyNext (.ref it)) Q E s:=by
 refine a7 (c_ (bz (U3 hit) jh (bV jh (U3 hit) wO ?_ (uc _))));refine a7 (cD rfl ?_);refine a7 (bn hit rfl rfl ?_);refine a7 (bn hit rfl rfl ?_);refine a7 (dL ?_);refine a7 (show wpAny _ _ _ _ _ _ from ?_);refine a7 (bG hit (by simp) λg1 z1 e1=> ?_)
 refine bG z1 (by simp) λg2 z2 e2=> ?_
 refine a7 (show wpAny _ _ (newExc _ [] >>= λe=>raiseNew e) _ _ _ from ?_);refine a7 ?_;refine a7 (bv (a7 (cD (by first | rfl | (simp only[firstArgMember])) (bv ?_ (by size_fits)))) (by size_fits))
 refine a7 (wpAny_handled ?_);rw[hh];refine a7 (ar (wpAny_throw ?_));refine a7 (wpAny_isInstance ⟨_,aj _ rfl,rfl⟩ isSubtype_stop ?_);exact ar (hQ _ (((e1.extBut.trans e2.extBut).push _).push _))
theorem iter_rv {v:Value}{i:Int}{Q:Value->Shared->Prop}(hit:IsRv s.heap it v i)(h:Q (.ref it) s):wpAny (model prog w) A (pyIter (.ref it)) Q E s:=by
 refine wpAny_pyIter_slot (U3 hit) ud (bV ud (U3 hit) yW ?_ (qF _));exact ar ⟨_,rfl,"reversed",_,U3 hit,jh.lookup,h⟩
theorem xU:mroOf (.type "reversed")=pure [.type "reversed",.type "object"]:=by rw[mroOf_type];kernel_rfl
theorem z04:typeLookup (.type "reversed") "__new__"=pure (some (.builtin "reversed.__new__")):=by kernel_rfl
theorem kU:Bind.madeBy (.type "reversed")=pure (some "reversed.__new__"):=madeBy_type xU z04 (by decide+kernel)
theorem z05:isSubtype (.type "reversed") (.type "reversed")=pure true:=by rw[isSubtype_type];kernel_rfl
theorem z06 (a:Value):newClass "reversed" ⟨[.type "reversed",a],[]⟩=pure (.type "reversed",[a]):=by
 unfold newClass;simp only[isType,z05,pure_bind,bg,aw,if_false]
theorem qG:entryFor table "reversed.__new__"=some Builtin.«reversed.__new__»:=entryFor_of_tree (by kernel_rfl)
theorem Vs {Q:Fin->Shared->Prop}(ht:IsTup s.heap l xs)(hf:(xs.size:Int) < 2 ^ 63)
  (h:∀tk,Q (.done (.ret (.ref s.heap.objs.size))) { s with heap:=s.heap.push { cls:= .type "reversed",data:= .fields #[.ref l,rawInt ((xs.size:Int) - 1)] },toks:=tk }):
  wpAny (model prog w) A (Builtin.«reversed.__new__» ⟨[.type "reversed",.ref l],[]⟩) Q E s:=by
 have hT:=ht.typeIs;refine a7 (cD (z06 _) ?_);refine a7 (cD (by first | rfl | kernel_rfl) ?_)
 refine a7 (cD (by first | rfl | kernel_rfl) ?_)
 refine a7 (wpAny_specialOf hT z02 ?_);refine a7 ?_;refine a7 (wpAny_isInstance hT z03 ?_);refine a7 (wpAny_specialOf hT slot_tuple_getitem.lookup ?_);refine ar ?_;refine a7 (len_tuple ht hf ?_);refine a7 (cD rfl ?_);refine a7 (show wpAny _ _ (newObj _ (.fields #[.ref l,rawInt _])) _ _ _ from ?_);exact bv (ar (h _)) (by size_fits)
theorem qH:Slot "reversed" "__init__" "object.__init__":=
 .of (owner:="object") (n:="__init__") (by kernel_rfl) (by decide+kernel) (by decide+kernel) (by decide+kernel)
  (by first | exact .inl (by decide+kernel) | exact .inr (by decide+kernel)) (by kernel_rfl)
theorem qI:TypeCalled "reversed" "reversed.__new__" "object.__init__":=
 ⟨by decide+kernel,by decide+kernel,⟨_,_,xU⟩,kU,by decide+kernel,by kernel_rfl,qH⟩
theorem Vt (a:Value):checkTypeCall "reversed" ⟨[a],[]⟩=pure ():=by kernel_rfl
theorem Vu (a:Value):checkBuiltinCall "reversed.__new__" ⟨[.type "reversed",a],[]⟩=pure ():=by kernel_rfl
theorem call_rvT (ht:IsTup s.heap l xs)(hf:(xs.size:Int) < 2 ^ 63)
  (h:∀tk,Q (.ref s.heap.objs.size) { s with heap:=s.heap.push { cls:= .type "reversed",data:= .fields #[.ref l,rawInt ((xs.size:Int) - 1)] },toks:=tk }):wpAny (model prog w) A (call (.type "reversed") [.ref l]) Q E s:=by
 refine callType_new (S:=λ_ R s=>(∃xs,IsTup s.heap l xs/\(xs.size:Int) < 2 ^ 63/\∀tk,R (.ok (.ret (.ref s.heap.objs.size))) { s with heap:=s.heap.push { cls:= .type "reversed",data:= .fields #[.ref l,rawInt ((xs.size) - 1)] },toks:=tk })) qI (by decide) (Vt _) (Vu _) (λobj=>PySem.F.args_object_init_2 obj _) qG (.of_wp λprog w A R s h=> ?_) ⟨xs,ht,hf,λtk=> ?_⟩
 ·obtain⟨xs,h1,h2,h3⟩:=h;exact Vs h1 h2 λtk=>⟨_,rfl,h3 tk⟩
 ·exact⟨⟨_,aj _ rfl,rfl⟩,h tk⟩
end
end PySem.RV
namespace PySem.RV
open PySem PySem.Spec PyProof.Rows
theorem Vv:typeLookup (.type "list_reverseiterator") "__len__"=pure none:=by rw[typeLookup_type,builtinLookup_eq_fast];kernel_rfl
theorem kW:typeLookup (.type "list_reverseiterator") "__length_hint__"=pure (some (.builtin "list_reverseiterator.__length_hint__")):=by rw[typeLookup_type];kernel_rfl
section
variable {G:Array GenState->Array GenState->Prop}{P:Nat->Value->Prop}{St:Nat->Shared->Prop}
theorem yX {Q:List Value->Shared->Prop}(W:WalksS prog w A.in1 I fp wr G n P St)(hT:∀i s,St i s->s.TypeIs (.ref I) "list_reverseiterator")(hst:St 0 s)(hfp:∀b∈fp,b < s.heap.objs.size)(hI:I∈fp)
  (hQ:∀s' acc,Moved wr G s s' ->ItemsOf P acc n->Q acc.toList s') (hn:n<=sizeLine):wpAny (model prog w) A (collect (.ref I)) Q E s:=by
 have nf:=λz=>bH _ (hfp _ z);have nI:s.heap.objs.size ≠ I:=λz=>nf (z ▸ hI);unfold collect;refine a7 (wpAny_runValue (bS F.entry_proto_collect ?_));refine a7 (bv (ar ⟨dn F.plain_list_iadd _,bS F.entry_list_iadd ?_⟩));have g0:=W.frame 0 s (s.heap.push { cls:= .type "list",data:= .seq ([]:List _).toArray }) _ hst (am _) λb _ o e=>ag _ e;have g1:(s.heap.push { cls:= .type "list",data:= .seq ([]:List _).toArray }).get? _=some _:=aj _ rfl;have g2:eQ (.ref s.heap.objs.size) (.ref I)=false:=by simp[eQ,nI]
 refine(show wpAny _ _ (Builtin.List.listExtendWith _ _ _) _ _ _ from ?_);refine a7 (db (hT 0 _ g0) ?_);rw[if_neg (by rw[g2];decide)]
 refine a7 (W.self 0 _ _ _ g0 (a7 (ck ?_)));refine a7 (wpAny_specialOf (hT 0 _ g0) Vv ?_);refine a7 (wpAny_specialOf (hT 0 _ g0) kW ?_);generalize hid:("list_reverseiterator.__length_hint__")=id0;subst hid;refine a7 (wpAny_isInstance (b:=true) (hT 0 _ g0) (by kernel_rfl) ?_)
 refine ar ?_;refine ar ⟨dn F.plain_extend_loop _,codeAny_extend_loopS W hn _ nf _ n 0 _ _ _ rfl (br _) g0 g1 (ItemsOf.nil P) λs' acc' c' hm hS' hacc=> ?_⟩;exact a7 (wpAny_load hS' (ar (hQ s' _ (Moved.drop_new hm (am _)) hacc)))
theorem z07 (W:WalksS prog w A.in1.in1 I fp wr G n P St)(hT:∀i s,St i s->s.TypeIs (.ref I) "list_reverseiterator")(hst:St 0 s)(hfp:∀b∈fp,b < s.heap.objs.size)(hI:I∈fp)
  (h:∀s' acc,Moved wr G s s' ->ItemsOf P acc n->Q₁ (.ref s'.heap.objs.size) { s' with heap:=s'.heap.push { cls:= .type "tuple",data:= .seq acc } }) (hsz:n<=sizeLine):
  codeAny (model prog w) A (.call (.builtin "tuple.__new__") ⟨[.type "tuple",.ref I],[]⟩) (wants Q₁ E) s:=by
 refine codeAny_of_tree ?_;refine(show wpAny _ A.in1 (do checkBuiltinCall "tuple.__new__" ⟨[.type "tuple",.ref I],[]⟩;again (.builtin "tuple.__new__" ⟨[.type "tuple",.ref I],[]⟩)) _ _ s from ?_)
 refine a7 (cD (F.newCall_tuple_1 _) (ar ⟨dn iy _,bS F.entry_tuple_new ?_⟩));rw[Around.under_plainId iy _];have hsub:=sub_tuple_self;have hinit:=init_tuple_lookup;have hmh:=madeHere_tuple;have ty:=hT 0 s hst
 wp_walk using db ty,yX (hn:=hsz) W hT hst hfp hI
 intro s' acc hm hacc;have e:acc.toList.toArray=acc:=by simp
 refine(show wpAny _ _ (eR acc.toList.toArray >>= λv=>ret v) _ _ _ from ?_);unfold eR;refine a7 (bv (ar ?_) (by rw[e];show acc.size<=sizeLine;rw[hacc.1];exact hsz))
 rw[e];exact h s' acc hm hacc
theorem tuple_lr (W:WalksS prog w A.in1.in1.in1 I fp wr G n P St)(hT:∀i s,St i s->s.TypeIs (.ref I) "list_reverseiterator")(hst:St 0 s)(hfp:∀b∈fp,b < s.heap.objs.size)(hI:I∈fp)
  (hQ:∀s' acc,Moved wr G s s' ->ItemsOf P acc n->Q (.ref s'.heap.objs.size) { s' with heap:=s'.heap.push { cls:= .type "tuple",data:= .seq acc } }) (hsz:n<=sizeLine):
  wpAny (model prog w) A (call (.type "tuple") [.ref I]) Q E s:=
 callType_codes (Q₁:=λobj s₁=>s₁.TypeIs obj _/\Q obj _) fU (F.typeCall_tuple_1 _) F.entry_object_init
  (z07 (hsz:=hsz) W hT hst hfp hI λs' acc hm hacc=>⟨⟨_,aj _ rfl,rfl⟩,hQ s' acc hm hacc⟩) λobj s₁ h₁=>
   ⟨h₁.1,fV obj _,object_init_meets fU.init.lookup fU.made (by decide) _ w _ _ _ ⟨h₁.1,rfl,h₁.2⟩⟩
end
end PySem.RV
namespace PV
open PySem PySem.Spec PyProof.Rows L2
def z3g (K:ae)(a:Addr)(n:Nat):It:=
 ⟨λi H=>∃xs x,SqT K H a xs/\xs.length=n/\xs.reverse[i]? =some x,λi H x H' =>H' =H/\∀xs,SqT K H a xs->xs.reverse[i]? =some x,λi H=>∃xs,SqT K H a xs/\xs.length=n/\n<=i⟩
def z3h (K:ae)(a:Addr)(n:Nat):It:=
 ⟨λi H=>∃xs x,SqL K H a xs/\xs.length=n/\xs.reverse[i]? =some x,λi H x H' =>H' =H/\∀xs,SqL K H a xs->xs.reverse[i]? =some x,λi H=>∃xs,SqL K H a xs/\xs.length=n/\n<=i⟩
theorem xV {α:Type}{xs:List α}{x:α}(h:xs.reverse[i]? =some x):i < xs.length/\xs[xs.length - 1 - i]? =some x:=by
 have hi:=(au.mp h).1;rw[cf]at hi;rw[fO hi]at h;exact⟨hi,h⟩
theorem Vw {P:Program}{w:World}{K:ae}{tg:Expr}(a it:Addr)(n:Nat):Yl P w K tg (z3g K a n) [it] it (λi h=>i<=n/\RV.IsRv h it (.ref a) ((n:Int) - 1 - (i:Int))) where
 mem:=by simp
 obj:=λi h st b hb=>by
  have e:b=it:=by simpa using hb
  subst e;exact⟨_,st.2,λv z=>nomatch z⟩
 keep:=λi h h' st k=>⟨st.1,k it (by simp) _ st.2⟩
 item:=by
  intro X hP hw hK hc i pins s σ H E I hf st hg;subst hP hw hK;obtain⟨xs,x,hq,hn,hx⟩:=hg;obtain⟨its,rv,p,hz⟩:=I.tuple hq;obtain⟨hi,hx'⟩:=xV hx;obtain⟨u,hu,ru⟩:=rv.get hx';obtain⟨f0,f1,f2,f3,f4,f5⟩:=hf it (by simp)
  have hl:=rv.length;have e:(n:Int) - 1 - (i:Int)=((xs.length - 1 - i:Nat):Int):=by omega
  have hit:=st.2;rw[e]at hit;have hb:(its.toArray.size:Int) < 2 ^ 63:=by
   rw[cj]at hz;simp;omega
  refine RV.next_item hit p hb (x:=u) (by simpa using hu) λh' tk st' sb=> ?_
  have I1:Inv X pins σ H { s with heap:=h',toks:=tk }:=I.turned (t' :=tk) (λb o hb e=>(sb.2 b hb).trans e) f0 f1 f3 f4 f5;have e2:((xs.length - 1 - i:Nat):Int) - 1=(n:Int) - 1 - ((i+1:Nat):Int):=by omega
  rw[e2]at st';exact⟨u,rfl,yG (s:={ s with heap:=h',toks:=tk }) st' rfl rfl (by decide) ⟨x,H,I1,ru,⟨rfl,λys hy=>by rw[I.tuple_inj hy hq];exact hx⟩,⟨by omega,st'⟩,λb hb=>(hf b hb).1⟩⟩
 done:=by
  intro X hP hw hK hc i pins s σ H E I hf st hg;subst hP hw hK;obtain⟨xs,hq,hn,hx⟩:=hg;obtain⟨f0,f1,f2,f3,f4,f5⟩:=hf it (by simp)
  have hit:=st.2;have h1:=st.1;rw[show (n:Int) - 1 - (i:Int)= -1 by omega]at hit
  exact RV.next_end (I.ok.hd hc) hit λh' eb=>⟨rfl,I.turned (t' :=s.toks) (λb o hb e=>eb b o hb e) f0 f1 f3 f4 f5⟩
 self:=λ_ _ _ _ _ st h=>RV.iter_rv st.2 h
theorem Vx {P:Program}{w:World}{K:ae}{tg:Expr}(a it:Addr)(n:Nat):Yl P w K tg (z3h K a n) [it] it (λi h=>i<=n/\h.IsRevIter it a ((n:Int) - 1 - (i:Int))) where
 mem:=by simp
 obj:=λi h st b hb=>by
  have e:b=it:=by simpa using hb
  subst e;obtain⟨o,e,c,d⟩:=st.2;exact⟨o,e,λv z=>by rw[d]at z;cases z⟩
 keep:=λi h h' st k=>⟨st.1,st.2.at λo e=>k it (by simp) o e⟩
 item:=by
  intro X hP hw hK hc i pins s σ H E I hf st hg;subst hP hw hK;obtain⟨xs,x,hq,hn,hx⟩:=hg;obtain⟨its,rv,p,hz⟩:=I.list hq;obtain⟨hi,hx'⟩:=xV hx;obtain⟨u,hu,ru⟩:=rv.get hx';obtain⟨f0,f1,f2,f3,f4,f5⟩:=hf it (by simp)
  have e:(n:Int) - 1 - (i:Int)=((xs.length - 1 - i:Nat):Int):=by omega
  have hit:=st.2;rw[e]at hit;refine wpAny_pyNext_rev_item hit p.isList (x:=u) (by simpa using hu) λh' st' sb=> ?_
  have I1:Inv X pins σ H { s with heap:=h' }:=I.turned (t' :=s.toks) (λb o hb e=>(sb.2 b hb).trans e) f0 f1 f3 f4 f5;have e2:((xs.length - 1 - i:Nat):Int) - 1=(n:Int) - 1 - ((i+1:Nat):Int):=by omega
  rw[e2]at st';obtain⟨o,e,c,d⟩:=id st';exact⟨u,rfl,yG (s:={ s with heap:=h' }) e c d (by decide) ⟨x,H,I1,ru,⟨rfl,λys hy=>by rw[I.list_inj hy hq];exact hx⟩,⟨by omega,st'⟩,λb hb=>(hf b hb).1⟩⟩
 done:=by
  intro X hP hw hK hc i pins s σ H E I hf st hg;subst hP hw hK;obtain⟨xs,hq,hn,hx⟩:=hg;obtain⟨f0,f1,f2,f3,f4,f5⟩:=hf it (by simp)
  have hit:=st.2;have h1:=st.1;rw[show (n:Int) - 1 - (i:Int)= -1 by omega]at hit
  exact wpAny_pyNext_rev_end (I.ok.hd hc) hit λh' eb=>⟨rfl,I.turned (t' :=s.toks) (λb o hb e=>eb b o hb e) f0 f1 f3 f4 f5⟩
 self:=λ_ _ _ _ _ st h=>wpAny_pyIter_revIter st.2 h
theorem zC.rev {H:Hp}:∀{vs:List V} {ts:List T},zC H vs ts->zC H vs.reverse ts.reverse
 | _,_,.nil=> .nil
 | _,_,.cons r t=>by rw[cF,cF];exact(zC.rev t).append (.cons r .nil)
theorem z08 {K:ae}{B1 H1:Hp}{a:Addr}{xs:List V}{ts:List T}(h:B1 a=some (.tup xs))(r:zC B1 xs ts):rI B1 H1 (z3g K a xs.length) ts.reverse:=λB2 H2 s1 s2=>by
 have h2:=s2 _ _ (s1 _ _ h);have hr:=r.rev;refine⟨λi hi=> ?_,λi t x H3 e y=> ?_,λi hi=>⟨xs,SqT.of h2,rfl,by rw[cf]at hi;rw[r.length];exact hi⟩⟩
 ·obtain⟨v,e,_⟩:=hr.get (ah hi);exact⟨xs,v,SqT.of h2,rfl,e⟩
 ·obtain⟨rfl,y⟩:=y;obtain⟨v,e1,r1⟩:=hr.get e;have:=y xs (SqT.of h2);rw[e1]at this;cases this;refine⟨zt.refl _, ?_⟩;rw[zQ.self B2 _ s2];exact r1.mono s1
theorem z09 {K:ae}{B1 H1:Hp}{a:Addr}{xs:List V}{ts:List T}(h:B1 a=some (.lst xs))(r:zC B1 xs ts):rI B1 H1 (z3h K a xs.length) ts.reverse:=λB2 H2 s1 s2=>by
 have h2:=s2 _ _ (s1 _ _ h);have hr:=r.rev;refine⟨λi hi=> ?_,λi t x H3 e y=> ?_,λi hi=>⟨xs,SqL.of h2,rfl,by rw[cf]at hi;rw[r.length];exact hi⟩⟩
 ·obtain⟨v,e,_⟩:=hr.get (ah hi);exact⟨xs,v,SqL.of h2,rfl,e⟩
 ·obtain⟨rfl,y⟩:=y;obtain⟨v,e1,r1⟩:=hr.get e;have:=y xs (SqL.of h2);rw[e1]at this;cases this;refine⟨zt.refl _, ?_⟩;rw[zQ.self B2 _ s2];exact r1.mono s1
def z3i (fa:En->R T):En->R (List T):=λρ=>(fa ρ).bind λt=>(J0 t).bind λxs=> .ok xs.reverse
def Vy:T->R T
 | .lst xs=>if xs.length<=bnd then .ok (.tup xs.reverse) else .bad
 | _=> .bad
section
variable {X:Cx}{Y:Fx}{a b tg:Expr}{fa fb:En->R T}{pos p p' pos' :Pos}
theorem z0a {ta:TA}(hg:Gl X "reversed")(hm:X.mg "reversed"=none)(ha:PA X [a] ta)(hs:St1 X a:=by exact st1 rfl):
  PI X tg (.Call (.Name "reversed" p) [a] [] pos) (λσ H R=>ta σ H λvs H1=>∃l xs,vs=[.ref l]/\((H1 l=some (.lst xs)/\R (z3h X.K l xs.length) H1)\/(H1 l=some (.tup xs)/\R (z3g X.K l xs.length) H1))):=by
 intro pins s σ H R I h;refine Call_ (j9 I hg hm boot_reversed (aT (thn (ha pos _ s σ H _ I h) λus s1 ⟨vs,H1,I1,r1,q1⟩=> ?_) hs rfl));obtain⟨l,xs,e,q⟩:=q1;subst e;obtain⟨u,rfl,ru⟩:=Zv r1;obtain rfl:u=Value.ref l:=ru;have ok:∀b∈[s1.heap.objs.size],WQ X _ H1 b:=λb hb=>by
  have e:=by simpa using hb
  subst e;exact I1.fpOk (am _) (I1.hok.fresh (am _))
 rcases q with ⟨hl,q⟩ | ⟨hl,q⟩
 ·obtain⟨its,rv,p,hz⟩:=I1.list (SqL.of hl);have e:((its.toArray.size):Int) - 1=(xs.length) - 1 - ((0):Int):=by have:=rv.length;simp;omega
  refine call_reversed_list p.isList ?_;rw[e];have st:(s1.heap.push (revObj l ((xs.length) - 1 - ((0):Int)))).IsRevIter _ l _:=⟨_,aj _ rfl,rfl,rfl⟩;refine wpAny_pyIter_revIter st ?_;exact⟨s1.heap.objs.size,[s1.heap.objs.size],_,_,H1,rfl,I1.kept (λb o e=>ag _ e),Vx l _ _,⟨br _,st⟩,ok,q⟩
 ·obtain⟨its,rv,p,hz⟩:=I1.tuple (SqT.of hl);have hlen:=rv.length;have e:((its.toArray.size):Int) - 1=(xs.length) - 1 - ((0):Int):=by simp;omega
  refine RV.call_rvT p (by rw[cj]at hz;omega) λtk=> ?_
  rw[e];refine RV.iter_rv (aj _ rfl) ?_;exact⟨s1.heap.objs.size,[s1.heap.objs.size],_,_,H1,rfl,I1.kept (λb o e=>ag _ e),Vw l _ _,⟨br _,aj _ rfl⟩,ok,q⟩
theorem z3j (hg:Gl X "reversed")(hm:X.mg "reversed"=none)(ha:Snd X Y a fa)(hs:St1 X a:=by exact st1 rfl):uY X Y tg (.Call (.Name "reversed" p) [a] [] pos) (z3i fa):= .mk λρ=>
 PI.imp (z0a hg hm (zv (ha ρ) zP hs) hs) λσ H R ⟨B,I,q⟩=>step I q λt v H1 _ s1 r1 I1 q1=>by
  cases r1 with
  | @tup l xs ts h r=>exact⟨l,xs,rfl,.inr ⟨I1.sB _ _ h,ZB I1 (show Po Y rI _ H1 _ R from q1) (z08 h r)⟩⟩
  | @lst l xs ts h r=>exact⟨l,xs,rfl,.inl ⟨I1.sB _ _ h,ZB I1 (show Po Y rI _ H1 _ R from q1) (z09 h r)⟩⟩
  | _=>exact q1.elim
theorem UO:∀{xs ys:List V} {us ws:List Value},Vals xs us->Vals ys ws->Vals (xs++ys) (us++ws)
 | _,_,_,_,.nil,q=>q
 | _,_,_,_,.cons r t,q=> .cons r (UO t q)
theorem UP:∀{xs:List V} {us:List Value},Vals xs us->Vals xs.reverse us.reverse
 | _,_,.nil=> .nil
 | _,_,.cons r t=>by rw[cF,cF];exact UO (UP t) (.cons r .nil)
theorem kX {its:List Value}{acc:Array Value}(h:ItemsOf (λi v=>its.toArray[its.toArray.size - 1 - i]? =some v) acc its.toArray.size):acc.toList=its.reverse:=by
 have h1:=by
  have:=h.1;simpa using this
 have h2:=h.2;refine dG λi=> ?_
 by_cases hi:i < its.length
 ·have hlt:i < acc.toList.length:=by simp;omega
  have e:=ah hlt;have:=h2 i _ (by rw[← Array.getElem?_toList];exact e)
  rw[fO hi,e,← this];simp
 ·rw[aS (by simp;omega),aS (by simp;omega)]
theorem z0b (hh:X.A.handled=none)(gl:Gl X "tuple")(mg:X.mg "tuple"=none)(gl' :Gl X "reversed")(mg' :X.mg "reversed"=none)(ha:Snd X Y a fa)(hs:St1 X a:=by exact st1 rfl)(hs' :St1 X (.Call (.Name "reversed" p') [a] [] pos'):=by exact st1 rfl):
  Snd X Y (.Call (.Name "tuple" p) [.Call (.Name "reversed" p') [a] [] pos'] [] pos) (ap1 Vy fa):= .mk λρ=>by
 intro pins s σ H Q I ⟨B,J,q⟩;have hq:tS Y rC fa ρ σ H (λv H1=>∃l xs,v= .ref l/\H1 l=some (.lst xs)/\xs.length<=sizeLine/\∀t,H1 t=none->Q (.ref t) (upd H1 t (.tup xs.reverse))):=by
  refine step J q λt v H1 _ s1 r1 I1 q1=> ?_;cases r1 with
  | @lst l xs ts h r=>
   have q1:Po Y rC _ H1 (if ts.length<=bnd then .ok (.tup ts.reverse) else .bad) Q:=q1
   split at q1
   ·rename_i hb;exact⟨l,xs,rfl,I1.sB _ _ h,by rw[r.length];exact ZM hb,λt ht=>Gh I1.sB q1 rfl r.rev ht⟩
   ·exact q1.elim
  | _=>exact q1.elim
 refine wpAny_Call_Name_kw (j9 I gl mg PyProof.Rows.Boot.«tuple» (aT (rest:=[]) ?_ hs' rfl));rw[hs'];refine i4 (wpAny_Call_Name_kw (j9 I gl' mg' boot_reversed (aT (e:=a) (rest:=[]) ?_ hs rfl)));refine thn ((zv (ha ρ) zP hs) pos' pins s σ H (λvs H1=>∃l xs,vs=[.ref l]/\H1 l=some (.lst xs)/\xs.length<=sizeLine/\∀t,H1 t=none->Q (.ref t) (upd H1 t (.tup xs.reverse))) I ?_) λus s1 ⟨vs,H1,I1,r1,l,xs,e,hl,hz,q1⟩=> ?_
 ·obtain⟨B',J',q'⟩:=hq;refine⟨B',J', ?_⟩;revert q';cases fa ρ with
  | bad=>exact λq' =>q'
  | ex c=>exact λq' =>q'
  | ok t=>
   intro q' v H1 s1 r1;obtain⟨l,xs,rfl,h⟩:=q' v H1 s1 r1;exact⟨l,xs,rfl,h⟩
 subst e;obtain⟨u,rfl,ru⟩:=Zv r1;obtain rfl:u=Value.ref l:=ru;obtain⟨its,rv,pl,_⟩:=I1.list (SqL.of hl);have hlt:=I1.hok.lt hl;refine call_reversed_list pl.isList (io ?_);have e0:((its.toArray.size):Int) - 1 - ((0:Nat))=((its.toArray.size):Int) - 1:=by omega
 refine RV.tuple_lr (Walks.listRev (A:=X.A.in1.in1.in1) hh _ l (aC hlt) _).toS (λi s st=>st.2.1.typeIs) ⟨br _,⟨_,aj _ rfl,rfl,by rw[e0];rfl⟩,pl.isList.push _⟩ (λb hb=> ?_) (by simp) (λs' acc hm hacc=> ?_) (by rw[aE,← rv.length];exact hz)
 ·have hb:=by simpa using hb
  rcases hb with rfl | rfl
  ·rw[cx];exact dM _
  ·rw[cx];exact cC hlt
 obtain⟨h',g',d',tk',os'⟩:=s';have e1:g' =s1.gens:=hm.gens;have e2:d' =s1.drawn:=hm.drawn;have e3:=hm.os;subst e1 e2 e3;have kp:∀b o,s1.heap.get? b=some o->h'.get? b=some o:=λb o e=>hm.heap b o (λz=>by
  have z:b=s1.heap.objs.size:=by simpa using z
  have:=aq e;rw[z]at this;exact bH _ this) (ag _ e)
 have I2:=I1.kept (t' :=tk') kp;have ea:acc=its.reverse.toArray:=by rw[← kX hacc]
 rw[ea];refine⟨.ref h'.objs.size,upd H1 _ (.tup xs.reverse),I2.laid (λb u e=>ag _ e) (am _) ⟨by rw[cf];exact hz,its.reverse,UP rv,⟨_,aj _ rfl,rfl,_,rfl⟩,.inr ⟨_,aj _ rfl,rfl⟩⟩,rfl,q1 _ (I2.hok.fresh (am _))⟩
end
noncomputable def wB:List T->Option Bool
 | []=>some false
 | .bl k :: r=>match wB r with | some j=>some (k || j) | none=>none
 | _ :: _=>none
def z3k:T->R T
 | .lst ts=>match wB ts with | some k=> .ok (.bl k) | none=> .bad
 | _=> .bad
theorem qJ:∀{H:Hp} {xs:List V} {ts:List T} {its:List Value} {k:Bool},zC H xs ts->Vals xs its->wB ts=some k->∃tr:Nat->Bool,(∀i v,its[i]? =some v->v=Value.bool (tr i))/\(aX its.length).any tr=k
 | _,_,_,_,k,.nil,.nil,h=>by
  have h' :=h;cases h';exact⟨λ_=>true,λi v e=>by simp at e,rfl⟩
 | H,_,_,_,k,.cons r rs,.cons (b:=u) rv vs,h=>by
  cases r with
  | bl b=>
   unfold wB at h;split at h
   ·rename_i j e;cases h;obtain⟨tr,h1,h2⟩:=qJ rs vs e;obtain rfl:u=Value.bool b:=rv;refine⟨λi=>match i with | 0=>b | i+1=>tr i,λi v e=> ?_, ?_⟩
    ·cases i with
     | zero=>simp at e;exact e.symm
     | succ i=>exact h1 i v (by simpa using e)
    ·rw[ai,ci,eP,List.any_map,← h2];rfl
   ·cases h
  | _=>cases h
section
variable {X:Cx}{Y:Fx}{a b:Expr}{fa fb:En->R T}{pos p p' pos' pt:Pos}{elts:List Expr}{kk:Nat}
theorem qK (hh:X.A.handled=none):Zk X (.builtin "any") (λvs H Q=>∃l xs ts k,vs=[.ref l]/\H l=some (.lst xs)/\zC H xs ts/\wB ts=some k/\Q (.bl k) H):=by
 intro pins s σ H vs us Q I rv h;obtain⟨l,xs,ts,k,rfl,hl,r,hk,q⟩:=h;obtain⟨u,rfl,ru⟩:=Zv rv;obtain rfl:u=Value.ref l:=ru;obtain⟨its,rv,p,_⟩:=zO I (.inl hl) r;obtain⟨tr,h1,h2⟩:=qJ r rv hk;refine call_any_walk (wpAny_pyIter_list p ?_);have hlt:=I.hok.lt hl;have old:∀b o,s.heap.get? b=some o->(s.heap.push { cls:= .type "list_iterator",data:= .fields #[.ref l,.int 0 0] }).get? b=some o:=λb o e=>ag _ e;refine⟨s.heap.objs.size,_,_,_,_,_,tr,rfl,lj (A:=X.A.in1) hh _ l (aC hlt) its.toArray, ?_, ?_,λh' tk hk' => ?_⟩
 ·refine⟨?_,p.at λo e=>old _ o e⟩;exact⟨_,aj _ rfl,rfl,rfl⟩
 ·intro i v s' Q' E' hi hq;rw[h1 i v (by simpa using hi)]
  exact bj hq
 ·rw[aE,h2];refine⟨.bl k,H,I.kept (λb o e=>hk' b o ?_ (old b o e)),rfl,q⟩;simp;exact aC (aq e)
theorem z3l (hh:X.A.handled=none)(gl:Gl X "any")(mg:X.mg "any"=none)(ha:je X Y a fa)(hs:St1 X a:=by exact st1 rfl):Snd X Y (.Call (.Name "any" p) [a] [] pos) (ap1 z3k fa):=
 JM (qK hh) (λv t B H Q r sB q=>by
  cases r with
  | @lst l xs ts h r=>
   have q:Po Y rC B H (match wB ts with | some k=> .ok _ | none=> .bad) Q:=q
   split at q
   ·rename_i k e;exact⟨l,xs,ts,k,rfl,h,r,e,po0 sB q rfl (.bl k)⟩
   ·exact q.elim
  | _=>exact q.elim) gl mg PyProof.Rows.Boot.«any» ha hs
end
noncomputable def UQ (x:Int):List Int->List Int
 | []=>[x]
 | y :: ys=>if x<=y then x :: y :: ys else y :: UQ x ys
def qL:List Int->List Int
 | []=>[]
 | x :: xs=>UQ x (qL xs)
def Vz:T->R T
 | .lst ts=>match ZN ts with | some l=>if ts.length < 64 then .ok (.lst ((qL l).map T.int)) else .bad | none=> .bad
 | _=> .bad
theorem JR (x:Int):∀ys:List Int,(UQ x ys).Perm (x :: ys)
 | []=> .refl _
 | y :: ys=>by
  unfold UQ;split
  ·exact .refl _
  ·exact((JR x ys).cons y).trans (.swap x y ys)
theorem ue:∀xs:List Int,(qL xs).Perm xs
 | []=> .refl _
 | x :: xs=>(JR x _).trans ((ue xs).cons x)
theorem JS (x:Int):∀ys:List Int,ys.Pairwise (·<=·)->(UQ x ys).Pairwise (·<=·)
 | [],_=>by unfold UQ;simp
 | y :: ys,h=>by
  unfold UQ;rw[aP]at h;split
  ·rename_i hx;refine aP.mpr ⟨λz hz=> ?_,aP.mpr h⟩;rcases ak.mp hz with rfl | hz
   ·exact hx
   ·exact iz hx (h.1 z hz)
  ·refine aP.mpr ⟨λz hz=> ?_,JS x ys h.2⟩;rcases ak.mp ((JR x ys).mem_iff.mp hz) with rfl | hz
   ·omega
   ·exact h.1 z hz
theorem JT:∀xs:List Int,(qL xs).Pairwise (·<=·)
 | []=> .nil
 | x :: xs=>JS x _ (JT xs)
theorem uf:∀(xs ys:List Int),xs.Perm ys->xs.Pairwise (·<=·)->ys.Pairwise (·<=·)->xs=ys
 | [],ys,p,_,_=>(List.nil_perm.mp p).symm
 | x :: xs,[],p,_,_=>by cases List.perm_nil.mp p
 | x :: xs,y :: ys,p,h1,h2=>by
  rw[aP]at h1 h2;have e:x=y:=by
   have a1:x<=y:=by
    rcases ak.mp (p.mem_iff.mpr (a9)) with z | z
    ·omega
    ·exact h1.1 y z
   have a2:y<=x:=by
    rcases ak.mp (p.mem_iff.mp (a9)) with z | z
    ·omega
    ·exact h2.1 x z
   omega
  subst e;rw[uf xs ys (i9 p) h1.2 h2.2]
theorem jL:∀{its:List Value} {ns:List Int},IntsAre its ns->Vals (ns.map V.int) its:=by
 intro its ns h
 induction h with
 | nil=>exact .nil
 | cons n t _ ih=>exact .cons ⟨_,rfl⟩ ih
theorem UR:∀(ps:List (Int×Tok)),IntsAre (ps.map λp=>Value.int p.1 p.2) (ps.map (·.1))
 | []=> .nil
 | p :: ps=> .cons _ _ (UR ps)
theorem ug:∀ns:List Int,zC H (ns.map V.int) (ns.map T.int)
 | []=> .nil
 | n :: ns=> .cons (.int n) (ug ns)
section
theorem yY:Zk X (.builtin "sorted") (λvs H Q=>∃l xs ts is,vs=[.ref l]/\H l=some (.lst xs)/\zC H xs ts/\ZN ts=some is/\ts.length < 64/\∀r,H r=none->Q (.ref r) (upd H r (.lst ((qL is).map V.int)))):=by
 intro pins s σ H vs us Q I rv h;obtain⟨l,xs,ts,is,rfl,hl,r,hk,h64,q⟩:=h;obtain⟨u,rfl,ru⟩:=Zv rv;obtain rfl:u=Value.ref l:=ru;obtain⟨its,rv,p,hlen,_⟩:=zO I (.inl hl) r;obtain⟨ps,h1,h2⟩:=U2 r rv hk;refine sorted_ints p (h1 ▸ UR ps) (by omega) λout ns' a1 a2 a3=> ?_
 have e:=uf _ _ (a2.trans (by rw[h2];exact(ue is).symm)) a3 (JT is)
 obtain⟨n,he⟩:=sortedAll_at _ its out;have hle:s.heap.objs.size<=s.heap.objs.size+1:=dO _;refine⟨.ref _,upd H _ _,I.laid (λb u e=>sortedAll_old e) hle ?_,rfl,by have:=q _ (I.hok.fresh hle);rw[← e]at this;exact this⟩
 have hl2:ns'.length=ts.length:=by
  have h3:=a2.length_eq;rw[aa]at h3;have h4:its.length=ps.length:=by rw[h1,aa]
  omega
 exact⟨by rw[aa,cj];omega,out.toList,n,jL a1,he⟩
theorem z0c (gl:Gl X "sorted")(mg:X.mg "sorted"=none)(ha:je X Y a fa)(hs:St1 X a:=by exact st1 rfl):Snd X Y (.Call (.Name "sorted" p) [a] [] pos) (ap1 Vz fa):=
 JM yY (λv t B H Q r sB q=>by
  cases r with
  | @lst l xs ts h r=>
   have q:Po Y rC B H (match ZN ts with | some l=>if ts.length < 64 then .ok _ else .bad | none=> .bad) Q:=q
   split at q
   ·rename_i is e;split at q
    ·rename_i h64;refine⟨l,xs,ts,is,rfl,h,r,e,h64,λz hz=> ?_⟩;exact q _ _ (zt.new hz _) (.lst (j1 hz _) (ug _))
    ·exact q.elim
   ·exact q.elim
  | _=>exact q.elim) gl mg PyProof.Rows.Boot.«sorted» ha hs
end
end PV
namespace PySem.RV
open PySem PySem.Spec PyProof.Rows PySem.Builtin.SmallTypes
theorem draws_tup (hh:A.handled=none)(it l:Addr)(hne:l ≠ it)(items:Array Value):Draws prog w A it [it,l] items.size (λi v=>items[i]? =some v) (λi h=>h.IsTupleIter it l i/\h.IsTuple l items) where
 live:=λi h st=>(ZG.nx_tup hne items).there st it (.head _)
 frame:=λi h h' st hk=>(ZG.nx_tup hne items).keep st hk
 item:=λi s Q E hi st hQ=>ZG.tup_item st.1 st.2 (x:=items[i]) (by simp[hi]) λh' a b=>hQ _ h' s.toks (by simp[hi]) ⟨a,st.2.extBut b.extBut hne⟩ b
 done:=λs Q E st hE=>ZG.tup_stop hh st.1 st.2 (by simp) hE
noncomputable abbrev eOb (i:Addr):Obj:={ cls:= .type "enumerate",data:= .fields #[.none,.bool false,.ref i,rawInt 0,.none,.none] }
theorem qM (l:Addr)(items:Array Value)(n:Nat)(dct:Option Addr)(sl:Array (Option Value)):
  Meets (Builtin.«enumerate.__new__» ⟨[.type "enumerate",.ref l],[]⟩) (λ_ R s=>s.heap.get? l=some { cls:= .type "tuple",dict:=dct,data:= .seq items n,slots:=sl }/\
   R (.ok (.ret (.ref (s.heap.push (ZG.oT l)).objs.size))) { s with heap:=(s.heap.push (ZG.oT l)).push (eOb s.heap.objs.size) }):=
 .of_wp λprog w A R s h=>by
  obtain⟨hp,g,d,tk,os⟩:=s;obtain⟨hl,h⟩:=h;have hsub:=sub_enumerate;have hL:ix (j_ ⟨hp,g,d,tk,os⟩) l items:=⟨_,hl,rfl,n,rfl⟩
  wp_walk using cM hl
  refine wpAny_stack_any λst=>ar ?_;split
  ·rename_i c _ _ _ _ _;cases (c == Value.type "enumerate") <;> (wp_walk using cM hl,wpAny_pyIter_tuple hL;exact⟨_,rfl,h⟩)
  ·wp_walk using cM hl,wpAny_pyIter_tuple hL
   exact⟨_,rfl,h⟩
theorem enum_callT (hL:s.heap.IsTuple l items)
  (h:∀h',IsEnum h' (s.heap.objs.size+1) s.heap.objs.size 0 .none->h'.IsTupleIter s.heap.objs.size l 0->(∀b o,s.heap.get? b=some o->h'.get? b=some o)->Q (.ref (s.heap.objs.size+1)) { s with heap:=h' }):
  wpAny (model prog w) A (call (.type "enumerate") [.ref l]) Q E s:=by
 obtain⟨⟨c,dct,dt,sl⟩,hl,hc,n,hd⟩:=hL;obtain rfl:c= .type _:=hc;obtain rfl:dt= .seq _ n:=hd;refine callType_new F.called_enumerate (by decide) (F.typeCall_enumerate_1 _) (F.newCall_enumerate_1 _) (λobj=>fV obj _) F.entry_enumerate_new (qM l _ n dct sl) ⟨hl, ?_⟩
 have hz:(s.heap.push (ZG.oT l)).objs.size=s.heap.objs.size+1:=cx ..;have e1:((s.heap.push (ZG.oT l)).push (eOb s.heap.objs.size)).get? _=some _:=aj _ rfl;rw[hz]at e1;rw[hz];exact⟨⟨_,e1,rfl⟩,h _ e1 ⟨_,ag _ (aj _ rfl),rfl,rfl⟩ λb o x=>ag _ (ag _ x)⟩
end PySem.RV
namespace PV
open PySem PySem.Spec PyProof.Rows L2
def z3m (K:ae)(l:Addr)(n:Nat):It:=
 ⟨λi H=>∃xs x,SqT K H l xs/\xs.length=n/\xs[i]? =some x,λi H v H' =>∃p x,H p=none/\v= .ref p/\(∀xs,SqT K H l xs->xs[i]? =some x)/\H' =upd H p (.tup [.int i,x]),λi H=>∃xs,SqT K H l xs/\xs.length=n/\n<=i⟩
theorem yZ {P:Program}{w:World}{K:ae}{elts:List Expr}{kk:Nat}{pt:Pos}(e it l:Addr)(n:Nat)(hei:e ≠ it)(hle:l ≠ e)(hli:l ≠ it):
  Yl P w K (.Tuple elts kk pt) (z3m K l n) [e,it] e (λi h=>i<=n/\(∃old,IsEnum h e it i old)/\h.IsTupleIter it l i) where
 mem:=by simp
 obj:=λi h st b hb=>by
  obtain⟨_,⟨old,he⟩,o,e1,c,d⟩:=st;rcases ak.mp hb with rfl | hb
  ·exact⟨_,he,λv z=>nomatch z⟩
  ·have z:b=it:=by simpa using hb
   subst z;exact⟨o,e1,λv z=>by rw[d]at z;cases z⟩
 keep:=λi h h' st k=>by
  obtain⟨hn,⟨old,he⟩,o,e1,r⟩:=st;exact⟨hn,⟨old,k e (by simp) _ he⟩,o,k it (by simp) o e1,r⟩
 item:=by
  intro X hP hw hK hc i pins s σ H E I hf st hg;subst hP hw hK;obtain⟨xs,x,hq,hxn,hx⟩:=hg;obtain⟨its,rv,p,hz⟩:=I.tuple hq;obtain⟨u,hu,ru⟩:=rv.get hx;obtain⟨hin,⟨old,he⟩,hit⟩:=st;have hi:i < its.toArray.size:=by
   have:=(au.mp hu).1;simpa using this
  have D:=RV.draws_tup (prog:=X.prog) (w:=X.w) (A:=X.A.in1) (I.ok.hd hc) it l hli its.toArray;have hef:e ∉ [it,l]:=λz=>by
   rcases ak.mp z with z | z
   ·exact hei z
   ·exact hle (aG.mp z).symm
  have WE:=WalksT.enumerateD D e hei hef (.head _);refine WE.item i s _ _ hi ⟨⟨old,he⟩,hit,p⟩ λT vals h' tk hP hT hTup hM hk=> ?_;obtain⟨t,y,hy,rfl⟩:=hP;have hyu:y=u:=by
   have:its[i]? =some y:=by simpa using hy
   rw[hu]at this;exact(aL this).symm
  subst hyu;refine⟨.ref T,rfl, ?_⟩;refine WE.go elts kk pt i T _ _ _ hM λh2 hst2 hk2=> ?_;have hTn:H T=none:=I.hok.fresh hT;have hTne:∀b∈[e,it],b ≠ T:=λb hb z=>by
   obtain⟨_,_,h3,h4⟩:=hM;rcases ak.mp hb with rfl | hb
   ·exact h3 z.symm
   ·have:b=it:=by simpa using hb
    subst this;exact h4 z.symm
  have WL:IsTup h2 T #[.int i t,y]:=by
   obtain⟨o,eo,r⟩:=hTup;exact⟨o,hk2 T o (λhb=>hTne T hb rfl) eo,r⟩
  refine⟨.ref T,upd H T (.tup [.int i,x]),Inv.laidT (s:=s) (h' :=h2) (ch:=[e,it]) (tk:=tk) I hf (λb o hb e=>hk2 b o hb (hk b o hb e)) (λb o hb _=> ?_) hT ⟨by rw[cj];show 2<=16777216;decide,[.int i t,y],.cons ⟨t,rfl⟩ (.cons ru .nil),WL,.inl ⟨_,_,rfl⟩⟩,rfl,⟨T,x,hTn,rfl,λys hy=>by rw[I.tuple_inj hy hq];exact hx,rfl⟩,⟨by have:=(au.mp hx).1;omega,hst2.1,hst2.2.1⟩,λb hb=> ?_⟩
  ·obtain⟨⟨old2,he2⟩,⟨o2,eo2,_⟩,_⟩:=hst2;rcases ak.mp hb with rfl | hb
   ·exact⟨_,he2⟩
   ·have:b=it:=by simpa using hb
    subst this;exact⟨o2,eo2⟩
  ·rw[zk (hTne b hb)];exact(hf b hb).1
 done:=by
  intro X hP hw hK hc i pins s σ H E I hf st hg;subst hP hw hK;obtain⟨xs,hq,hxn,hx⟩:=hg;obtain⟨its,rv,p,hz⟩:=I.tuple hq;obtain⟨hin,⟨old,he⟩,hit⟩:=st;have hl:=rv.length;have D:=RV.draws_tup (prog:=X.prog) (w:=X.w) (A:=X.A.in1) (I.ok.hd hc) it l hli its.toArray;have hn:its.toArray.size=i:=by simp;omega
  refine wpAny_pyNext_enum_endD D he (by rw[hn];exact⟨hit,p⟩) λh' hk=>⟨rfl, ?_⟩
  obtain⟨f0,f1,f2,f3,f4,f5⟩:=hf it (by simp)
  exact I.turned (t' :=s.toks) (λb o hb e=>hk b o hb e) f0 f1 f3 f4 f5
 self:=λ_ _ _ _ _ st h=>let ⟨_,⟨_,he⟩,_⟩:=st;wpAny_pyIter_enum he h
theorem VA {K:ae}{B1 H1:Hp}{a:Addr}{xs:List V}{ts:List T}(h:B1 a=some (.tup xs))(r:zC B1 xs ts):rI B1 H1 (z3m K a xs.length) (jQ ts):=λB2 H2 s1 s2=>by
 have h2:=s2 _ _ (s1 _ _ h);rw[Jj];refine⟨λi hi=> ?_,λi t x H3 e y=> ?_,λi hi=>⟨xs,SqT.of h2,rfl,by rw[r.length];exact hi⟩⟩
 ·obtain⟨v,e,_⟩:=r.get (ah hi);exact⟨xs,v,SqT.of h2,rfl,e⟩
 ·obtain⟨p,v,hp,rfl,y,rfl⟩:=y;obtain⟨t',et,rfl⟩:=u8 e;obtain⟨v',e1,r1⟩:=r.get et;have:=y xs (SqT.of h2);rw[e1]at this;cases this;refine⟨zt.new hp _,.tup (j1 hp _) (.cons (.int _) (.cons ?_ .nil))⟩;exact(r1.mono s1).mono (zQ.ge s2 (zt.new hp _))
def US (fa:En->R T):En->R (List T):=λρ=>(fa ρ).bind λt=>match t with
 | .tup xs=> .ok (jQ xs)
 | _=> .bad
section
theorem VB {ta:TA}(hg:Gl X "enumerate")(hm:X.mg "enumerate"=none)(ha:PA X [a] ta)(hs:St1 X a:=by exact st1 rfl):
  PI X (.Tuple elts kk pt) (.Call (.Name "enumerate" p) [a] [] pos) (λσ H R=>ta σ H λvs H1=>∃l xs,vs=[.ref l]/\H1 l=some (.tup xs)/\R (z3m X.K l xs.length) H1):=by
 intro pins s σ H R I h;refine Call_ (j9 I hg hm PyProof.Rows.Boot.«enumerate» (aT (thn (ha pos _ s σ H _ I h) λus s1 ⟨vs,H1,I1,r1,q1⟩=> ?_) hs rfl));obtain⟨l,xs,e,hl,q⟩:=q1;subst e;obtain⟨u,rfl,ru⟩:=Zv r1;obtain rfl:u=Value.ref l:=ru;obtain⟨its,rv,pl,hz⟩:=I1.tuple (SqT.of hl);have hlt:=I1.hok.lt hl;refine RV.enum_callT (show s1.heap.IsTuple l _ from pl) λh' he hit hk=>wpAny_pyIter_enum he ?_;have f:∀b∈[s1.heap.objs.size+1,s1.heap.objs.size],WQ X _ H1 b:=λb hb=>by
  rcases ak.mp hb with rfl | hb
  ·exact I1.fpOk (dO _) (I1.hok.fresh (dO _))
  ·have z:=by simpa using hb
   subst z;exact I1.fpOk (am _) (I1.hok.fresh (am _))
 exact⟨s1.heap.objs.size+1,[s1.heap.objs.size+1,s1.heap.objs.size],_,_,H1,rfl,I1.kept hk,yZ _ _ l _ (iQ _) (aC (cC hlt)) (aC hlt),⟨br _,⟨_,he⟩,hit⟩,f,q⟩
theorem kY (hg:Gl X "enumerate")(hm:X.mg "enumerate"=none)(ha:Snd X Y a fa)(hs:St1 X a:=by exact st1 rfl):uY X Y (.Tuple elts kk pt) (.Call (.Name "enumerate" p) [a] [] pos) (US fa):= .mk λρ=>
 PI.imp (VB hg hm (zv (ha ρ) zP hs) hs) λσ H R ⟨B,I,q⟩=>step I q λt v H1 _ s1 r1 I1 q1=>by
  cases r1 with
  | @tup l xs ts h r=>exact⟨l,xs,rfl,I1.sB _ _ h,ZB I1 (show Po Y rI _ H1 _ R from q1) (VA h r)⟩
  | _=>exact q1.elim
end
end PV
namespace PySem.RW37
open PySem PySem.Spec PyProof.Rows L2
section
end
end PySem.RW37
namespace PV
open PySem PySem.Spec PyProof.Rows L2 PySem.RW37
section
def kZ (fa:En->R T)(g:T->En->R En):En->RS:=λρ=>(fa ρ).s λt=>match g t ρ with
 | .ok ρ' => .nx ρ'
 | _=> .bad
theorem z0d {g:T->En->R En}(ha:Snd X Y a fa)(hg:GG X Y tg g)(hs:swapsWithSole [tg] a pos.line X.env=pure false:=by rfl)(hw:swappedStores [tg] a X.env=pure none:=by rfl)
  (h1:(assignEach [tg] X.env).map (·.2)=[assign tg X.env]:=by rfl):wz X Y (.Assign [tg] a pos) (kZ fa g):= .mk λρ=>by
 obtain⟨tt,hp,hr⟩:=hg;refine PS.imp (gK (ha ρ) hp hs hw h1) λD σ H ⟨B,I,q⟩=>jY I q λt v H1 _ s1 r1 I1 q1=>hr _ _ _ _ _ _ _ I1 r1 ?_;cases h:g t ρ with
 | ok ρ' =>
  rw[h]at q1;exact λσ' I' =>q1 _ _ _ (zt.refl _) I'
 | ex c=>rw[h]at q1;exact q1.elim
 | bad=>rw[h]at q1;exact q1.elim
end
end PV
namespace PV
open PySem PySem.Spec PyProof.Rows L2
noncomputable def max2T (t t' :T):R T:=match t,t' with
 | .int i,.int j=> .ok (.int (if j > i then j else i))
 | _,_=> .bad
noncomputable def z1D:T->R T
 | .int i=> .ok (.int (if i < 0 then -i else i))
 | _=> .bad
section
theorem z3n (gl:Gl X "abs")(mg:X.mg "abs"=none)(ha:je X Y a fa)(hs:St1 X a:=by exact st1 rfl):Snd X Y (.Call (.Name "abs" p) [a] [] pos) (ap1 z1D fa):=
 JM vZ (λv t B H Q r sB q=>by
  cases r with
  | int i=>exact⟨i,rfl,po0 sB q rfl (.int _)⟩
  | _=>exact q.elim) gl mg PyProof.Rows.Boot.«abs» ha hs
end
noncomputable def ltS (a b:Str):Bool:=decide (a.cps.toList < b.cps.toList)
def Yp (x:Str):List Str->List Str
 | []=>[x]
 | y :: r=>if ltS y x then y :: Yp x r else x :: y :: r
def uO:List Str->List Str
 | []=>[]
 | x :: r=>Yp x (uO r)
section
end
noncomputable def J4:List T->Option (List (Str×Int))
 | []=>some []
 | .tup [.str x,.int i] :: r=>match J4 r with | some l=>some ((x,i) :: l) | none=>none
 | _ :: _=>none
def qN (t k:T):R T:=match t,k with
 | .tup ts,.str x=>match J4 ts with
  | some l=>if (l.map (·.1)).Nodup then (match l.lookup x with | some i=> .ok (.int i) | none=> .bad) else .bad
  | none=> .bad
 | _,_=> .bad
def uh:T->R T
 | .tup ts=>match J4 ts with
  | some l=>if (l.map (·.1)).Nodup then .ok (.int (l.map (·.2)).sum) else .bad
  | none=> .bad
 | _=> .bad
def VC (j:Nat)(fa:En->R T)(g:List T->R T):En->RS:=λρ=>((fa ρ).bind λt=>(vE j ρ).bind λk=>(qN t k).bind λx=>(uh t).bind λy=>g [x,y]).s λt=> .rt t
section
end
theorem U4 (a:Str):ltS a a=false:=by unfold ltS;simp
theorem xW {a b c:Str}(h:ltS a b=true)(k:ltS b c=true):ltS a c=true:=by
 unfold ltS at*;simp only[decide_eq_true_eq]at*;exact List.lt_trans h k
theorem qO {a b:Str}(h:ltS a b=false)(k:ltS b a=false):a=b:=by
 unfold ltS at*;simp only[decide_eq_false_iff_not]at*;have e:=iR (k_.mp k) (k_.mp h);obtain⟨⟨x⟩⟩:=a;simp at e;rw[e]
theorem JU (x:Str):∀ys:List Str,(Yp x ys).Perm (x :: ys)
 | []=> .refl _
 | y :: ys=>by
  unfold Yp;split
  ·exact((JU x ys).cons y).trans (.swap x y ys)
  ·exact .refl _
theorem ui:∀xs:List Str,(uO xs).Perm xs
 | []=> .refl _
 | x :: xs=>(JU x _).trans ((ui xs).cons x)
def nlt (a b:Str):Prop:=ltS b a=false
theorem xX {a b c:Str}(h:nlt a b)(k:nlt b c):nlt a c:=by
 unfold nlt at*;cases e:ltS c a with
 | false=>rfl
 | true=>
  cases e2:ltS a b with
  | true=>rw[xW e e2]at k;cases k
  | false=>rw[qO e2 h]at e;rw[e]at k;cases k
theorem JV (x:Str):∀ys:List Str,ys.Pairwise nlt->(Yp x ys).Pairwise nlt
 | [],_=>by unfold Yp;simp
 | y :: ys,h=>by
  unfold Yp;rw[aP]at h;split
  ·rename_i hx;refine aP.mpr ⟨λz hz=> ?_,JV x ys h.2⟩;rcases ak.mp ((JU x ys).mem_iff.mp hz) with rfl | hz
   ·show ltS z y=false;cases e:ltS z y with
    | false=>rfl
    | true=>have:=xW hx e;rw[U4]at this;cases this
   ·exact h.1 z hz
  ·rename_i hx;have hx:=by show ltS y x=false;simpa using hx
   refine aP.mpr ⟨λz hz=> ?_,aP.mpr h⟩;rcases ak.mp hz with rfl | hz
   ·exact hx
   ·exact xX hx (h.1 z hz)
theorem JW:∀xs:List Str,(uO xs).Pairwise nlt
 | []=> .nil
 | x :: xs=>JV x _ (JW xs)
theorem wP:∀(xs ys:List Str),xs.Perm ys->xs.Pairwise nlt->ys.Pairwise nlt->xs=ys
 | [],ys,p,_,_=>(List.nil_perm.mp p).symm
 | x :: xs,[],p,_,_=>by cases List.perm_nil.mp p
 | x :: xs,y :: ys,p,h1,h2=>by
  rw[aP]at h1 h2;have e:=by
   have a1:nlt x y:=by
    rcases ak.mp (p.mem_iff.mpr (a9)) with z | z
    ·rw[z];exact U4 x
    ·exact h1.1 y z
   have a2:nlt y x:=by
    rcases ak.mp (p.mem_iff.mp (a9)) with z | z
    ·rw[z];exact U4 y
    ·exact h2.1 x z
   exact qO a2 a1
  subst e;rw[wP xs ys (i9 p) h1.2 h2.2]
theorem JX:∀(l:List Str) (p:Str),risingS p l=true->(p :: l).Pairwise nlt
 | [],p,_=>by simp
 | x :: r,p,h=>by
  have h:(!ltCps _ _ && risingS x r)=true:=h;rw[ac]at h;have h2:=JX r x h.2;have h1:nlt p x:=by
   have:=h.1;rw[ltCps_eq]at this;show decide _=false;simpa using this
  refine aP.mpr ⟨λz hz=> ?_,h2⟩;rcases ak.mp hz with rfl | hz
  ·exact h1
  ·exact xX h1 ((aP.mp h2).1 z hz)
theorem U5:∀(l:List Str),sortedS l=true->l.Pairwise nlt
 | [],_=> .nil
 | x :: r,h=>JX r x h
theorem qQ:∀{its:List Value} {ns:List Str},StrsAre its ns->Vals (ns.map V.str) its:=by
 intro its ns h
 induction h with
 | nil=>exact .nil
 | cons n t _ ih=>exact .cons ⟨_,rfl⟩ ih
theorem VD:∀{ts:List T} {ys:List Str},wN ts=some ys->ys.length=ts.length:=by
 intro ts
 induction ts with
 | nil=>intro ys h;cases h;rfl
 | cons t ts ih=>
  intro ys h;cases t with
  | str x=>
   unfold wN at h;split at h
   ·rename_i l e;cases h;simp[ih e]
   ·cases h
  | _=>cases h
theorem uj {H:Hp}:∀ns:List Str,zC H (ns.map V.str) (ns.map T.str)
 | []=> .nil
 | n :: ns=> .cons (.str n) (uj ns)
noncomputable def xY:T->T->R T
 | .int i,.int j=>if 0 < j/\j.natAbs.log2 < 9000 then .ok (.int (i / j)) else .bad
 | _,_=> .bad
section
theorem z0e:OpR X (binaryOp .FloorDiv) (L2.rI (λ_ j=>0 < j/\j.natAbs.log2 < 9000) λi j=> .int (i / j)):=opI λi j _ _ _ _ _ hc q=>by
 exact floordiv_int (by omega) (by rw[e9 i (by omega)];exact q) (.inl (PyProof.noPylong_of_log2 hc.2))
theorem K0:OpR X (binaryOp .FloorDiv) (rG Y xY):=by
 intro pins s σ H x y v u Q I rx ry h;obtain⟨B,t,t',sB,r,r',q⟩:=h;cases r with
 | int i=>
  cases r' with
  | int j=>
   by_cases hj:0 < j/\j.natAbs.log2 < 9000
   ·exact z0e _ s σ H _ _ v u Q I rx ry ⟨i,j,rfl,rfl,hj,po0 sB q (if_pos hj) (.int _)⟩
   ·rw[show xY (.int i) (.int j)= .bad from if_neg hj]at q;exact q.elim
  | _=>exact q.elim
 | _=>cases r' <;> exact q.elim
theorem z3o (ha:Snd X Y a fa)(hb:Snd X Y b fb):Snd X Y (.BinOp a .FloorDiv b pos) (zb xY fa fb):=uV K0 ha hb
end
noncomputable def big:Nat:=2 ^ 8000
def mlT:T->T->R T
 | .int i,.int j=>if i.natAbs < big/\j.natAbs < big then .ok (.int (i*j)) else .bad
 | _,_=> .bad
theorem UT (h:i.natAbs < big):f_ i<=2 ^ 20:=by
 unfold f_;split
 ·exact br _
 ·rename_i h0;have h0:i.natAbs ≠ 0:=λz=>h0 (by rw[Int.natAbs_eq_zero.mp z];rfl)
  have h1:=(l0 h0).mpr h;omega
section
theorem z3p:OpR X (binaryOp .Mult) (L2.rI (λi j=>i.natAbs < big/\j.natAbs < big) λi j=> .int (i*j)):=opI λi j _ _ _ _ _ hc q=>mul_int q (IntMulOk.of_bits (UT hc.1) (UT hc.2))
theorem z0f:OpR X (binaryOp .Mult) (rG Y mlT):=by
 intro pins s σ H x y v u Q I rx ry h;obtain⟨B,t,t',sB,r,r',q⟩:=h;cases r with
 | int i=>
  cases r' with
  | int j=>
   by_cases hj:i.natAbs < big/\j.natAbs < big
   ·exact z3p _ s σ H _ _ v u Q I rx ry ⟨i,j,rfl,rfl,hj,po0 sB q (if_pos hj) (.int _)⟩
   ·rw[show mlT (.int i) (.int j)= .bad from if_neg hj]at q;exact q.elim
  | _=>exact q.elim
 | _=>cases r' <;> exact q.elim
theorem s_ml (ha:Snd X Y a fa)(hb:Snd X Y b fb):Snd X Y (.BinOp a .Mult b pos) (zb mlT fa fb):=uV z0f ha hb
end
theorem K1:typeLookup (.type "tuple") "keys"=pure none:=by rw[typeLookup_type,builtinLookup_eq_fast];kernel_rfl
theorem K2:typeLookup (.type "tuple") "__getattr__"=pure none:=by rw[typeLookup_type,builtinLookup_eq_fast];kernel_rfl
section
theorem VE {sl:Array (Option Value)}{u:Tok}{Q:PySem.Fin->Shared->Prop}(hh:A.handled=none)(hl:s.heap.get? l=some { cls:= .type "tuple",dict:=none,data:= .seq its n,slots:=sl })
  (h:∀h' tk e,Heap.NewAttrErr s.heap h' e (.ref l) "keys"->E (.ref e) { s with heap:=h',toks:=tk }):
  wpAny (model prog w) A (Builtin.«object.__getattribute__» ⟨[.ref l,.str "keys" u],[]⟩) Q E s:=by
 obtain⟨hp,g,d,tk,os⟩:=s;have hT:(⟨hp,g,d,tk,os⟩:Shared).TypeIs (.ref l) "tuple":=⟨_,hl,rfl⟩;have f1:=K1;unfold Builtin.«object.__getattribute__»
 repeat (any_goals (first | assumption | wp_step))
 exact wpAny_raiseAttrError hh h (attrMsg_fits (by decide+kernel) (by decide+kernel))
end
section
theorem K3 {l:Addr}{its:Array Value}{n:Nat}{sl:Array (Option Value)}{u:Tok}{R:Result->Shared->Prop}(hh:A.handled=none)(hl:s.heap.get? l=some { cls:= .type "tuple",dict:=none,data:= .seq its n,slots:=sl })
  (h:∀h' tk e,Heap.NewAttrErr s.heap h' e (.ref l) "keys"->R (.error (.ref e)) { s with heap:=h',toks:=tk }):
  codeAny (model prog w) A (.call (.builtin "tuple.__getattribute__") ⟨[.ref l,.str "keys" u],[]⟩) R s:=
 codeAny_call_builtin cz.plain F.entry_tuple_ga (cz.check _ _ _ _ _ _ _ _ (show s.TypeIs _ _ from ⟨_,hl,rfl⟩) (F.args_tuple_getattribute_2 _ _) (VE hh hl h))
theorem K4 {l:Addr}{its:Array Value}{n:Nat}{sl:Array (Option Value)}{Q:Option Value->Shared->Prop}(hh:A.handled=none)(hl:s.heap.get? l=some { cls:= .type "tuple",dict:=none,data:= .seq its n,slots:=sl })
  (h:∀h' tk,(∀b o,s.heap.get? b=some o->h'.get? b=some o)->Q none { s with heap:=h',toks:=tk }):
  wpAny (model prog w) A (getAttr? (.ref l) "keys") Q E s:=by
 obtain⟨hp,g,d,tk,os⟩:=s;have hT:∀t,(⟨hp,g,d,t,os⟩:Shared).TypeIs (.ref l) "tuple":=λ_=>⟨_,hl,rfl⟩;have f1:=sub_AttributeError;have f2:=cz.lookup;have f3:=cz.bind (.ref l);have f5:=K2;unfold getAttr? getAttrBy? getAttrBy
 repeat (any_goals (first | assumption | exact hT _ | wp_step))
 refine K3 (s:=⟨hp,g,d,tk+1,os⟩) hh hl λh' tk' e hx=> ?_;obtain⟨t',u',he⟩:=hx.there;have hE:(⟨h',g,d,tk',os⟩:Shared).TypeIs (.ref e) "AttributeError":=⟨_,he,rfl⟩;show wpAny _ _ (getattributeRaised _ _ _ _ _ _ _) _ _ _;unfold getattributeRaised
 repeat (any_goals (first | assumption | wp_step))
 exact h _ _ hx.keeps
end
noncomputable def Zp (h:Heap)(its:List Value)(ps:List (Str×Int)):Prop:=Paired (λv (p:Str×Int)=>∃a t u n ob,v=Value.ref a/\h.get? a=some ob/\ob.cls= .type "tuple"/\ob.data= .seq #[.str p.1 t,.int p.2 u] n) its ps
theorem Zp.keep {ps:List (Str×Int)}(x:Zp h its ps)(k:∀b o,h.get? b=some o->h'.get? b=some o):Zp h' its ps:=
 Paired.mapP x λv p ⟨a,t,u,n,ob,e1,e2,e3⟩=>⟨a,t,u,n,ob,e1,k _ _ e2,e3⟩
theorem Zp.off {h h' :Heap}{D I:Addr}(k:∀b o,b ≠ D->b ≠ I->h.get? b=some o->h'.get? b=some o):∀{its:List Value} {ps:List (Str×Int)},Zp h its ps->(∀v a,v∈its->v=Value.ref a->a ≠ D/\a ≠ I)->Zp h' its ps
 | _,_,.nil,_=> .nil
 | _,_,.cons r q,ha=>by
  obtain⟨a,t,u,n,ob,e1,e2,e3⟩:=r;obtain⟨n1,n2⟩:=ha _ a a9 e1;exact .cons ⟨a,t,u,n,ob,e1,k _ _ n1 n2 e2,e3⟩ (Zp.off k q λv b hv=>ha v b (a8 _ hv))
def KVs (kvs:List (Key×Value))(ps:List (Str×Int)):Prop:=Paired (λ(q:Key×Value) (p:Str×Int)=>q.1=Sum.inr p.1/\∃t,q.2=Value.int p.2 t) kvs ps
theorem KVs.snoc:∀{kvs:List (Key×Value)} {ps:List (Str×Int)} {x:Str} {i:Int} {t:Tok},KVs kvs ps->KVs (kvs++[(Sum.inr x,.int i t)]) (ps++[(x,i)])
 | _,_,x,i,t,.nil=> .cons ⟨rfl,t,rfl⟩ .nil
 | _,_,x,i,t,.cons r q=> .cons r (KVs.snoc q)
theorem KVs.keys:∀{kvs:List (Key×Value)} {ps:List (Str×Int)},KVs kvs ps->kvs.map (·.1)=ps.map λp=>(Sum.inr p.1:Key)
 | _,_,.nil=>rfl
 | _,_,.cons r q=>by rw[av,av,r.1,KVs.keys q]
theorem KVs.len {kvs:List (Key×Value)}{ps:List (Str×Int)}(h:KVs kvs ps):kvs.length=ps.length:=by
 have:=congrArg List.length h.keys;simpa using this
theorem Y0 {kvs:List (Key×Value)}{k:Key}(h:k ∉ kvs.map (·.1)):stored kvs k v=kvs++[(k,v)]:=by
 unfold stored;rw[if_neg];intro z;rw[dN]at z;obtain⟨q,hq,e⟩:=z;exact h (az.mpr ⟨q,hq,of_decide_eq_true e⟩)
section
variable {prog:Program}{w:World}{A:Around}{R:Result->Shared->Prop}{I:Addr}{fp wr:List Addr}{n:Nat}{P:Nat->Value->Prop}{St:Nat->Heap->Prop}
theorem UU:entryFor table "dict.update.loop"=some Builtin.«dict.update.loop»:=entryFor_of_tree (by kernel_rfl)
theorem UV:plainId "dict.update.loop"=true:=by decide+kernel
theorem J6 {α β:Type}{F:α->β->Prop}:∀{xs:List α} {ys:List β} {i:Nat} {y:β},Paired F xs ys->ys[i]? =some y->∃x,xs[i]? =some x/\F x y
 | _,_,_,_,.nil,h=>by simp at h
 | _,_,0,y,.cons r _,h=>by simp at h;subst h;exact⟨_,rfl,r⟩
 | _,_,i+1,y,.cons _ q,h=>by
  obtain⟨x,e,r⟩:=J6 q (by simpa using h)
  exact⟨x,by simpa using e,r⟩
theorem wQ {α β:Type}{F:α->β->Prop}:∀{xs:List α} {ys:List β},Paired F xs ys->xs.length=ys.length
 | _,_,.nil=>rfl
 | _,_,.cons _ q=>by simp[wQ q]
theorem qR {l:Addr}{its:List Value}{ps:List (Str×Int)}(hh:A.handled=none)(I D:Addr)(hlI:l ≠ I)(hD:D ≠ I)(hDl:D ≠ l)(nd:(ps.map (·.1)).Nodup)(hps:ps.length<=sizeLine)(kw:Value):
  ∀(m i:Nat) (s:Shared) (kvs:List (Key×Value)) (tk0:Tok),ps.length - i=m->i<=ps.length->s.heap.IsTupleIter I l i->s.heap.IsTuple l its.toArray->Zp s.heap its ps->(∀v a,v∈its->v=Value.ref a->a ≠ D/\a ≠ I)->
   s.heap.DictOf (ZZ prog w) D kvs->KVs kvs (ps.take i)->
   (∀h' tk kvs',(∀b o,b ≠ D->b ≠ I->s.heap.get? b=some o->h'.get? b=some o)->h'.DictOf (ZZ prog w) D kvs' ->KVs kvs' ps->R (.ok (.ret kw)) { s with heap:=h',toks:=tk })->
   codeAny (model prog w) A (.builtin "dict.update.loop" ⟨[.ref D,.ref I,.int (i:Int) tk0,kw],[]⟩) R s:=by
 intro m
 induction m with
 | zero=>
  intro i s kvs tk0 hm hi hit ht hp ha hd hk hR;obtain rfl:i=ps.length:=by omega
  refine bS UU ?_;unfold Builtin.«dict.update.loop»;dsimp only;have hl:=wQ hp;refine a7 (wpAny_pyNext_tuple_end hh hit ht (by simp[hl]) λh' he=> ?_)
  rw[List.take_length]at hk;refine a7 (cD (a:=()) rfl (ar ?_));exact hR h' s.toks kvs (λb o _ hb e=>he b o hb e) (hd.extBut he hD) hk
 | succ m ih=>
  intro i s kvs tk0 hm hi hit ht hp ha hd hk hR;refine bS UU ?_;unfold Builtin.«dict.update.loop»;dsimp only;have hi' :i < ps.length:=by omega
  have ei:=ah hi';obtain⟨v,ev,a,t,u,n,ob,rfl,ga,ca,da⟩:=J6 hp ei;refine a7 (wpAny_pyNext_tuple_item hit ht (x:= .ref a) (by simpa using ev) λh1 hit1 sb=> ?_)
  obtain⟨naD,naI⟩:=ha _ a (cB ev) rfl;have ga1:=(sb.2 a naI).trans ga;have hd1:=hd.sameBut sb hD;have hTa:hW { s with heap:=h1 } (.ref a) "tuple":=⟨_,ga1,ca⟩;refine a7 (ck (a7 (wpAny_tryCatch ?_)));refine a7 (db hTa ?_);refine a7 (b_ ga1 da (ar ?_));have hnew:(Sum.inr ps[i].1) ∉ kvs.map (·.1):=by
   rw[hk.keys];intro z;obtain⟨p,hp',e⟩:=az.mp z;have e:p.1=ps[i].1:=by injection e
   obtain⟨j,hj,ej⟩:=List.mem_iff_getElem.mp hp';rw[bL]at hj;rw[List.getElem_take]at ej;have hji:j < i:=by omega
   have:=(eK.mp nd) j i (by rw[aa];omega) (by rw[aa];exact hi') hji
   rw[fg,fg]at this;exact this (by rw[ej,e])
  have hz:kvs.length<=sizeLine:=by rw[hk.len,bL];exact ao (Nat.min_le_right _ _) hps
  refine ck (wpAny_dictSet_pairs (JI _ _ _ _) hd1 λh2 hd2 sb2=> ?_);rw[Y0 hnew]at hd2;refine ar ⟨dn UV _, ?_⟩;have hk2:KVs (kvs++[(Sum.inr ps[i].1,.int ps[i].2 u)]) (ps.take (i+1)):=by
   rw[List.take_succ,ei];exact hk.snoc
  have k12:∀b o,b ≠ D->b ≠ I->s.heap.get? b=some o->h2.get? b=some o:=λb o n1 n2 e=>(sb2.2 b n1).trans ((sb.2 b n2).trans e);have:=ih _ { s with heap:=h2,toks:=s.toks+1 } _ 0 (by omega) (by omega) (hit1.extBut sb2.extBut (bK hD)) (ix.at ht λo e=>k12 l o (bK hDl) hlI e) ?_ ha hd2 hk2 (λh' tk kvs' k' d' q' =>hR h' tk _ (λb o n1 n2 e=>k' b o n1 n2 (k12 b o n1 n2 e)) d' q')
  ·exact this
  ·exact hp.off k12 ha
end
theorem Zp.mem {h:Heap}:∀{its:List Value} {ps:List (Str×Int)},Zp h its ps->∀{v:Value} {a:Addr},v∈its->v=Value.ref a->∃o,h.get? a=some o
 | _,_,.nil,_,_,hv,_=>by simp at hv
 | _,_,.cons r q,v,a,hv,e=>by
  rcases ak.mp hv with z | hv
  ·obtain⟨b,t,u,n,ob,e1,e2,_⟩:=r;subst z;rw[e]at e1;cases e1;exact⟨_,e2⟩
  ·exact Zp.mem q hv e
section
theorem qS {l:Addr}{its:List Value}{ps:List (Str×Int)}{n:Nat}{sl:Array (Option Value)}{Q:Value->Shared->Prop}(hh:A.handled=none)(hl:s.heap.get? l=some { cls:= .type "tuple",dict:=none,data:= .seq its.toArray n,slots:=sl })
  (hp:Zp s.heap its ps) (nd:(ps.map (·.1)).Nodup) (hps:ps.length<=sizeLine)
  (h:∀h' tk kvs,(∀b o,s.heap.get? b=some o->h'.get? b=some o)->h'.DictOf (ZZ prog w) s.heap.objs.size kvs->KVs kvs ps->Q (.ref s.heap.objs.size) { s with heap:=h',toks:=tk }):
  wpAny (model prog w) A (call (.type "dict") [.ref l]) Q E s:=by
 refine callType_codes (Q₁:=λobj s₁=>obj= .ref _/\s₁={ s with heap:=s.heap.push _ }) F.kt_called_dict (F.kt_typeCall_dict_1 _) F.entry_dict_init (kt_code_dict_new _ ⟨rfl,rfl⟩) ?_
 rintro obj s₁ ⟨rfl,rfl⟩
 generalize hG:s.heap.push _=G;have hnew:G.DictOf (ZZ prog w) s.heap.objs.size []:=by rw[← hG];exact Heap.DictOf.new _
 have gk:∀b o,s.heap.get? b=some o->G.get? b=some o:=λb o e=>by rw[← hG];exact ag _ e
 have gl:=gk _ _ hl;have hlt:=aq hl;have hT:hW { s with heap:=G } (.ref l) _:=⟨_,gl,rfl⟩;refine⟨hnew.typeIs,F.args_dict_init_2 _ _, ?_⟩;refine a7 ?_;refine a7 (wpAny_notOrdered_dict hnew.typeIs ?_);refine ar ?_;refine a7 (db hT ?_);refine a7 (K4 hh gl λh1 tk1 k1=> ?_);refine a7 (dL ?_);have gl1:=k1 _ _ gl;have hL1:h1.IsTuple l _:=⟨_,gl1,rfl,n,rfl⟩;refine a7 (wpAny_pyIter_tuple hL1 ?_);generalize hG2:h1.push _=G2;have D0:s.heap.objs.size < h1.objs.size:=by
  obtain⟨o,_,_,e,_⟩:=id hnew;exact aq (k1 _ _ e)
 have k2:∀b o,h1.get? b=some o->G2.get? b=some o:=λb o e=>by rw[← hG2];exact ag _ e
 have gi:G2.get? h1.objs.size=some { cls:= .type "tuple_iterator",data:= .fields #[.ref l,.int 0 0] }:=by rw[← hG2];exact aj _ rfl
 have hd2:G2.DictOf (ZZ prog w) s.heap.objs.size []:=by
  obtain⟨o,es,ep,e,r⟩:=hnew;exact⟨o,es,ep,k2 _ _ (k1 _ _ e),r⟩
 refine ar ⟨dn UV _, ?_⟩;refine qR (A:=A.in1) hh _ _ (aC (fB hlt D0)) (aC D0) (dU hlt) nd hps _ _ 0 _ [] 0 rfl (br _) ⟨_,gi,rfl,rfl⟩ ⟨_,k2 _ _ gl1,rfl,n,rfl⟩ (hp.keep λb o e=>k2 b o (k1 b o (gk b o e))) (λv a hv e=> ?_) hd2 .nil λh' tk kvs kk dd qq=> ?_
 ·obtain⟨o,eo⟩:=hp.mem hv e;have:=aq eo;exact⟨aC this,aC (fB this D0)⟩
 ·refine⟨rfl,h h' tk kvs (λb o e=>kk b o (aC (aq e)) (aC (fB (aq e) D0)) (k2 b o (k1 b o (gk b o e)))) dd qq⟩
end
abbrev kvV (ps:List (Str×Int)):List (Key×V):=ps.map λp=>(Sum.inr p.1,V.int p.2)
theorem z0g:∀{kvs:List (Key×Value)} {ps:List (Str×Int)},KVs kvs ps->KV (kvV ps) kvs
 | _,_,.nil=> .nil
 | _,_,.cons r q=>by
  obtain⟨e,t,e2⟩:=r;exact .cons ⟨e.symm,⟨t,e2⟩⟩ (z0g q)
theorem qT:∀{ps:List (Str×Int)} {kvs:List (Key×Value)},KV (kvV ps) kvs->KVs kvs ps
 | [],_,.nil=> .nil
 | p :: ps,_,.cons r q=>by
  obtain⟨e,t,e2⟩:=r;exact .cons ⟨e.symm,t,e2⟩ (qT q)
theorem xZ:∀{kvs:List (Key×Value)} {ps:List (Str×Int)} {x:Str} {i:Int},KVs kvs ps->ps.lookup x=some i->∃t,valueAt kvs (Sum.inr x)=some (.int i t)
 | _,_,x,i,.nil,h=>by simp at h
 | _,_,x,i,.cons (b:=p) r rs,h=>by
  obtain⟨e,t,e2⟩:=r;rw[aK]at h
  by_cases hx:x=p.1
  ·have:(x == p.1)=true:=by simp[hx]
   rw[this]at h;cases h;unfold valueAt;rw[lc,show decide _=true from decide_eq_true (by rw[e,hx])]
   simp[e2]
  ·have:=beq_eq_false_iff_ne.mpr hx;rw[this]at h;obtain⟨t',h'⟩:=xZ rs h;refine⟨t', ?_⟩;unfold valueAt at h' ⊢;rw[lc,show decide _=false from decide_eq_false (by rw[e];intro z;injection z with z;exact hx z.symm)]
   exact h'
theorem qU {ps:List (Str×Int)}(h:J4 (t :: ts)=some ps):∃x i l,t= .tup [.str x,.int i]/\J4 ts=some l/\ps=(x,i) :: l:=by
 unfold J4 at h;split at h
 ·rename_i e;cases e
 ·rename_i x i r e;injection e with e1 e2;subst e1 e2;split at h
  ·rename_i l el;cases h;exact⟨x,i,l,rfl,el,rfl⟩
  ·cases h
 ·cases h
theorem qV:∀{ts:List T} {ps:List (Str×Int)},J4 ts=some ps->ps.length=ts.length
 | [],_,h=>by cases h;rfl
 | t :: ts,ps,h=>by
  obtain⟨x,i,l,rfl,el,rfl⟩:=qU h;simp[qV el]
theorem z3q (h:zC H ys [.str x,.int i]):ys=[.str x,.int i]:=by
 cases h with
 | cons r1 h=>
  cases r1;cases h with
  | cons r2 h=>
   cases r2;cases h;rfl
theorem K5 (h:Vals [V.str x,V.int i] its):∃t u,its=[.str x t,.int i u]:=by
 obtain⟨u1,u2,rfl,⟨t1,rfl⟩,⟨t2,rfl⟩⟩:=yL h;exact⟨t1,t2,rfl⟩
theorem VF {σ:L2.St}(I:Inv X pins σ H s)(r:Rep H v (.tup [.str x,.int i]))(rv:RelV v u):
  ∃a t u' n ob,u=Value.ref a/\s.heap.get? a=some ob/\ob.cls= .type "tuple"/\ob.data= .seq #[.str x t,.int i u'] n:=by
 cases r with
 | @tup a ys _ ha ry=>
  obtain rfl:u=Value.ref a:=rv;have hy:=z3q ry;subst hy;obtain⟨_,its',rv',⟨ob,e1,e2,n,e3⟩,_⟩:=(show Z1 _ X.w H _ a _ from I.hok a _ ha);obtain⟨t1,t2,rfl⟩:=K5 rv';exact⟨a,t1,t2,n,ob,rfl,e1,e2,e3⟩
theorem UW {X:Cx}{pins:List (Addr×Obj)}{σ:L2.St}{H:Hp}{s:Shared}(I:Inv X pins σ H s):∀{xs:List V} {ts:List T} {its:List Value} {ps:List (Str×Int)},zC H xs ts->Vals xs its->J4 ts=some ps->Zp s.heap its ps/\∀(i:Int) t,its[0]? ≠ some (Value.int i t)
 | _,_,_,ps,.nil,.nil,h=>by cases h;exact⟨.nil,λ_ _ z=>by simp at z⟩
 | _,_,_,ps,.cons r rs,.cons rv vs,h=>by
  obtain⟨x,i,l,rfl,el,rfl⟩:=qU h;obtain⟨p1,_⟩:=UW I rs vs el;obtain⟨a,t1,t2,n,ob,rfl,e⟩:=VF I r rv;exact⟨.cons ⟨a,t1,t2,n,ob,rfl,e⟩ p1,λ_ _ z=>by simp at z⟩
section
theorem z0h {σ:L2.St}(I:Inv X pins σ H s):sysModules < s.heap.objs.size:=fB (by decide) (I.mod.glob.keeps I.bk).lt
theorem Y1 (hh:X.A.handled=none):Zk X (.type "dict") (λvs H Q=>∃l xs ts ps,vs=[.ref l]/\H l=some (.tup xs)/\zC H xs ts/\J4 ts=some ps/\(ps.map (·.1)).Nodup/\
  ∀q,H q=none->Q (.ref q) (upd H q (.dK (kvV ps)))):=by
 intro pins s σ H vs us Q I rv h;obtain⟨l,xs,ts,ps,rfl,hl,r,ey,nd,q⟩:=h;obtain⟨u,rfl,ru⟩:=Zv rv;obtain rfl:u=Value.ref l:=ru;obtain⟨hz,its,rv,⟨⟨c,dd,da,sl⟩,ho,hc,n,hd⟩,hno⟩:=(show Z1 _ X.w H _ l _ from I.hok l _ hl);subst hc hd;obtain⟨pa,ni⟩:=UW I r rv ey;have hb:ps.length<=sizeLine:=by rw[qV ey,← r.length];exact hz
 have hdn:dd=none:=by
  rcases hno with ⟨i,t,e⟩ | ⟨o,e1,e2⟩
  ·exact absurd (by simpa using e) (ni i t)
  ·rw[ho]at e1;cases e1;exact e2
 subst hdn;refine qS hh ho pa nd hb λh' tk kvs k dd qq=> ?_;refine⟨.ref _,_,I.laid k (am _) ?_,rfl,q _ (I.hok.fresh (am _))⟩;exact⟨by rw[aa];exact hb,beq_eq_false_iff_ne.mpr (bK (aC (z0h I))),kvs,z0g qq,dd⟩
theorem z0i:IxR X (λx y H Q=>∃a ps k i,x= .ref a/\y= .str k/\H a=some (.dK (kvV ps))/\ps.lookup k=some i/\Q (.int i) H):=by
 intro value slice pins s σ H x y v u Q I rx ry h hs;obtain⟨p,ps,k,i,rfl,rfl,hp,he,q⟩:=h;cases rx;obtain⟨t,rfl⟩:=ry;obtain⟨hz,hS,vs,r,m⟩:=(show Z1 _ X.w H _ p _ from I.hok p _ hp);obtain⟨t',e⟩:=xZ (qT r) he;exact tail_any m.typeIs slot_dict_getitem.lookup (wpAny_getItem_of (JI _ _ _ _) m.mapOf e ⟨.int i,H,I.tok _,⟨_,rfl⟩,q⟩) hs
theorem qW:MtR X "dict.values" (λx xs H Q=>∃a ps,x= .ref a/\xs=[]/\H a=some (.dK (kvV ps))/\∀r,H r=none->Q (.ref r) (upd H r (.ext λh=>h.IsValuesView r a))):=by
 intro pins s σ H x xs v0 us Q I rx rv h;obtain⟨a,ps,rfl,rfl,ha,q⟩:=h;obtain rfl:v0=Value.ref a:=rx;cases rv;obtain⟨hz,hS,vs,r,m⟩:=(show Z1 _ X.w H _ a _ from I.hok a _ ha);refine call_meetsIn eS m.typeIs PySem.F.entry_dict_values (PySem.F.args_dict_values_1 _) (meets_dict_values _ a hS) ⟨⟨vs,m⟩, ?_⟩;have hle:s.heap.objs.size<=s.heap.objs.size:=am _;refine⟨.ref _,_,I.laid (λb o e=>ag _ e) hle ?_,rfl,q _ (I.hok.fresh hle)⟩;exact⟨⟨_,aj _ rfl,rfl,rfl⟩,⟨_,aj _ rfl⟩,λh1 h2 ⟨o,e1,e2⟩ e=>⟨o,e _ e1,e2⟩⟩
theorem qY (val:Nat->Int):∀n:Nat,preSum val n=((aX n).map val).sum
 | 0=>rfl
 | n+1=>by
  rw[fH,c9,List.sum_append,← qY val n];simp[preSum]
theorem qZ (hh:X.A.handled=none):Zk X (.builtin "sum") (λvs H Q=>∃r φ a ps,vs=[.ref r]/\H r=some (.ext φ)/\(∀h:Heap,φ h->h.IsValuesView r a)/\H a=some (.dK (kvV ps))/\Q (.int (ps.map (·.2)).sum) H):=by
 intro pins s σ H vs us Q I rv h;obtain⟨r,φ,a,ps,rfl,hr,hφ,ha,q⟩:=h;obtain⟨u,rfl,ru⟩:=Zv rv;obtain rfl:u=Value.ref r:=ru;obtain⟨h1,_,_⟩:=(show Z1 _ X.w H _ r _ from I.hok r _ hr);obtain⟨hz,hS,vs,rr,m⟩:=(show Z1 _ X.w H _ a _ from I.hok a _ ha);obtain⟨ep,hat⟩:=m.dictAt;have hk:=qT rr;have K:=PySem.W.kdl_values (prog:=X.prog) (knd:=ZZ _ X.w) (r:=r) (d:=a) (kvs:=vs) (ep:=ep);refine call_sum_walkAnyS ?_;obtain⟨oI,St,hit,W,st⟩:=K.iter X.A.in1 s hh ⟨hφ _ h1,hat⟩;refine hit _ _ ⟨s.heap.objs.size,_,_,_,_,_,_,λi=>((ps[i]?).map (·.2)).getD 0,rfl,W.toS,st,λb hb=> ?_,λi v hv=> ?_,λs' t' hm=> ?_⟩
 ·rw[size_push'];rcases ak.mp hb with e | hb
  ·rw[e];exact dM _
  ·rw[aG.mp hb];exact cC (I.hok.lt ha)
 ·obtain⟨k,hv⟩:=hv;have hi:i < ps.length:=by rw[← hk.len];exact(au.mp hv).1
  obtain⟨q',e1,e2,t,e3⟩:=J6 hk (ah hi);rw[hv]at e1;cases e1;exact⟨t,by dsimp only;rw[ah hi];exact e3⟩
 ·have kp:=λb o e=>
   hm.heap b o (λz=>absurd (aq e) (by rw[aG.mp z];exact bH _)) (ag _ e)
  rw[Moved.eq_with hm];have es:preSum (λi=>((ps[i]?).map (·.2)).getD 0) vs.length=(ps.map (·.2)).sum:=by
   rw[qY,hk.len];congr 1
   refine dG λi=> ?_;rw[aA,aA]
   by_cases hi:i < ps.length
   ·simp[hi]
   ·rw[aS (by simp;omega),aS (by omega)];rfl
  rw[es];exact⟨.int _,H,I.kept kp,⟨_,rfl⟩,q⟩
end
theorem K6 (h:qN t k= .ok v):∃ts ps x i,t= .tup ts/\k= .str x/\J4 ts=some ps/\(ps.map (·.1)).Nodup/\ps.lookup x=some i/\v= .int i:=by
 unfold qN at h;split at h
 ·rename_i ts x;split at h
  ·rename_i l e;split at h
   ·rename_i nd;split at h
    ·rename_i i ei;cases h;exact⟨ts,l,x,i,rfl,rfl,e,nd,ei,rfl⟩
    ·cases h
   ·cases h
  ·cases h
 ·cases h
theorem Q0 (t k:T):(∃v,qN t k= .ok v)\/qN t k= .bad:=by
 unfold qN;split
 ·split
  ·split
   ·split
    ·exact .inl ⟨_,rfl⟩
    ·exact .inr rfl
   ·exact .inr rfl
  ·exact .inr rfl
 ·exact .inr rfl
section
theorem VG {ps:List (Str×Int)}(ht:t= .tup ts)(e:J4 ts=some ps)(nd:(ps.map (·.1)).Nodup):uh t= .ok (.int (ps.map (·.2)).sum):=by
 subst ht;unfold uh;dsimp only;rw[e];dsimp only;rw[if_pos nd]
theorem K7 (hij:i ≠ j)(hy:Y.cl=cl)(F:ww X.prog X.w X.K X.mg X.base CX0 jf fo fd ps (spP cl 2 g))(hr:jq k X.A)(hjf:jf<=k)(gf:Gl X f)
  (mf:X.mg f=some (.ref fo)) (kp:bZ X.K (.ref fo)=true) (bd:L2.Binds X.K fd ps []) (hN:X.N.Nodup) (hi:X.N[i]? =some x) (hx:L2.Loc X.env.scope x) (gl:Gl X "dict") (mg:X.mg "dict"=none) (gs:Gl X "sum") (ms:X.mg "sum"=none)
  (pi:PE X (.Name x p3) (Uz i)) (pj:PE X (.Name y p4) (Uz j)) (ha:Snd X Y a fa) (pi' :PE X (.Name x p5) (Uz i):=by exact Yu (by rfl) (by rfl)) (hs:St1 X a:=by exact st1 rfl)
  (hsw:swapsWith (.Call (.Name "dict" p2) [a] [] pa) (some (.Name x p1)) pb.line X.env=pure false:=by rfl) (hf:X.fn x=true\/X.env.scope.names.lookup x=some .local:=by first | exact .inl rfl | exact .inr rfl | assumption) (hd:(f == ("__debug__":Str))=false:=by decide)
  (hb:attributeBase (.Name x p5) "values" X.env (eval (.Name x p5) X.env)=eval (.Name x p5) X.env:=by rfl) (hli:(p6.endLine == p7.line)=true:=by rfl):
  wJ X Y [.Assign [.Name x p1] (.Call (.Name "dict" p2) [a] [] pa) pb,.Return (some (.Call (.Name f p8) [.Subscript (.Name x p3) (.Name y p4) p9,.Call (.Name "sum" pc) [.Call (.Attribute (.Name x p5) "values" p6) [] [] p7] [] pd] [] pos)) pos'] (VC j fa g):= .mk λρ=>by
 subst hy;have hh:=hr.hd;have st2' :starEach [.Subscript (.Name x p3) (.Name y p4) p9,.Call (.Name "sum" pc) [.Call (.Attribute (.Name x p5) "values" p6) [] [] p7] [] pd] X.env=(false,eval _ X.env) :: starEach _ X.env:=zW rfl;have W:=(UA (WP hN hi hx (jb (Y1 hh) gl mg PyProof.Rows.Boot.«dict» (zv (ha ρ) zP hs) (by decide) (by decide) hs rfl) hsw hf)
  (uQ (Yx (pos:=pos') (uS (E:=Y.E) (p:=p8) (pos:=pos) F (hr.mono hjf) gf mf kp bd .nil ky
   (zv (G1 z0i pi pj (λ_ _=>rfl)) (zv (j0 (qZ hh) gs ms PyProof.Rows.Boot.«sum» (zv (G7 PySem.F.plainAttrs_dict eS PySem.F.type_dict_values qW pi' hb hli) zP (st1 rfl)) (by decide) (by decide) (st1 rfl) rfl) zP (st1 rfl)) st2') hd st2' (Zq rfl)))))
 intro pins s σ H D Iv ⟨B,I,q⟩;have hlen:i < σ.length:=by rw[Iv.len];exact(au.mp hi).1
 refine W pins s σ H D Iv ?_;have q' :PoS Y B ((fa ρ).s λt=>(((vE j ρ).bind λk=>(qN t k).bind λx=>(uh t).bind λy=>g [x,y]).s λt=> .rt t)) D:=by
  have e:VC j fa g ρ=((fa ρ).s λt=>(((vE j ρ).bind λk=>(qN t k).bind λx=>(uh t).bind λy=>g [x,y]).s λt=> .rt t)):=by
   unfold VC;cases fa ρ <;> rfl
  rw[← e];exact q
 refine jY I q' λt v H1 _ s1 r1 I1 q1=> ?_;unfold vE at q1;split at q1
 ·rename_i kk e;obtain⟨u,eu,ru⟩:=I1.vl j kk e;have q1:PoS Y _ (((qN t kk).bind λx=>(uh t).bind λy=>g [x,y]).s λt=> .rt t) D:=q1;rcases Q0 t kk with ⟨v',e'⟩ | e'
  ·obtain⟨ts,qs,z,m,rfl,rfl,e1,nd,ei,rfl⟩:=K6 e';rw[e']at q1;rw[VG rfl e1 nd]at q1;have q1:PoS Y _ ((g _).s λt=> .rt t) D:=q1;cases r1 with
   | @tup l xs _ h r=>
    cases ru;refine⟨l,xs,ts,qs,rfl,I1.sB _ _ h,r.mono I1.sB,e1,nd,λw hw=> ?_⟩;have gi:(σ.set i (some (V.ref w)))[i]? =some (some (V.ref w)):=by rw[aW hlen]
    have gj:(σ.set i (some (V.ref w)))[j]? =some (some (V.str z)):=by rw[aH hij];exact eu
    refine⟨_,gi,_,gj,w,qs,z,m,rfl,rfl,zD,ei, ?_⟩;refine⟨_,gi,.inr (.inr (.inl ⟨rfl,.inl ⟨_,zD⟩⟩)),w,qs,rfl,rfl,zD,λy hy=> ?_⟩;have hyw:y ≠ w:=λe=>by rw[e,zD]at hy;cases hy
    have hy1:=by rw[zk hyw]at hy;exact hy
    refine⟨y,_,w,qs,rfl,zD,λh z=>z,by rw[zk (bK hyw)];exact zD, ?_⟩
    have s13:zt H1 (upd (upd H1 w (.dK (kvV qs))) y (.ext λh=>h.IsValuesView y w)):=λb o hb=>by
     have n1:b ≠ w:=λe=>by rw[e,hw]at hb;cases hb
     have n2:b ≠ y:=λe=>by rw[e,hy1]at hb;cases hb
     rw[zk n2,zk n1];exact hb
    have I3:=I1.grow s13;refine⟨_,[.int m,.int _],rfl,I3.sB,.cons (.int _) (.cons (.int _) .nil), ?_⟩;revert q1;cases g _ with
    | bad=>exact λq1=>q1
    | ex c=>exact λq1 d H' s sB=>q1 d H' (I3.sH.trans s) ((zQ.ge I1.sB s13).trans sB)
    | ok t=>exact λq1 b H' s r=>q1 b H' (I3.sH.trans s) (r.mono (qj I3.sH I3.old s I3.sB))
  ·rw[e']at q1;exact q1.elim
 ·exact q1.elim
end
section
end
section
end
end PV
namespace PySem.RV
open PySem PySem.Spec PyProof.Rows PySem.Builtin.SmallTypes
section
end
end PySem.RV
namespace PV
open PySem PySem.Spec PyProof.Rows L2
section
end
section
section
end
end
noncomputable def K8 (i:Int):Str:=bf (toString i)
def txO:T->Option Str
 | .int i=>if i.natAbs < 1000000 then some (K8 i) else none
 | .str x=>if x.length<=1000000 then some x else none
 | _=>none
def txV:V->Option Str
 | .int i=>if i.natAbs < 1000000 then some (K8 i) else none
 | .str x=>if x.length<=1000000 then some x else none
 | _=>none
def gp (t:T):R T:=match txO t with
 | some x=> .ok (.str x)
 | none=> .bad
def rdI (x:Str):Option Int:=((aX 199).map λ(k:Nat)=>(k:Int) - 99).find? λn=>K8 n == x
theorem uk {i:Int}(h:i.natAbs < 1000000):i.natAbs.log2 < 1920:=by
 by_cases h0:i.natAbs=0
 ·rw[h0];decide
 ·have:i.natAbs.log2 < 20:=(l0 h0).mpr (by omega)
  omega
section
theorem VH:Zk X (.type "str") (λxs H Q=>∃v x,xs=[v]/\txV v=some x/\Q (.str x) H):=by
 intro pins s σ H xs us Q I r h;obtain⟨v,x,rfl,e,q⟩:=h;obtain⟨u,rfl,ru⟩:=Zv r;unfold txV at e;split at e
 ·split at e
  ·rename_i i hi;obtain⟨t,rfl⟩:=ru;cases e;exact P.str_of_int (uk hi) ⟨.str _,H,I.tok _,⟨_,rfl⟩,q⟩
  ·cases e
 ·split at e
  ·obtain⟨t,rfl⟩:=ru;cases e;exact P.str_of_str ⟨.str _,H,I,⟨_,rfl⟩,q⟩
  ·cases e
 ·cases e
theorem z0j (r:Rep H v t)(e:txO t=some x):txV v=some x:=by
 cases r with
 | int i=>exact e
 | str y=>exact e
 | _=>cases e
end
section
end
end PV
namespace PV
open PySem PySem.W PyProof.Rows
section
variable {α β:Type}
noncomputable def Gd (lt:Nat->Nat->Bool)(n:Nat):KasT α->(α->Prop)->Prop
 | .ret a,P=>P a
 | .ask i j k,P=>(i < n/\j < n/\i ≠ j)/\Gd lt n (k (lt i j)) P
theorem Gd.mono {lt:Nat->Nat->Bool}{P P' :α->Prop}(h:∀a,P a->P' a):∀(t:KasT α),Gd lt n t P->Gd lt n t P'
 | .ret a,g=>h a g
 | .ask i j k,⟨h1,g⟩=>⟨h1,Gd.mono h _ g⟩
theorem Gd.bind {lt:Nat->Nat->Bool}{P:β->Prop}{f:α->KasT β}:∀(t:KasT α),Gd lt n t (λa=>Gd lt n (f a) P)->Gd lt n (t.bind f) P
 | .ret a,g=>g
 | .ask i j k,⟨h1,g⟩=>⟨h1,Gd.bind _ g⟩
end
section
variable {O:KeyOrd}{key:Nat->O.α}
noncomputable abbrev kp (key:Nat->O.α)(p:Array Nat)(i:Nat):O.α:=key (p.getD i 0)
structure Pm (n:Nat) (p:Array Nat):Prop where
 sz:p.size=n
 pm:p.toList.Perm (aX n)
theorem Pm.lt {p:Array Nat}(h:Pm n p)(hi:i < n):p.getD i 0 < n:=by
 have hs:i < p.size:=by rw[h.sz];exact hi
 have e:p.getD i 0=p[i]:=by simp[ll,hs]
 rw[e];exact aZ.mp (h.pm.mem_iff.mp (Array.getElem_mem_toList hs))
theorem Pm.inj {p:Array Nat}(h:Pm n p)(hi:i < n)(hj:j < n)(e:p.getD i 0=p.getD j 0):i=j:=by
 have hs:i < p.size:=by rw[h.sz];exact hi
 have hs' :j < p.size:=by rw[h.sz];exact hj
 have e1:p.getD i 0=p[i]:=by simp[ll,hs]
 have e2:p.getD j 0=p[j]:=by simp[ll,hs']
 rw[e1,e2]at e;have nd:=h.pm.nodup_iff.mpr List.nodup_range;have:=(iI (h₀:=by simpa using hs) (h₁:=by simpa using hs') nd).mp (by simpa using e)
 exact this
def So (key:Nat->O.α)(p:Array Nat)(m:Nat):Prop:=∀i j,i < j->j < m->O.klt (kp key p i) (kp key p j)
theorem Wh {p q:Array Nat}(h:p[i]? =q[j]?):p.getD i 0=q.getD j 0:=by
 have e:∀(a:Array Nat) (k:Nat),a.getD k 0=(a[k]?).getD 0:=λa k=>by simp
 rw[e,e,h]
variable (hk:∀i j,i < n->j < n->key i=key j->i=j)
include hk
theorem K9 {p:Array Nat}(h:Pm n p)(hi:i < n)(hj:j < n)(hij:i ≠ j)(hf:O.blt (kp key p i) (kp key p j)=false):O.klt (kp key p j) (kp key p i):=by
 cases q:O.blt _ _ with
 | true=>exact q
 | false=>exact absurd (h.inj hi hj (hk _ _ (h.lt hi) (h.lt hj) (O.total _ _ hf q))) hij
omit hk in
theorem So.snoc {p:Array Nat}(h:So key p m)(h1:1<=m)(hl:O.klt (kp key p (m - 1)) (kp key p m)):So key p (m+1):=λi j hij hj=>by
 by_cases hjm:j=m
 ·subst hjm
  by_cases him:i=j - 1
  ·rw[him];exact hl
  ·exact cH (h i _ (by omega) (by omega)) (dJ hl)
 ·exact h i j hij (by omega)
theorem Q1 {p:Array Nat}(hp:Pm n p):∀(f m:Nat),1<=m->m+f=n->So key p m->Gd (λi j=>O.blt (key i) (key j)) n (kas_asc p f m) λr=>m<=r/\r<=n/\So key p r/\(r < n->O.klt (kp key p r) (kp key p (r - 1)))
 | 0,m,_,hm,h=>⟨am _,by omega,h,λz=>by omega⟩
 | f+1,m,h1,hm,h=>by
  refine⟨⟨hp.lt (by omega),hp.lt (by omega),λz=>absurd (hp.inj (by omega) (by omega) z) (by omega)⟩, ?_⟩
  show Gd _ n (if O.blt _ _=true then .ret m else kas_asc p f _) _
  cases q:O.blt _ _ with
  | true=>exact⟨am _,by omega,h,λ_=>q⟩
  | false=>
   exact Gd.mono (λr ⟨a,b,c⟩=>⟨by omega,b,c⟩) _ (Q1 hp f _ (by omega) (by omega) (h.snoc h1 (K9 hk hp (by omega) (by omega) (by omega) q)))
def De (key:Nat->O.α)(p:Array Nat)(m:Nat):Prop:=∀i j,i < j->j < m->O.klt (kp key p j) (kp key p i)
theorem Q2 {p:Array Nat}(hp:Pm n p):∀(f m:Nat),2<=m->m+f=n->De key p m->Gd (λi j=>O.blt (key i) (key j)) n (kas_desc f p m 0) λr=>r.1=p/\r.2.2=0/\m<=r.2.1/\r.2.1<=n/\De key p r.2.1
 | 0,m,_,hm,h=>⟨rfl,rfl,am _,by show m<=n;omega,h⟩
 | f+1,m,h1,hm,h=>by
  refine⟨⟨hp.lt (by omega),hp.lt (by omega),λz=>absurd (hp.inj (by omega) (by omega) z) (by omega)⟩, ?_⟩
  show Gd _ n (if O.blt _ _=true then (if 0 > 0 then kas_desc f _ _ 0 else kas_desc f p _ 0) else .ask _ _ λd=>if d=true then .ret _ else kas_desc f p _ _) _
  cases q:O.blt _ _ with
  | true=>
   refine Gd.mono (λr ⟨a,b,c,d⟩=>⟨a,b,by omega,d⟩) _ (Q2 hp f _ (by omega) (by omega) λi j hij hj=> ?_)
   by_cases hjm:j=m
   ·subst hjm
    by_cases him:i=j - 1
    ·rw[him];exact q
    ·exact cH (show O.klt _ _ from q) (dJ (h i _ (by omega) (by omega)))
   ·exact h i j hij (by omega)
  | false=>
   refine⟨⟨hp.lt (by omega),hp.lt (by omega),λz=>absurd (hp.inj (by omega) (by omega) z) (by omega)⟩, ?_⟩
   have q2:O.blt _ _=true:=K9 hk hp (by omega) (by omega) (by omega) q
   show Gd _ n (if O.blt _ _=true then .ret _ else _) _
   rw[if_pos q2];exact⟨rfl,rfl,am _,by show m<=n;omega,h⟩
omit hk in
theorem X0 {p:Array Nat}(hp:Pm n p)(i j:Nat):Pm n (kas_rev p i j):=⟨(mirror_size _ _ _ _).trans hp.sz,(eF.mp (mirror_perm p i j _)).trans hp.pm⟩
omit hk in
theorem Q3 {p:Array Nat}(hp:Pm n p)(hm:m<=n)(hk' :k < m):(kas_rev p 0 m).getD k 0=p.getD (m - 1 - k) 0:=by
 refine Wh ?_;unfold kas_rev;rw[getElem?_mirror_all (by rw[hp.sz];exact hm),if_pos ⟨br _,hk'⟩]
 congr 1
 omega
theorem j3 {p:Array Nat}(hp:Pm n p)(h2:2<=n):Gd (λi j=>O.blt (key i) (key j)) n (kas_count n p) λr=>1<=r.1/\r.1<=n/\Pm n r.2/\So key r.2 r.1:=by
 refine Gd.bind _ (Gd.mono (λm ⟨a,b,c,d⟩=> ?_) _ (Q1 hk hp _ 1 (am _) (by omega) λi j hij hj=>by omega))
 by_cases hmn:m=n
 ·rw[if_pos (by simpa using hmn)]
  exact⟨a,b,hp,c⟩
 ·rw[if_neg (by simpa using hmn)]
  by_cases hm1:m > 1
  ·rw[if_pos hm1];refine⟨⟨hp.lt (by omega),hp.lt (by omega),λz=>absurd (hp.inj (by omega) (by omega) z) (by omega)⟩, ?_⟩
   have q:O.blt _ (kp key p (m - 1))=true:=c 0 _ (by omega) (by omega)
   show Gd _ n (if O.blt _ _=true then .ret _ else _) _
   rw[if_pos q];exact⟨a,b,hp,c⟩
  ·have e:m=1:=by omega
   subst e;have d1:=d (by omega)
   refine Gd.bind _ (Gd.mono (λr ⟨r1,r2,r3,r4,r5⟩=> ?_) _ (Q2 hk hp _ _ (by omega) (by omega) λi j hij hj=>by
    have:i=0/\j=1:=by omega
    rw[this.1,this.2];exact d1))
   rw[r2,r1];refine Gd.bind _ (Gd.mono (λm' ⟨x1,x2,x3,_⟩=>⟨by omega,x2,X0 hp 0 _,x3⟩) _ (Q1 hk (X0 hp 0 _) _ _ (by omega) (by omega) λi j hij hj=> ?_))
   unfold kp;rw[Q3 hp r4 (by omega),Q3 hp r4 hj]
   exact r5 _ _ (by omega) (by omega)
theorem Wi {p:Array Nat}(hp:Pm n p)(hkn:k < n)(hs:So key p k):∀(f l r:Nat),r<=k->l<=r->r - l<=f->(∀i,i < l->O.klt (kp key p i) (kp key p k))->(∀i,r<=i->i < k->O.klt (kp key p k) (kp key p i))->
  Gd (λi j=>O.blt (key i) (key j)) n (kas_place p k f l r) λm=>m<=k/\(∀i,i < m->O.klt (kp key p i) (kp key p k))/\∀i,m<=i->i < k->O.klt (kp key p k) (kp key p i)
 | 0,l,r,h1,h2,h3,h4,h5=>⟨by omega,h4,λi hi hik=>h5 i (by omega) hik⟩
 | f+1,l,r,h1,h2,h3,h4,h5=>by
  unfold kas_place
  by_cases hlr:l ≥ r
  ·rw[if_pos hlr];exact⟨by omega,h4,λi hi hik=>h5 i (by omega) hik⟩
  ·rw[if_neg hlr];refine⟨⟨hp.lt hkn,hp.lt (by omega),λz=>absurd (hp.inj hkn (by omega) z) (by omega)⟩, ?_⟩
   show Gd _ n (if O.blt _ _=true then kas_place p k f l _ else kas_place p k f _ r) _
   cases q:O.blt _ _ with
   | true=>
    refine Wi hp hkn hs f l _ (by omega) (by omega) (by omega) h4 λi hi hik=> ?_
    by_cases e:i=(l+r) / 2
    ·rw[e];exact q
    ·exact cH (q) (dJ (hs _ _ (by omega) hik))
   | false=>
    refine Wi hp hkn hs f _ r h1 (by omega) (by omega) (λi hi=> ?_) h5
    have ql:=K9 hk hp hkn (by omega) (by omega) q
    by_cases e:i=(l+r) / 2
    ·rw[e];exact ql
    ·exact cH (hs _ _ (by omega) (by omega)) (dJ ql)
omit hk in
theorem Q4 {p:Array Nat}(hp:Pm n p)(hkn:k < n)(hl:l<=k):(bubble p k (k - l)).getD i 0=if i=l then p.getD k 0 else if l < i/\i<=k then p.getD (i - 1) 0 else p.getD i 0:=by
 have h:=getElem?_bubble (by rw[hp.sz];exact hkn) (k - l) (by omega) i
 rw[show k - (k - l)=l by omega]at h
 repeat' split at h
 all_goals first | (rw[if_pos (by assumption)];exact Wh h) | (rw[if_neg (by assumption),if_pos (by assumption)];exact Wh h) | (rw[if_neg (by assumption),if_neg (by assumption)];exact Wh h)
theorem X1:∀(f:Nat) (p:Array Nat) (k:Nat),Pm n p->k+f=n->So key p k->Gd (λi j=>O.blt (key i) (key j)) n (kas_bin f p k) λq=>Pm n q/\So key q n
 | 0,p,k,hp,hkf,h=>⟨hp,by rw[← hkf];exact h⟩
 | f+1,p,k,hp,hkf,h=>by
  unfold kas_bin;refine Gd.bind _ (Gd.mono (λl ⟨a,b,c⟩=> ?_) _ (Wi hk hp (by omega) h k 0 k (am _) (br _) (by omega) (λi hi=>by omega) λi hi hik=>by omega))
  refine X1 f _ _ ⟨(bubble_size _ _ _).trans hp.sz,(eF.mp (bubble_perm p k _)).trans hp.pm⟩ (by omega) λi j hij hj=> ?_
  unfold kp;rw[Q4 hp (by omega) a,Q4 hp (by omega) a]
  by_cases hi:i=l
  ·rw[if_pos hi,if_neg (by omega),if_pos ⟨by omega,by omega⟩]
   exact c _ (by omega) (by omega)
  ·rw[if_neg hi]
   by_cases hj' :j=l
   ·rw[if_pos hj',if_neg (by omega)]
    exact b i (by omega)
   ·rw[if_neg hj']
    by_cases x:l < i/\i<=k
    ·rw[if_pos x,if_pos ⟨by omega,by omega⟩]
     exact h _ _ (by omega) (by omega)
    ·rw[if_neg x]
     by_cases y:l < j/\j<=k
     ·rw[if_pos y];exact h _ _ (by omega) (by omega)
     ·rw[if_neg y];exact h _ _ hij (by omega)
theorem Q5 (h2:2<=n):Gd (λi j=>O.blt (key i) (key j)) n (kas_sort n) λq=>Pm n q/\So key q n:=by
 refine Gd.bind _ (Gd.mono (λr ⟨a,b,c,d⟩=> ?_) _ (j3 hk ⟨by simp,by simp⟩ h2))
 by_cases h:r.1 < n
 ·rw[if_pos h,show max r.1 1=r.1 by omega]
  exact X1 hk _ _ _ c (by omega) d
 ·rw[if_neg h];exact⟨c,by rw[show n=r.1 by omega];exact d⟩
end
end PV
namespace PV
open PySem PySem.Spec PyProof.Rows L2
mutual
noncomputable def toD:T->PyData
 | .non=> .none
 | .bl b=> .bool b
 | .int i=> .int i
 | .str x=> .str x
 | .tup xs=> .tuple (UX xs)
 | .lst xs=> .list (UX xs)
 | .fz xs=> .list (UX xs)
noncomputable def UX:List T->List PyData
 | []=>[]
 | x :: xs=>toD x :: UX xs
end
mutual
noncomputable def okD:T->Bool
 | .non=>true
 | .bl _=>true
 | .int i=>decide (i.natAbs < 1000000)
 | .str _=>true
 | .tup xs=>vL xs
 | .lst _=>false
 | .fz _=>false
noncomputable def vL:List T->Bool
 | []=>true
 | x :: xs=>okD x && vL xs
end
def Wj (t:T):R T:=match t with
 | .tup xs=>if vL xs=true/\(toD (.tup xs)).depth<=20/\(toD (.tup xs)).shown.length<=10000 then .ok (.str (toD (.tup xs)).shown) else .bad
 | t=>gp t
section
mutual
theorem UY (hk:HOk P w H h):∀(t:T) (v:V) (u:Value),Rep H v t->okD t=true->L2.RelV v u->∃as,Reads h u (toD t) as
 | .non,_,_,.non,_,ru=>by
  obtain rfl:_=Value.none:=ru;exact⟨_,by rw[toD];exact .none⟩
 | .bl b,_,_,.bl _,_,ru=>by
  obtain rfl:_=Value.bool b:=ru;exact⟨_,by exact .bool b⟩
 | .int i,_,_,.int _,_,ru=>by
  obtain⟨t,rfl⟩:=ru;exact⟨_,by exact .int i t⟩
 | .str x,_,_,.str _,_,ru=>by
  obtain⟨t,rfl⟩:=ru;exact⟨_,by exact .str x t⟩
 | .tup ts,_,u,.tup (a:=l) e r,ho,ru=>by
  obtain rfl:u=Value.ref l:=ru;rw[okD]at ho;obtain⟨_,its,rv,⟨o,e1,e2,n,e3⟩,_⟩:=hk l _ e;obtain⟨as,ra⟩:=ul hk ts _ its r ho rv;exact⟨as,by exact .tuple e1 e2 e3 (by simpa using ra)⟩
 | .lst _,_,_,_,ho,_=>by cases ho
 | .fz _,_,_,_,ho,_=>by cases ho
theorem ul (hk:HOk P w H h):∀(ts:List T) (vs:List V) (us:List _),zC H vs ts->vL ts=true->L2.Vals vs us->∃as,ReadsAll h us (UX ts) as
 | [],_,_,.nil,_,.nil=>⟨_,by rw[UX];exact .nil⟩
 | t :: ts,_,_,.cons r rs,ho,.cons rv rvs=>by
  rw[vL,ac]at ho;obtain⟨as,h1⟩:=UY hk t _ _ r ho.1 rv;obtain⟨bs,h2⟩:=ul hk ts _ _ rs ho.2 rvs;exact⟨_,by exact .cons h1 h2⟩
end
mutual
theorem Q6:∀t:T,okD t=true->(toD t).showable=true/\(toD t).hasDict=false
 | .non,_=>by rw[toD];exact⟨by simp only[fI],by simp only[eG]⟩
 | .bl b,_=>by rw[toD];exact⟨by simp only[fI],by simp only[eG]⟩
 | .int i,ho=>by
  rw[okD,decide_eq_true_eq]at ho;rw[toD];exact⟨by exact decide_eq_true (uk ho),by simp only[eG]⟩
 | .str x,_=>by rw[toD];exact⟨by simp only[fI],by simp only[eG]⟩
 | .tup ts,ho=>by
  obtain⟨a,b⟩:=UZ ts ho;exact⟨by exact a,by exact b⟩
 | .lst _,ho=>by cases ho
 | .fz _,ho=>by cases ho
theorem UZ:∀ts,vL ts=true->eH (UX ts)=true/\eN (UX ts)=false
 | [],_=>by rw[UX];exact⟨by simp only[eH],by simp only[eN]⟩
 | t :: ts,ho=>by
  rw[vL,ac]at ho;obtain⟨a1,b1⟩:=Q6 t ho.1;obtain⟨a2,b2⟩:=UZ ts ho.2;rw[UX];exact⟨by simp only[eH,a1,a2,Bool.and_self],by simp only[eN,b1,b2,Bool.or_self]⟩
end
end
section
theorem Q7 (hr:jq k X.A):Zk X (.type "str") (λxs H Q=>(∃v x,xs=[v]/\txV v=some x/\Q (.str x) H)\/∃a ts,xs=[.ref a]/\Rep H (.ref a) (.tup ts)/\vL ts=true/\(toD (.tup ts)).depth<=20/\(toD (.tup ts)).shown.length<=10000/\Q (.str (toD (.tup ts)).shown) H):=by
 intro pins s σ H xs us Q I r h;rcases h with h | ⟨a,ts,rfl,rp,ho,hd,hl,q⟩
 ·exact VH _ s σ H xs us Q I r h
 ·obtain⟨u,rfl,ru⟩:=Zv r;obtain rfl:u=Value.ref a:=ru;have ho' :okD (.tup ts)=true:=by exact ho
  obtain⟨as,rd⟩:=UY I.hok _ _ _ rp ho' rfl;obtain⟨s1,s2⟩:=Q6 _ ho';have hu:=hr.units;refine str_of_reads rd s1 (λz=>by rw[s2]at z;cases z) hr.gd (by omega) (λ_ _ e=>e) (λh' u tk hk=>⟨.str _,H,I.kept hk,⟨u,rfl⟩,q⟩) (ao hl (by decide))
theorem z0k (hr:jq k X.A)(gl:Gl X "str")(mg:X.mg "str"=none)(ha:Snd X Y a fa)(hs:St1 X a:=by exact st1 rfl):Snd X Y (.Call (.Name "str" p) [a] [] pos) (ap1 Wj fa):=
 qc (Q7 hr) (λv t B H Q r sB q=>by
  unfold Wj at q;split at q
  ·rename_i xs;split at q
   ·rename_i hc;cases r with
    | @tup l ys _ e rr=>exact .inr ⟨l,xs,rfl,(Rep.tup e rr).mono sB,hc.1,hc.2.1,hc.2.2,po0 sB q rfl (.str _)⟩
   ·exact q.elim
  ·unfold gp at q;split at q
   ·rename_i x e;exact .inl ⟨v,x,rfl,z0j r e,po0 sB q rfl (.str _)⟩
   ·exact q.elim) gl mg (PyProof.Rows.Boot.«str») ha hs
end
section
open PySem.W PySem.Calls
variable {O:KeyOrd}{key:Nat->O.α}
end
section
open PySem.W PySem.Calls
end
end PV
namespace PV
open PySem PySem.Spec PyProof.Rows L2
section
end
section
open HT in
open HT in
end
section
end
end PV
namespace PV
open PySem PySem.Spec PyProof.Rows L2
end PV
namespace L2
open PySem PySem.Spec PyProof.Rows PySem.W
end L2
namespace L2
open PySem PySem.Spec PyProof.Rows PySem.W
section
end
end L2
namespace L2
open PySem PySem.Spec PyProof.Rows PySem.W
end L2
namespace PV
open PySem PySem.Spec PyProof.Rows L2 PySem.W
section
end
end PV
namespace L2
open PySem PySem.Spec PyProof.Rows PySem.W
end L2
namespace PV
open PySem PySem.Spec PyProof.Rows L2
end PV
namespace PV
open PySem PySem.Spec PyProof.Rows L2 PySem.W
section
end
end PV
namespace PV
open PySem PySem.Spec PyProof.Rows L2
section
end
end PV
namespace PV
open PySem PySem.Spec PyProof.Rows L2 PySem.W
section
end
section
end
section
end
section
end
section
end
section
end
section
end
section
end
section
end
section
end
section
end
section
end
section
end
section
end
section
end
end PV
namespace PV
open PySem PySem.Spec PyProof.Rows L2
structure Fn (K:ae) (mg:Str->Option Value) (x:Str) (st:Stmt) (ps:List Str) (f:Addr) (fd:FuncData):Prop where
 F:Fun K x x st f fd
 b:L2.Binds K fd ps []
 m:mg x=some (.ref f)
noncomputable abbrev FE (K:ae)(mg:Str->Option Value)(x:Str)(st:Stmt)(ps:List Str):Prop:=∃f fd,Fn K mg x st ps f fd
structure Zz where
 P:Program
 w:World
 K:ae
 mg:Str->Option Value
 base:Heap
 cl:Nat->Value
structure QQ (x:Str) (CX:CXT) (k:Nat) (sp:Sp) (Z:Zz):Prop where
 ex:∃st ps f fd,Fn Z.K Z.mg x st ps f fd/\ww Z.P Z.w Z.K Z.mg Z.base CX k f fd ps sp
abbrev qP (Z:Zz)(x:Str)(n k:Nat)(c:List T->R T):Prop:=QQ x CX0 k (spP Z.cl n c) Z
abbrev qX (Z:Zz)(x:Str)(n k:Nat)(c:List T->R T):Prop:=QQ x (CX1 Z.P Z.w) k (spP Z.cl n c) Z
abbrev qC (Z:Zz)(x:Str)(k:Nat)(c:Nat->R T):Prop:=QQ x CX0 k (spC Z.cl c) Z
def oP (m:Nat)(b:En->RS):List T->R T:=λts=>zf (b (en0 m ts))
def oC (m:Nat)(b:En->RS):Nat->R T:=λc=>zf (b (enC m c))
section
variable {P:Program}{w:World}{K:ae}{mg:Str->Option Value}{base:Heap}{cl:Nat->Value}{x:Str}{CX:CXT}{k c:Nat}{sp:Sp}{G:Prop}{as:List Str}
theorem QQ.go (O:QQ x CX k sp ⟨P,w,K,mg,base,cl⟩)(h:∀st ps f fd,Fn K mg x st ps f fd->ww P w K mg base CX k f fd ps sp->G):G:=by
 obtain⟨⟨st,ps,f,fd,C,F⟩⟩:=O;exact h st ps f fd C F
end
section
variable {Z:Zz}{x y:Str}{st:Stmt}{ps:List Str}{c k n m j:Nat}{fb:En->RS}{fm:En->R (T×En)}
abbrev Sc (N ps:List Str)(st:Stmt):Prop:=ja N ps (zj st)
theorem okP (C:FE Z.K Z.mg x st ps)(N:List Str) (hb:∀(f:Addr) (cdv:Value) (A:Around) (outer:List Env) (s:Shared) (H:Hp) (E:XK) (Y:Fx),Y.cl=Z.cl->True->jq k (A.deeper (envOfC x (zj st) s.heap.objs.size f cdv))->N.Nodup->True->
   wJ (Jw CX0 Z.P Z.w Z.K Z.mg Z.base N x (zj st) f cdv A outer s H E).nox Y (Z4 st) fb)
  (S:Sc N ps st:=by refine⟨rfl,rfl,rfl, ?_,rfl, ?_, ?_⟩ <;> decide+kernel) (hn:n=ps.length:=by rfl) (hm:m=N.length:=by rfl):qP Z x n (k+1) (oP m fb):=by
 obtain⟨f,fd,C⟩:=C;subst hm;exact⟨_,_,f,fd,C,z34 C.F S hn (λcdv A outer s H E Y hy hr=>hb f cdv A outer s H E Y hy trivial hr S.nd trivial) λ_ _=>rfl⟩
theorem okR (C:FE Z.K Z.mg x st ps)(N:List Str) (hb:∀(f:Addr) (cdv:Value) (A:Around) (outer:List Env) (s:Shared) (H:Hp) (E:XK) (Y:Fx),Y.cl=Z.cl->Y.E=E->jq k (A.deeper (envOfC x (zj st) s.heap.objs.size f cdv))->N.Nodup->ZL (CX1 Z.P Z.w) (Jw (CX1 Z.P Z.w) Z.P Z.w Z.K Z.mg Z.base N x (zj st) f cdv A outer s H E) Y.E->
   wJ (Jw (CX1 Z.P Z.w) Z.P Z.w Z.K Z.mg Z.base N x (zj st) f cdv A outer s H E) Y (Z4 st) fb)
  (S:Sc N ps st:=by refine⟨rfl,rfl,rfl, ?_,rfl, ?_, ?_⟩ <;> decide+kernel) (hn:n=ps.length:=by rfl) (hm:m=N.length:=by rfl):qX Z x n (k+1) (oP m fb):=by
 obtain⟨f,fd,C⟩:=C;subst hm;exact⟨_,_,f,fd,C,xS C.F S hn (λcdv A outer s H E Y hy hE hr=>hb f cdv A outer s H E Y hy hE hr S.nd (hE ▸ Gb)) λ_ _=>rfl⟩
theorem okC (C:FE Z.K Z.mg x st [q])(N:List Str) (hb:∀(f:Addr) (cdv:Value) (A:Around) (outer:List Env) (s:Shared) (H:Hp) (E:XK) (Y:Fx),Y.cl=Z.cl->True->jq k (A.deeper (envOfC x (zj st) s.heap.objs.size f cdv))->N.Nodup->True->
   wJ (Jw CX0 Z.P Z.w Z.K Z.mg Z.base N x (zj st) f cdv A outer s H E).nox Y (Z4 st) fb)
  (S:Sc N [q] st:=by refine⟨rfl,rfl,rfl, ?_,rfl, ?_, ?_⟩ <;> decide+kernel) (h1:1<=N.length:=by decide) (hm:m=N.length:=by rfl):qC Z x (k+1) (oC m fb):=by
 obtain⟨f,fd,C⟩:=C;subst hm;exact⟨_,_,f,fd,C,GV C.F S h1 (λcdv A outer s H E Y hy hr=>hb f cdv A outer s H E Y hy trivial hr S.nd trivial) λ_=>rfl⟩
theorem okB (C:FE Z.K Z.mg x st ps)(hn:n=ps.length:=by rfl):qP Z x n k (λ_=> .bad):=by
 obtain⟨f,fd,C⟩:=C;exact⟨_,_,f,fd,C,λvs H Q E h=>by rw[← hn];exact spP.len vs H Q E h,λA outer s H args us vs Q E _ _ _ _ ⟨B,ts,_,_,_,q⟩=>q.elim⟩
end
section
variable {Z:Zz}{x:Str}{st:Stmt}{ps:List Str}{k n m:Nat}{fb:En->RS}{f:Addr}{fd:FuncData}
theorem okLX (C:Fn Z.K Z.mg x st ps f fd)(N:List Str) (hb:∀(cdv:Value) (A:Around) (outer:List Env) (s:Shared) (H:Hp) (E:XK) (Y:Fx),Y.cl=Z.cl->Y.E=E->jq k (A.deeper (envOfC x (zj st) s.heap.objs.size f cdv))->N.Nodup->ZL (CX1 Z.P Z.w) (Jw (CX1 Z.P Z.w) Z.P Z.w Z.K Z.mg Z.base N x (zj st) f cdv A outer s H E) Y.E->
   wJ (Jw (CX1 Z.P Z.w) Z.P Z.w Z.K Z.mg Z.base N x (zj st) f cdv A outer s H E) Y (Z4 st) fb)
  (S:Sc N ps st:=by refine⟨rfl,rfl,rfl, ?_,rfl, ?_, ?_⟩ <;> decide+kernel) (hn:n=ps.length:=by rfl) (hm:m=N.length:=by rfl):ww Z.P Z.w Z.K Z.mg Z.base (CX1 Z.P Z.w) (k+1) f fd ps (spP Z.cl n (oP m fb)):=by
 subst hm;exact xS C.F S hn (λcdv A outer s H E Y hy hE hr=>hb cdv A outer s H E Y hy hE hr S.nd (hE ▸ Gb)) λ_ _=>rfl
end
section
theorem cZ (hy:Y.cl=cl)(O:QQ x CX0 j (spP cl n g) ⟨X.prog,X.w,X.K,X.mg,X.base,cl⟩)(hr:jq k X.A)(ha:uN X Y (a :: es) ga)(hj:j<=k:=by omega)(gl:Gl X x:=by rfl)(hd:(x == ("__debug__":Str))=false:=by decide)
  (hs:starEach (a :: es) X.env=(false,eval a X.env) :: starEach es X.env:=by exact zW rfl) (hz:((backTo pos (starEach es X.env)).any λx=>x.fst)=false:=by exact Zq rfl):Snd X Y (.Call (.Name x p) (a :: es) [] pos) (za n g ga):=
 O.go λ_ _ _ _ C F=>kz hy F hr hj gl C.m C.F.kp C.b ha hd hs hz
theorem cX (hy:Y.cl=cl)(hp:ZL (CX1 X.prog X.w) X Y.E)(O:QQ x (CX1 X.prog X.w) j (spP cl n g) ⟨X.prog,X.w,X.K,X.mg,X.base,cl⟩)(hr:jq k X.A)(ha:uN X Y (a :: es) ga)(hj:j<=k:=by omega)(gl:Gl X x:=by rfl)(hd:(x == ("__debug__":Str))=false:=by decide)
  (hs:starEach (a :: es) X.env=(false,eval a X.env) :: starEach es X.env:=by exact zW rfl) (hz:((backTo pos (starEach es X.env)).any λx=>x.fst)=false:=by exact Zq rfl):Snd X Y (.Call (.Name x p) (a :: es) [] pos) (za n g ga):=
 O.go λ_ _ _ _ C F=>kB hy hp F hr hj gl C.m C.F.kp C.b ha hd hs hz
end
noncomputable def nms (N:List Str)(js:List Nat):List Str:=js.map λj=>N.getD j ""
noncomputable def ndB:List Str->Bool
 | []=>true
 | x :: r=> !(r.contains x) && ndB r
theorem y0:∀{l:List Str},ndB l=true->l.Nodup
 | [],_=> .nil
 | x :: r,h=>by
  rw[ndB,ac]at h;exact cV.mpr ⟨by simpa using h.1,y0 h.2⟩
def z1E (N N' :List Str)(sc0 scope:Scope)(k:Nat)(js:List Nat):Bool:=(z1y scope sc0 && z1z N N' scope sc0 k js) && ndB N'
section
variable {cl:Nat->Value}{X:Cx}{Y:Fx}{x y:Str}{p p' p2:Pos}{kk:Nat}{iter elt:Expr}{ifs:List Expr}{scope:Scope}{js:List Nat}{fi:En->R (List T)}{ft:En->R Bool}{fe:En->R T}
theorem cr1 (hy:Y.cl=cl)(h:z1E X.N (x :: nms X.N js) X.env.scope scope 1 js=true)(hx:((relabel scope X.env).names.lookup x == some .local)=true)(cm:X.calm=true)(it:uY X Y (.Name x p) iter fi)(tt:∀Y',Y'.cl=cl->xP X scope (x :: nms X.N js) λXC=>Wd XC Y' ifs ft)
  (el:∀Y',Y'.cl=cl->GJ X scope (x :: nms X.N js) Y'.E λXC=>Snd XC Y' elt fe) (hs:∀x,foldedSetIterable iter X.env x=pure x:=by intro _;rfl):wL X Y (.Name x p) iter elt ifs scope (x :: nms X.N js) 1 js fi (W5 0) (zq 0) ft fe:=by
 subst hy;rw[z1E,ac]at h;have hx:(relabel scope X.env).names.lookup x=some .local:=eq_of_beq hx;exact xR _ _ _ rfl rfl h.1 cm it (λ_ _ _ _ _ _=>jU (y0 h.2) rfl (.inl hx) (.inr hx)) (Vd 0) (Vg 0) tt el hs
theorem cr2 (hy:Y.cl=cl)(h:z1E X.N (x :: y :: nms X.N js) X.env.scope scope 2 js=true)(hx:((relabel scope X.env).names.lookup x == some .local && (relabel scope X.env).names.lookup y == some .local)=true)(cm:X.calm=true)(it:uY X Y (.Tuple [.Name x p,.Name y p'] kk p2) iter fi)(tt:∀Y',Y'.cl=cl->xP X scope (x :: y :: nms X.N js) λXC=>Wd XC Y' ifs ft)
  (el:∀Y',Y'.cl=cl->GJ X scope (x :: y :: nms X.N js) Y'.E λXC=>Snd XC Y' elt fe) (hs:∀x,foldedSetIterable iter X.env x=pure x:=by intro _;rfl):wL X Y (.Tuple [.Name x p,.Name y p'] kk p2) iter elt ifs scope (x :: y :: nms X.N js) 2 js fi (z1s X.K 2 (Yy (W5 0) (Yy (W5 1) z2j))) (Z8 0 1) ft fe:=by
 subst hy;rw[z1E,ac]at h;rw[ac]at hx;have h1:(relabel scope X.env).names.lookup x=some .local:=eq_of_beq hx.1;have h2:(relabel scope X.env).names.lookup y=some .local:=eq_of_beq hx.2;exact xR _ _ _ rfl rfl h.1 cm it (λ_ _ _ _ _ _=>xA cm (Jv (jU (y0 h.2) rfl (.inl h1) (.inr h1)) (Jv (jU (y0 h.2) rfl (.inl h2) (.inr h2)) Yz))) (Ve _ 0 1) (Vh 0 1) tt el hs
end
end PV
namespace L2
open PySem PySem.Spec PyProof.Rows
section
end
end L2
namespace PV
open PySem PySem.Spec PyProof.Rows L2 PySem.W
section
end
end PV
namespace PV
open PySem PySem.Spec PyProof.Rows L2
end PV
namespace PV
open PySem PySem.Spec PyProof.Rows L2 PySem.W
section
end
section
end
section
end
section
end
section
end
end PV
namespace PV
open PySem PySem.Spec PyProof.Rows L2
def JY:T->R T
 | .lst ts=>(match wN ts with
  | some ys=>if ts.length < 64 then .ok (.lst ((uO ys).map T.str)) else .bad
  | none=> .bad)
 | _=> .bad
section
theorem U6:Zk X (.builtin "sorted") (λvs H Q=>∃l xs ts ys,vs=[.ref l]/\H l=some (.lst xs)/\zC H xs ts/\wN ts=some ys/\ts.length < 64/\∀r,H r=none->Q (.ref r) (upd H r (.lst ((uO ys).map V.str)))):=by
 intro pins s σ H vs us Q I rv h;obtain⟨l,xs,ts,ys,rfl,hl,r,hk,h64,q⟩:=h;obtain⟨u,rfl,ru⟩:=Zv rv;obtain rfl:u=Value.ref l:=ru;obtain⟨its,rv,p,hlen,_⟩:=zO I (.inl hl) r;have hS:=Jx r rv hk;refine sorted_strs p hS (by omega) λout ss' a1 a2 a3=> ?_
 have e:=wP _ _ (a2.trans (ui ys).symm) (U5 _ a3) (JW ys);obtain⟨n,he⟩:=sortedAll_at _ its out;have hle:s.heap.objs.size<=s.heap.objs.size+1:=dO _;refine⟨.ref _,upd H _ _,I.laid (λb u e=>sortedAll_old e) hle ?_,rfl,by have:=q _ (I.hok.fresh hle);rw[← e]at this;exact this⟩
 have hl2:ss'.length=ts.length:=by rw[a2.length_eq,VD hk]
 exact⟨by rw[aa,cj];omega,out.toList,n,qQ a1,he⟩
theorem Ka (gl:Gl X "sorted")(mg:X.mg "sorted"=none)(ha:je X Y a fa)(hs:St1 X a:=by exact st1 rfl):Snd X Y (.Call (.Name "sorted" p) [a] [] pos) (ap1 JY fa):=
 JM U6 (λv t B H Q r sB q=>by
  cases r with
  | @lst l xs ts h r=>
   have q:Po Y rC B H (match wN ts with | some ys=>if ts.length < 64 then .ok _ else .bad | none=> .bad) Q:=q
   split at q
   ·rename_i ys e;split at q
    ·rename_i h64;refine⟨l,xs,ts,ys,rfl,h,r,e,h64,λz hz=> ?_⟩;exact q _ _ (zt.new hz _) (.lst (j1 hz _) (uj _))
    ·exact q.elim
   ·exact q.elim
  | _=>exact q.elim) gl mg PyProof.Rows.Boot.«sorted» ha hs
end
end PV
namespace G
open PySem PySem.Spec PyProof.Rows L2 PV
noncomputable def okX (c:Nat):Bool:=decide (c < 6)
noncomputable def J7 (c:Nat):Bool:=c == 0
noncomputable def jD (c:Nat):Bool:=c == 1
noncomputable def J8 (c:Nat):Bool:=c == 2
noncomputable def jE (c:Nat):Bool:=c == 3
noncomputable def JZ (c:Nat):Bool:=c == 4
noncomputable def J9 (c:Nat):Bool:=c == 5
noncomputable def ZR (_:Nat):Bool:=true
def b_1n:En->RS:=
  zh (ifS (zm ltC (vB 1) (ap1 zT (vB 0))) (zl (zb ixT (vE 0) (vE 1))) (nxS))
  (zh (ifS (zm eqC (vB 0) (Ze (zd))) (zl (cE (.int 0))) (nxS))
  (zl (zb zn (zb Z0 (zb ixT (vE 0) (zb j2 (vE 1) (ap1 zT (vB 0)))) (cE (.int 31))) (vE 1))))
def z0l:List T->R T:=λts=>zf (b_1n  (en0 2 ts))
def b_2 (c_1n:List T->R T):En->RS:=
  zh (zp 3 (zb j2 (zb Z0 (zb zn (za 2 c_1n (z9 (vE 0) (z9 (vE 1) (zd)))) (zb Z0 (cE (.int 6151)) (zb zn (vE 1) (cE (.int 1))))) (cE (.int 40692))) (cE (.int 2147483399))))
  (zl (zb j2 (zb j2 (zb zn (zb Z0 (vE 3) (vE 3)) (zb W9 (vE 3) (cE (.int 31)))) (cE (.int 2147483629))) (vE 2)))
def f_2:List T->R T:=λts=>zf (b_2 (z0l) (en0 4 ts))
def z1F (c_2:List T->R T):En->RS:=
  zh (zp 2 (cE (.str "abcdefghijklmnopqrstuvwxyz")))
  (zh (ifS (zm gtC (za 3 c_2 (z9 (vE 0) (z9 (vE 1) (z9 (cE (.int 6)) (zd))))) (cE (.int 0))) (zl (zb ixT (Ze (z9 (cE (.str "a")) (z9 (cE (.str "b")) (z9 (cE (.str "ab")) (z9 (cE (.str "cab")) (zd)))))) (za 3 c_2 (z9 (vE 0) (z9 (zb zn (vE 1) (cE (.int 1))) (z9 (cE (.int 4)) (zd))))))) (nxS))
  (zl (ap1 (GP "") (zz (zX (zb zn (cE (.int 1)) (za 3 c_2 (z9 (vE 0) (z9 (zb zn (vE 1) (cE (.int 1))) (z9 (cE (.int 3)) (zd))))))) (zq 0) (Z3) (zb ixT (vE 3) (za 3 c_2 (z9 (vE 1) (z9 (zb zn (zb zn (vE 2) (cE (.int 2))) (vE 0)) (z9 (cE (.int 26)) (zd)))))) 1 [0,1,2]))))
def gq:List T->R T:=λts=>zf (z1F (f_2) (en0 3 ts))
def z1G (c_2:List T->R T)(c_17:List T->R T):En->RS:=
  zh (ifS (zm gtC (za 3 c_2 (z9 (vE 0) (z9 (vE 1) (z9 (cE (.int 3)) (zd))))) (cE (.int 0))) (zh (zp 2 (zb jg (za 3 c_2 (z9 (vE 0) (z9 (zb zn (vE 1) (cE (.int 1))) (z9 (cE (.int 7)) (zd))))) (cE (.int 3))))
  (zh (ifS (zm eqC (za 3 c_2 (z9 (vE 0) (z9 (zb zn (vE 1) (cE (.int 3))) (z9 (cE (.int 8)) (zd))))) (cE (.int 0))) (zp 2 (zb ixT (Ze (z9 (Ym (cE (.int 20))) (z9 (cE (.int 17)) (z9 (cE (.int 20)) (zd))))) (za 3 c_2 (z9 (vE 0) (z9 (zb zn (vE 1) (cE (.int 4))) (z9 (cE (.int 3)) (zd))))))) (nxS))
  (zl (zG (z9 (cE (.str "whole")) (z9 (vE 2) (z9 (zb qg (cE (.int 20)) (zb zn (vE 2) (za 3 c_2 (z9 (vE 0) (z9 (zb zn (vE 1) (cE (.int 2))) (z9 (cE (.int 4)) (zd))))))) (zd)))))))) (nxS))
  (zh (UI 3 (zd))
  (zh (ZK (zX (zb zn (cE (.int 1)) (za 3 c_2 (z9 (vE 0) (z9 (zb zn (vE 1) (cE (.int 1))) (z9 (cE (.int 4)) (zd))))))) (zq 4) (zh (zp 5 (za 2 c_17 (z9 (vE 0) (z9 (zb zn (zb zn (vE 1) (cE (.int 5))) (zb Z0 (cE (.int 5)) (vE 4))) (zd)))))
  (ifS (zm V5 (vB 5) (vB 3)) (Vb 3 (vE 5)) (nxS))))
  (zl (zG (z9 (cE (.str "pick")) (z9 (ap1 z1x (zz (kv (vE 3)) (Z8 0 1) (Z3) (zG (z9 (vE 1) (z9 (zb zn (cE (.int 1)) (za 3 c_2 (z9 (vE 2) (z9 (zb zn (zb zn (vE 3) (cE (.int 30))) (vE 0)) (z9 (cE (.int 20)) (zd)))))) (zd)))) 2 [0,1])) (zd)))))))
def z0m:List T->R T:=λts=>zf (z1G (f_2) (gq) (en0 6 ts))
def b_k (c_2:List T->R T)(c_1a:List T->R T)(c_k:List T->R T):En->RS:=
  zh (zp 3 (za 3 c_2 (z9 (vE 0) (z9 (vE 1) (z9 (cE (.int 5)) (zd))))))
  (zh (ifS (orT (zm eqC (vB 2) (cE (.int 1))) (zm ltC (vB 3) (cE (.int 2)))) (zl (za 2 c_1a (z9 (vE 0) (z9 (zb zn (vE 1) (cE (.int 1))) (zd))))) (nxS))
  (zh (ifS (zm ltC (vB 3) (cE (.int 4))) (zh (zp 4 (zz (zX (zb zn (cE (.int 1)) (za 3 c_2 (z9 (vE 0) (z9 (zb zn (vE 1) (cE (.int 1))) (z9 (cE (.int 3)) (zd))))))) (zq 0) (Z3) (za 3 c_k (z9 (vE 1) (z9 (zb zn (zb zn (zb Z0 (cE (.int 3)) (vE 2)) (cE (.int 40))) (zb Z0 (cE (.int 50)) (vE 0))) (z9 (zb jg (vE 3) (cE (.int 1))) (zd))))) 1 [0,1,2]))
  (zl (zG (z9 (cE (.str "row")) (z9 (ap1 z1x (vE 4)) (zd)))))) (nxS))
  (zh (zp 5 (za 3 c_2 (z9 (vE 0) (z9 (zb zn (vE 1) (cE (.int 1))) (z9 (cE (.int 3)) (zd))))))
  (zl (zG (z9 (cE (.str "many")) (z9 (za 3 c_k (z9 (vE 0) (z9 (zb zn (zb Z0 (cE (.int 3)) (vE 1)) (cE (.int 40))) (z9 (zb jg (vE 2) (cE (.int 1))) (zd))))) (z9 (vE 5) (z9 (zb qg (cE (.int 3)) (zb zn (vE 5) (za 3 c_2 (z9 (vE 0) (z9 (zb zn (vE 1) (cE (.int 2))) (z9 (cE (.int 3)) (zd))))))) (zd))))))))))
def S_k:Nat->Nat->List T->R T
 | 0,_=>λ_=> .bad
 | n+1,_=>λts=>zf (b_k (f_2) (z0m) (S_k n 0) (en0 6 ts))
abbrev f_k (n:Nat):List T->R T:=S_k n 0
def b_m:En->RS:=
  zh (zp 1 (Ze (z9 (zG (zd)) (zd))))
  (zh (ZK (Zb (vE 0)) (zq 2) (zh (UI 3 (zd))
  (zh (ZK (Zb (vE 1)) (zq 4) (yT 3 (zz (Zb (vE 2)) (zq 0) (Z3) (zb zn (vE 1) (zG (z9 (vE 0) (zd)))) 1 [4])))
  (mvS 1 3))))
  (zl (vE 1)))
def f_m:List T->R T:=λts=>zf (b_m  (en0 5 ts))
def b_4 (c_4:List T->R T)(c_m:List T->R T):En->RS:=
  zh (ifS (zm eqC (zb ixT (vE 0) (cE (.int 0))) (cE (.str "whole"))) (zl (z1A (Jr (zb ixT (vE 0) (cE (.int 1))) (zb zn (zb ixT (vE 0) (cE (.int 2))) (cE (.int 1)))))) (nxS))
  (zh (ifS (zm eqC (zb ixT (vE 0) (cE (.int 0))) (cE (.str "pick"))) (zl (zz (Zb (zb ixT (vE 0) (cE (.int 1)))) (Z8 0 1) (Z3) (vE 0) 2 [])) (nxS))
  (zh (ifS (zm eqC (zb ixT (vE 0) (cE (.int 0))) (cE (.str "row"))) (zl (za 1 c_m (z9 (zz (Zb (zb ixT (vE 0) (cE (.int 1)))) (zq 0) (Z3) (za 1 c_4 (z9 (vE 0) (zd))) 1 []) (zd)))) (nxS))
  (zh (UI 1 (zd))
  (zh (ZK (Jr (zb ixT (vE 0) (cE (.int 2))) (zb zn (zb ixT (vE 0) (cE (.int 3))) (cE (.int 1)))) (zq 2) (yT 1 (za 1 c_m (z9 (zb Z0 (Ze (z9 (za 1 c_4 (z9 (zb ixT (vE 0) (cE (.int 1))) (zd))) (zd))) (vE 2)) (zd)))))
  (zl (vE 1))))))
def S_4:Nat->Nat->List T->R T
 | 0,_=>λ_=> .bad
 | n+1,_=>λts=>zf (b_4 (S_4 n 0) (f_m) (en0 3 ts))
abbrev f_4 (n:Nat):List T->R T:=S_4 n 0
def b_i (c_4:List T->R T)(c_i:List T->R T):En->RS:=
  zh (ifS (zm inC (zb ixT (vE 0) (cE (.int 0))) (zG (z9 (cE (.str "whole")) (z9 (cE (.str "pick")) (zd))))) (zl (ap1 zT (za 1 c_4 (z9 (vE 0) (zd))))) (nxS))
  (zh (zp 1 (ifE (zm eqC (zb ixT (vE 0) (cE (.int 0))) (cE (.str "row"))) (zz (Zb (zb ixT (vE 0) (cE (.int 1)))) (zq 0) (Z3) (za 1 c_i (z9 (vE 0) (zd))) 1 []) (Ze (zd))))
  (zh (zp 2 (cE (.int 1)))
  (zh (ZK (Zb (vE 1)) (zq 3) (zp 2 (zb Z0 (vE 2) (vE 3))))
  (zh (ifS (zm eqC (zb ixT (vE 0) (cE (.int 0))) (cE (.str "many"))) (zh (zp 4 (za 1 c_i (z9 (zb ixT (vE 0) (cE (.int 1))) (zd))))
  (zh (zp 2 (zb zn (ap1 qy (ZE eqC (zb ixT (vE 0) (cE (.int 2))) (cE (.int 0)))) (zb Z0 (vE 4) (ap1 qy (chE leC leC (zb ixT (vE 0) (cE (.int 2))) (cE (.int 1)) (zb ixT (vE 0) (cE (.int 3))))))))
  (zh (zp 2 (zb zn (vE 2) (zb Z0 (zb Z0 (vE 4) (vE 4)) (ap1 qy (chE leC leC (zb ixT (vE 0) (cE (.int 2))) (cE (.int 2)) (zb ixT (vE 0) (cE (.int 3))))))))
  (zp 2 (zb zn (vE 2) (zb Z0 (zb Z0 (zb Z0 (vE 4) (vE 4)) (vE 4)) (ap1 qy (ZE eqC (zb ixT (vE 0) (cE (.int 3))) (cE (.int 3)))))))))) (nxS))
  (zl (vE 2))))))
def S_i:Nat->Nat->List T->R T
 | 0,_=>λ_=> .bad
 | n+1,_=>λts=>zf (b_i (f_4 8) (S_i n 0) (en0 5 ts))
abbrev f_i (n:Nat):List T->R T:=S_i n 0
def z1H (c_k:List T->R T)(c_i:List T->R T):En->RS:=
  zh (zp 3 (za 3 c_k (z9 (vE 0) (z9 (vE 1) (z9 (cE (.int 3)) (zd))))))
  (zh (ZK (zX (cE (.int 3))) (zq 4) (zh (ifS (zm leC (za 1 c_i (z9 (vE 3) (zd))) (vB 2)) (zl (vE 3)) (nxS))
  (zp 3 (za 3 c_k (z9 (vE 0) (z9 (zb zn (zb zn (vE 1) (cE (.int 500))) (zb Z0 (cE (.int 700)) (vE 4))) (z9 (cE (.int 2)) (zd))))))))
  (zl (ifE (zm leC (za 1 c_i (z9 (vE 3) (zd))) (vB 2)) (vE 3) (zG (z9 (cE (.str "whole")) (z9 (Ym (cE (.int 1))) (z9 (cE (.int 2)) (zd))))))))
def z0n:List T->R T:=λts=>zf (z1H (f_k 8) (f_i 8) (en0 5 ts))
def b_s (c_2:List T->R T)(c_s:List T->R T):En->RS:=
  zh (zp 3 (za 3 c_2 (z9 (vE 0) (z9 (vE 1) (z9 (cE (.int 9)) (zd))))))
  (zh (ifS (wy (zm gtC (vB 2) (cE (.int 1))) (zm gtC (vB 3) (cE (.int 5)))) (zh (zp 4 (za 3 c_s (z9 (vE 0) (z9 (zb zn (zb Z0 (cE (.int 2)) (vE 1)) (cE (.int 11))) (z9 (zb jg (vE 2) (cE (.int 1))) (zd))))))
  (zh (ifS (zm eqC (vB 3) (cE (.int 6))) (zl (zG (z9 (cE (.str "no")) (z9 (vE 4) (zd))))) (nxS))
  (zl (zG (z9 (zb ixT (Ze (z9 (cE (.str "all")) (z9 (cE (.str "some")) (zd)))) (zb jg (vE 3) (cE (.int 7)))) (z9 (vE 4) (z9 (za 3 c_s (z9 (vE 0) (z9 (zb zn (zb Z0 (cE (.int 2)) (vE 1)) (cE (.int 24))) (z9 (zb jg (vE 2) (cE (.int 1))) (zd))))) (zd)))))))) (nxS))
  (zh (zp 5 (zb jg (za 3 c_2 (z9 (vE 0) (z9 (zb zn (vE 1) (cE (.int 1))) (z9 (cE (.int 9)) (zd))))) (cE (.int 4))))
  (zh (ifS (zm ltC (zb j2 (vE 3) (cE (.int 6))) (cE (.int 2))) (zl (zG (z9 (cE (.str "sum")) (z9 (vE 5) (z9 (zb jg (zb zn (vE 5) (za 3 c_2 (z9 (vE 0) (z9 (zb zn (vE 1) (cE (.int 2))) (z9 (cE (.int 5)) (zd)))))) (cE (.int 1))) (zd)))))) (nxS))
  (zh (ifS (zm eqC (zb j2 (vE 3) (cE (.int 6))) (cE (.int 2))) (zl (zG (z9 (cE (.str "size")) (z9 (za 3 c_2 (z9 (vE 0) (z9 (zb zn (vE 1) (cE (.int 1))) (z9 (cE (.int 3)) (zd))))) (z9 (za 3 c_2 (z9 (vE 0) (z9 (zb zn (vE 1) (cE (.int 2))) (z9 (cE (.int 4)) (zd))))) (zd)))))) (nxS))
  (zh (ifS (zm eqC (zb j2 (vE 3) (cE (.int 6))) (cE (.int 3))) (zl (zG (z9 (cE (.str "word")) (z9 (zb ixT (Ze (z9 (cE (.str "a")) (z9 (cE (.str "b")) (z9 (cE (.str "ab")) (z9 (cE (.str "zz")) (zd)))))) (za 3 c_2 (z9 (vE 0) (z9 (zb zn (vE 1) (cE (.int 1))) (z9 (cE (.int 4)) (zd)))))) (zd))))) (nxS))
  (zl (ifE (zm eqC (zb j2 (vE 3) (cE (.int 6))) (cE (.int 4))) (zG (z9 (cE (.str "rising")) (zd))) (zG (z9 (cE (.str "unlike")) (zd))))))))))
def S_s:Nat->Nat->List T->R T
 | 0,_=>λ_=> .bad
 | n+1,_=>λts=>zf (b_s (f_2) (S_s n 0) (en0 6 ts))
abbrev f_s (n:Nat):List T->R T:=S_s n 0
def b_u (c_u:List T->R T):En->RS:=
  zh (ifS (jz (Z9 (ap1 (ZQ "tuple") (vB 0)))) (zl (Ze (z9 (vE 0) (zd)))) (nxS))
  (zh (zp 1 (Ze (zd)))
  (zh (ZK (Zb (vE 0)) (zq 2) (zp 1 (zb zn (vE 1) (za 1 c_u (z9 (vE 2) (zd))))))
  (zl (vE 1))))
def S_u:Nat->Nat->List T->R T
 | 0,_=>λ_=> .bad
 | n+1,_=>λts=>zf (b_u (S_u n 0) (en0 3 ts))
abbrev f_u (n:Nat):List T->R T:=S_u n 0
def b_e (c_u:List T->R T)(c_e:List T->R T):En->RS:=
  zh (zp 2 (zz (Zb (za 1 c_u (z9 (vE 1) (zd)))) (zq 0) (Z9 (ap1 (ZQ "int") (vB 0))) (vE 0) 1 []))
  (zh (zp 3 (ifE (Z9 (ap1 (ZQ "tuple") (vB 1))) (vE 1) (zG (z9 (vE 1) (zd)))))
  (zh (ifS (zm eqC (zb ixT (vE 0) (cE (.int 0))) (cE (.str "sum"))) (zh (zp 4 (cE (.int 0)))
  (zh (ZK (Zb (vE 2)) (zq 5) (zp 4 (zb zn (vE 4) (vE 5))))
  (zl (ZJ (ZE leC (zb ixT (vE 0) (cE (.int 1))) (vB 4)) (ZE leC (vB 4) (zb ixT (vE 0) (cE (.int 2)))))))) (nxS))
  (zh (ifS (zm eqC (zb ixT (vE 0) (cE (.int 0))) (cE (.str "size"))) (zl (ZJ (ZE geC (ap1 zT (vB 3)) (zb ixT (vE 0) (cE (.int 1)))) (ZE leC (ap1 zT (vB 3)) (zb ixT (vE 0) (cE (.int 2)))))) (nxS))
  (zh (ifS (zm eqC (zb ixT (vE 0) (cE (.int 0))) (cE (.str "word"))) (zl (ZE neC (zz (Zb (za 1 c_u (z9 (vE 1) (zd)))) (zq 0) (zm eqC (vB 0) (zb ixT (vE 1) (cE (.int 1)))) (vE 0) 1 [0]) (Ze (zd)))) (nxS))
  (zh (ifS (zm eqC (zb ixT (vE 0) (cE (.int 0))) (cE (.str "rising"))) (zl (ZE eqC (vB 2) (ap1 Vz (vB 2)))) (nxS))
  (zh (ifS (zm eqC (zb ixT (vE 0) (cE (.int 0))) (cE (.str "unlike"))) (zl (ZE eqC (zz (zX (ap1 zT (vB 3))) (zq 0) (zm inC (zb ixT (vE 1) (vE 0)) (slE (vE 1) (noO) (zU (vE 0)))) (vE 0) 1 [3]) (Ze (zd)))) (nxS))
  (zh (ifS (zm eqC (zb ixT (vE 0) (cE (.int 0))) (cE (.str "no"))) (zl (qb (za 2 c_e (z9 (zb ixT (vE 0) (cE (.int 1))) (z9 (vE 1) (zd)))))) (nxS))
  (zh (zp 6 (zz (Zb (slE (vE 0) (zU (cE (.int 1))) (noO))) (zq 0) (Z3) (za 2 c_e (z9 (vE 0) (z9 (vE 1) (zd)))) 1 [1]))
  (zl (ifE (zm eqC (zb ixT (vE 0) (cE (.int 0))) (cE (.str "all"))) (ZJ (zb ixT (vE 6) (cE (.int 0))) (zb ixT (vE 6) (cE (.int 1)))) (orE (zb ixT (vE 6) (cE (.int 0))) (zb ixT (vE 6) (cE (.int 1))))))))))))))
def S_e:Nat->Nat->List T->R T
 | 0,_=>λ_=> .bad
 | n+1,_=>λts=>zf (b_e (f_u 8) (S_e n 0) (en0 7 ts))
abbrev f_e (n:Nat):List T->R T:=S_e n 0
def z1I:En->RS:=
  zh (yV 2 3 (z9 (zb zn (zb mlT (zb ixT (vE 0) (cE (.int 0))) (zb ixT (vE 1) (cE (.int 1)))) (zb mlT (zb ixT (vE 1) (cE (.int 0))) (zb ixT (vE 0) (cE (.int 1))))) (z9 (zb mlT (zb ixT (vE 0) (cE (.int 1))) (zb ixT (vE 1) (cE (.int 1)))) (zd))))
  (zh (yV 4 5 (z9 (vE 2) (z9 (vE 3) (zd))))
  (zh (Zy (zm neC (vB 5) (cE (.int 0))) (yV 4 5 (z9 (vE 5) (z9 (zb j2 (vE 4) (vE 5)) (zd)))) (2 ^ 9000))
  (zl (zG (z9 (zb xY (vE 2) (vE 4)) (z9 (zb xY (vE 3) (vE 4)) (zd)))))))
def X2:List T->R T:=λts=>zf (z1I  (en0 6 ts))
def b_d:En->RS:=
  zl (ZJ (ap1 (ZQ "int") (vB 0)) (qb (ap1 (ZQ "bool") (vB 0))))
def f_d:List T->R T:=λts=>zf (b_d  (en0 1 ts))
def b_1p (c_d:List T->R T):En->RS:=
  zl (ZJ (za 1 c_d (z9 (vE 0) (zd))) (ZJ (za 1 c_d (z9 (vE 1) (zd))) (ch3E leC leC leC (vB 2) (vB 0) (vB 1) (vB 3))))
def z1J:List T->R T:=λts=>zf (b_1p (f_d) (en0 4 ts))
def b_h:En->RS:=
  zl (ZJ (ap1 (ZQ "tuple") (vB 0)) (chE leC leC (vB 1) (ap1 zT (vB 0)) (vB 2)))
def f_h:List T->R T:=λts=>zf (b_h  (en0 3 ts))
def b_6:En->RS:=
  zh (ifS (orT (jz (Z9 (ap1 (ZQ "str") (vB 0)))) (jz (chT leC leC (cE (.int 1)) (ap1 zT (vB 0)) (cE (.int 3))))) (zl (cE (.bl false))) (nxS))
  (zl (ap1 xI (zz (Zb (vE 0)) (zq 0) (Z3) (chE leC leC (cE (.str "a")) (vB 0) (cE (.str "z"))) 1 [])))
def f_6:List T->R T:=λts=>zf (b_6  (en0 1 ts))
def z1K (c_d:List T->R T)(c_h:List T->R T)(c_6:List T->R T):En->RS:=
  zl (ZJ (za 3 c_h (z9 (vE 0) (z9 (cE (.int 2)) (z9 (cE (.int 2)) (zd))))) (ZJ (za 1 c_6 (z9 (zb ixT (vE 0) (cE (.int 0))) (zd))) (ZJ (za 1 c_d (z9 (zb ixT (vE 0) (cE (.int 1))) (zd))) (chE leC leC (cE (.int 1)) (zb ixT (vE 0) (cE (.int 1))) (cE (.int 20))))))
def z0o:List T->R T:=λts=>zf (z1K (f_d) (f_h) (f_6) (en0 1 ts))
def z1L (c_h:List T->R T)(c_1e:List T->R T):En->RS:=
  zh (ifS (orT (jz (Z9 (za 3 c_h (z9 (vE 0) (z9 (cE (.int 1)) (z9 (cE (.int 4)) (zd))))))) (jz (Z9 (ap1 xI (zz (Zb (vE 0)) (zq 0) (Z3) (za 1 c_1e (z9 (vE 0) (zd))) 1 []))))) (zl (cE (.bl false))) (nxS))
  (zh (zp 1 (zz (Zb (vE 0)) (zq 0) (Z3) (zb ixT (vE 0) (cE (.int 0))) 1 []))
  (zl (ZE eqC (ap1 Vk (vB 1)) (ap1 zT (vB 1)))))
def z0p:List T->R T:=λts=>zf (z1L (f_h) (z0o) (en0 2 ts))
def b_b (c_1p:List T->R T)(c_b:List T->R T)(c_1c:List T->R T)(c_1v:List T->R T):En->RS:=
  zh (ifS (orT (zm eqC (vB 1) (cE (.int 0))) (orT (jz (Z9 (ap1 (ZQ "tuple") (vB 0)))) (zm eqC (ap1 zT (vB 0)) (cE (.int 0))))) (zl (cE (.bl false))) (nxS))
  (zh (ifS (zm eqC (zb ixT (vE 0) (cE (.int 0))) (cE (.str "whole"))) (zl (ZJ (ZE eqC (ap1 zT (vB 0)) (cE (.int 3))) (za 4 c_1p (z9 (zb ixT (vE 0) (cE (.int 1))) (z9 (zb ixT (vE 0) (cE (.int 2))) (z9 (Ym (cE (.int 20))) (z9 (cE (.int 20)) (zd)))))))) (nxS))
  (zh (ifS (zm eqC (zb ixT (vE 0) (cE (.int 0))) (cE (.str "pick"))) (zl (ZJ (ZE eqC (ap1 zT (vB 0)) (cE (.int 2))) (za 1 c_1c (z9 (zb ixT (vE 0) (cE (.int 1))) (zd))))) (nxS))
  (zh (ifS (zm eqC (zb ixT (vE 0) (cE (.int 0))) (cE (.str "row"))) (zl (ZJ (ZE eqC (ap1 zT (vB 0)) (cE (.int 2))) (za 2 c_1v (z9 (zb ixT (vE 0) (cE (.int 1))) (z9 (zb jg (vE 1) (cE (.int 1))) (zd)))))) (nxS))
  (zh (ifS (zm eqC (zb ixT (vE 0) (cE (.int 0))) (cE (.str "many"))) (zl (ZJ (ZE eqC (ap1 zT (vB 0)) (cE (.int 4))) (ZJ (za 4 c_1p (z9 (zb ixT (vE 0) (cE (.int 2))) (z9 (zb ixT (vE 0) (cE (.int 3))) (z9 (cE (.int 0)) (z9 (cE (.int 3)) (zd)))))) (za 2 c_b (z9 (zb ixT (vE 0) (cE (.int 1))) (z9 (zb jg (vE 1) (cE (.int 1))) (zd))))))) (nxS))
  (zl (cE (.bl false)))))))
def z1M (c_h:List T->R T)(c_b:List T->R T):En->RS:=
  zl (ZJ (za 3 c_h (z9 (vE 0) (z9 (cE (.int 1)) (z9 (cE (.int 3)) (zd))))) (ap1 xI (zz (Zb (vE 0)) (zq 0) (Z3) (za 2 c_b (z9 (vE 0) (z9 (vE 1) (zd)))) 1 [1])))
def S_b:Nat->Nat->List T->R T
 | 0,_=>λ_=> .bad
 | n+1,0=>λts=>zf (b_b (z1J) (S_b n 0) (z0p) (S_b n 1) (en0 2 ts))
 | n+1,_=>λts=>zf (z1M (f_h) (S_b n 0) (en0 2 ts))
abbrev f_b (n:Nat):List T->R T:=S_b n 0
abbrev f_1v (n:Nat):List T->R T:=S_b n 1
def b_1 (c_b:List T->R T):En->RS:=
  zl (za 2 c_b (z9 (vE 0) (z9 (cE (.int 3)) (zd))))
def f_1:List T->R T:=λts=>zf (b_1 (f_b 20) (en0 1 ts))
def b_z (c_1:List T->R T):En->RS:=
  ifS (jz (Z9 (za 1 c_1 (z9 (vE 0) (zd))))) (u9 0) (nxS)
def f_z:List T->R T:=λts=>zf (b_z (f_1) (en0 1 ts))
def b_w:En->RS:=
  zl (zz (Zb (zb ixT (vE 0) (cE (.int 1)))) (zq 0) (Z3) (zb ixT (vE 0) (cE (.int 0))) 1 [])
def f_w:List T->R T:=λts=>zf (b_w  (en0 1 ts))
def b_f (c_d:List T->R T)(c_h:List T->R T)(c_w:List T->R T)(c_1t:List T->R T):En->RS:=
  zh (ifS (zm eqC (zb ixT (vE 0) (cE (.int 0))) (cE (.str "whole"))) (zl (ZJ (za 1 c_d (z9 (vE 1) (zd))) (chE leC leC (zb ixT (vE 0) (cE (.int 1))) (vB 1) (zb ixT (vE 0) (cE (.int 2)))))) (nxS))
  (zh (ifS (zm eqC (zb ixT (vE 0) (cE (.int 0))) (cE (.str "pick"))) (zl (ZE inC (vB 1) (za 1 c_w (z9 (vE 0) (zd))))) (nxS))
  (zh (ifS (zm eqC (zb ixT (vE 0) (cE (.int 0))) (cE (.str "row"))) (zl (ZJ (za 3 c_h (z9 (vE 1) (z9 (ap1 zT (zb ixT (vE 0) (cE (.int 1)))) (z9 (ap1 zT (zb ixT (vE 0) (cE (.int 1)))) (zd))))) (za 2 c_1t (z9 (zb ixT (vE 0) (cE (.int 1))) (z9 (vE 1) (zd)))))) (nxS))
  (zl (ZJ (za 3 c_h (z9 (vE 1) (z9 (zb ixT (vE 0) (cE (.int 2))) (z9 (zb ixT (vE 0) (cE (.int 3))) (zd))))) (za 2 c_1t (z9 (zb Z0 (Ze (z9 (zb ixT (vE 0) (cE (.int 1))) (zd))) (ap1 zT (vB 1))) (z9 (vE 1) (zd))))))))
def z1N (c_f:List T->R T):En->RS:=
  zl (ap1 xI (zz (xT (vE 0) (vE 1)) (Z8 0 1) (Z3) (za 2 c_f (z9 (vE 0) (z9 (vE 1) (zd)))) 2 []))
def S_f:Nat->Nat->List T->R T
 | 0,_=>λ_=> .bad
 | n+1,0=>λts=>zf (b_f (f_d) (f_h) (f_w) (S_f n 1) (en0 2 ts))
 | n+1,_=>λts=>zf (z1N (S_f n 0) (en0 2 ts))
abbrev f_f (n:Nat):List T->R T:=S_f n 0
abbrev f_1t (n:Nat):List T->R T:=S_f n 1
def z1O (c_z:List T->R T)(c_f:List T->R T):En->RS:=
  zh (wA (za 1 c_z (z9 (vE 0) (zd))))
  (zl (za 2 c_f (z9 (vE 0) (z9 (vE 1) (zd)))))
def z0q:List T->R T:=λts=>zf (z1O (f_z) (f_f 20) (en0 2 ts))
def z1P (c_1g:List T->R T):En->RS:=
  ifS (jz (Z9 (za 2 c_1g (z9 (vE 0) (z9 (vE 1) (zd)))))) (u9 1) (nxS)
def z1Q:List T->R T:=λts=>zf (z1P (z0q) (en0 2 ts))
def b_3 (c_16:List T->R T)(c_y:List T->R T):En->RS:=
  zh (ifS (zm eqC (zb ixT (vE 0) (cE (.int 0))) (cE (.str "whole"))) (zl (zb zn (zb jg (zb ixT (vE 0) (cE (.int 2))) (zb ixT (vE 0) (cE (.int 1)))) (cE (.int 1)))) (nxS))
  (zh (ifS (zm eqC (zb ixT (vE 0) (cE (.int 0))) (cE (.str "pick"))) (zl (ap1 zT (zb ixT (vE 0) (cE (.int 1))))) (nxS))
  (zh (ifS (zm eqC (zb ixT (vE 0) (cE (.int 0))) (cE (.str "row"))) (zl (za 1 c_16 (z9 (zb ixT (vE 0) (cE (.int 1))) (zd)))) (nxS))
  (zl (za 2 c_y (z9 (vE 0) (z9 (zb zn (zb ixT (vE 0) (cE (.int 3))) (cE (.int 1))) (zd)))))))
def z0r (c_3:List T->R T):En->RS:=
  zh (zp 1 (cE (.int 1)))
  (zh (ZK (Zb (vE 0)) (zq 2) (zp 1 (zb Z0 (vE 1) (za 1 c_3 (z9 (vE 2) (zd))))))
  (zl (vE 1)))
def b_y (c_16:List T->R T):En->RS:=
  zl (ap1 kT (zz (Jr (zb ixT (vE 0) (cE (.int 2))) (vE 1)) (zq 0) (Z3) (za 1 c_16 (z9 (zb Z0 (Ze (z9 (zb ixT (vE 1) (cE (.int 1))) (zd))) (vE 0)) (zd))) 1 [0]))
def S_3:Nat->Nat->List T->R T
 | 0,_=>λ_=> .bad
 | n+1,0=>λts=>zf (b_3 (S_3 n 1) (S_3 n 2) (en0 1 ts))
 | n+1,1=>λts=>zf (z0r (S_3 n 0) (en0 3 ts))
 | n+1,_=>λts=>zf (b_y (S_3 n 1) (en0 2 ts))
abbrev f_3 (n:Nat):List T->R T:=S_3 n 0
abbrev f_16 (n:Nat):List T->R T:=S_3 n 1
abbrev f_y (n:Nat):List T->R T:=S_3 n 2
def z1R:En->RS:=
  zh (Zy (zm neC (vB 1) (cE (.int 0))) (zh (zp 2 (zb j2 (vE 0) (vE 1)))
  (zh (zp 0 (vE 1))
  (zp 1 (vE 2)))) (2 ^ 9000))
  (zl (vE 0))
def z1S:List T->R T:=λts=>zf (z1R  (en0 3 ts))
def b_x (c_1h:List T->R T):En->RS:=
  zh (zp 2 (za 2 c_1h (z9 (ap1 z1D (vB 0)) (z9 (vE 1) (zd)))))
  (zl (zG (z9 (zb xY (vE 0) (vE 2)) (z9 (zb xY (vE 1) (vE 2)) (zd)))))
def f_x:List T->R T:=λts=>zf (b_x (z1S) (en0 3 ts))
def z1T (c_x:List T->R T):En->RS:=
  VC 1 (zb ixT (vE 0) (cE (.int 1))) c_x
def z1U:List T->R T:=λts=>zf (z1T (f_x) (en0 3 ts))
def z1V (c_x:List T->R T):En->RS:=
  zl (za 2 c_x (z9 (zb mlT (zb ixT (vE 0) (cE (.int 0))) (zb ixT (vE 1) (cE (.int 0)))) (z9 (zb mlT (zb ixT (vE 0) (cE (.int 1))) (zb ixT (vE 1) (cE (.int 1)))) (zd))))
def X3:List T->R T:=λts=>zf (z1V (f_x) (en0 2 ts))
def b_8 (c_3:List T->R T)(c_10:List T->R T)(c_1i:List T->R T)(c_1m:List T->R T):En->RS:=
  zh (ifS (zm eqC (zb ixT (vE 0) (cE (.int 0))) (cE (.str "whole"))) (zl (zG (z9 (cE (.int 1)) (z9 (za 1 c_3 (z9 (vE 0) (zd))) (zd))))) (nxS))
  (zh (ifS (zm eqC (zb ixT (vE 0) (cE (.int 0))) (cE (.str "pick"))) (zl (za 2 c_1i (z9 (vE 0) (z9 (vE 1) (zd))))) (nxS))
  (zh (ifS (zm eqC (zb ixT (vE 0) (cE (.int 0))) (cE (.str "row"))) (zl (za 2 c_1m (z9 (zb ixT (vE 0) (cE (.int 1))) (z9 (vE 1) (zd))))) (nxS))
  (zh (zp 2 (zG (z9 (cE (.int 1)) (z9 (zb zn (zb jg (zb ixT (vE 0) (cE (.int 3))) (zb ixT (vE 0) (cE (.int 2)))) (cE (.int 1))) (zd)))))
  (zl (za 2 c_10 (z9 (vE 2) (z9 (za 2 c_1m (z9 (zb Z0 (Ze (z9 (zb ixT (vE 0) (cE (.int 1))) (zd))) (ap1 zT (vB 1))) (z9 (vE 1) (zd)))) (zd))))))))
def z0s (c_10:List T->R T)(c_8:List T->R T):En->RS:=
  zh (zp 2 (zG (z9 (cE (.int 1)) (z9 (cE (.int 1)) (zd)))))
  (zh (ZK (xT (vE 0) (vE 1)) (Z8 3 4) (zp 2 (za 2 c_10 (z9 (vE 2) (z9 (za 2 c_8 (z9 (vE 3) (z9 (vE 4) (zd)))) (zd))))))
  (zl (vE 2)))
def S_8:Nat->Nat->List T->R T
 | 0,_=>λ_=> .bad
 | n+1,0=>λts=>zf (b_8 (f_3 20) (X3) (z1U) (S_8 n 1) (en0 3 ts))
 | n+1,_=>λts=>zf (z0s (X3) (S_8 n 0) (en0 5 ts))
abbrev f_8 (n:Nat):List T->R T:=S_8 n 0
abbrev f_1m (n:Nat):List T->R T:=S_8 n 1
def b_5 (c_1j:List T->R T)(c_8:List T->R T):En->RS:=
  zh (wA (za 2 c_1j (z9 (vE 0) (z9 (vE 1) (zd)))))
  (zl (za 2 c_8 (z9 (vE 0) (z9 (vE 1) (zd)))))
def f_5:List T->R T:=λts=>zf (b_5 (z1Q) (f_8 20) (en0 2 ts))
def z3r (c_d:List T->R T):En->RS:=
  zl (ZJ (za 1 c_d (z9 (vE 0) (zd))) (chE leC leC (Ym (cE (.int 50))) (vB 0) (cE (.int 50))))
def z1W:List T->R T:=λts=>zf (z3r (f_d) (en0 1 ts))
def b_v (c_6:List T->R T)(c_v:List T->R T)(c_1l:List T->R T):En->RS:=
  zh (ifS (orT (zm eqC (vB 1) (cE (.int 0))) (orT (jz (Z9 (ap1 (ZQ "tuple") (vB 0)))) (zm eqC (ap1 zT (vB 0)) (cE (.int 0))))) (zl (cE (.bl false))) (nxS))
  (zh (ifS (orT (zm eqC (zb ixT (vE 0) (cE (.int 0))) (cE (.str "sum"))) (zm eqC (zb ixT (vE 0) (cE (.int 0))) (cE (.str "size")))) (zl (ZJ (ZE eqC (ap1 zT (vB 0)) (cE (.int 3))) (ZJ (za 1 c_1l (z9 (zb ixT (vE 0) (cE (.int 1))) (zd))) (za 1 c_1l (z9 (zb ixT (vE 0) (cE (.int 2))) (zd)))))) (nxS))
  (zh (ifS (zm eqC (zb ixT (vE 0) (cE (.int 0))) (cE (.str "word"))) (zl (ZJ (ZE eqC (ap1 zT (vB 0)) (cE (.int 2))) (za 1 c_6 (z9 (zb ixT (vE 0) (cE (.int 1))) (zd))))) (nxS))
  (zh (ifS (orT (zm eqC (zb ixT (vE 0) (cE (.int 0))) (cE (.str "rising"))) (zm eqC (zb ixT (vE 0) (cE (.int 0))) (cE (.str "unlike")))) (zl (ZE eqC (ap1 zT (vB 0)) (cE (.int 1)))) (nxS))
  (zh (ifS (zm eqC (zb ixT (vE 0) (cE (.int 0))) (cE (.str "no"))) (zl (ZJ (ZE eqC (ap1 zT (vB 0)) (cE (.int 2))) (za 2 c_v (z9 (zb ixT (vE 0) (cE (.int 1))) (z9 (zb jg (vE 1) (cE (.int 1))) (zd)))))) (nxS))
  (zh (ifS (orT (zm eqC (zb ixT (vE 0) (cE (.int 0))) (cE (.str "all"))) (zm eqC (zb ixT (vE 0) (cE (.int 0))) (cE (.str "some")))) (zl (ZJ (ZE eqC (ap1 zT (vB 0)) (cE (.int 3))) (ZJ (za 2 c_v (z9 (zb ixT (vE 0) (cE (.int 1))) (z9 (zb jg (vE 1) (cE (.int 1))) (zd)))) (za 2 c_v (z9 (zb ixT (vE 0) (cE (.int 2))) (z9 (zb jg (vE 1) (cE (.int 1))) (zd))))))) (nxS))
  (zl (cE (.bl false))))))))
def S_v:Nat->Nat->List T->R T
 | 0,_=>λ_=> .bad
 | n+1,_=>λts=>zf (b_v (f_6) (S_v n 0) (z1W) (en0 2 ts))
abbrev f_v (n:Nat):List T->R T:=S_v n 0
def b_c (c_v:List T->R T):En->RS:=
  zl (za 2 c_v (z9 (vE 0) (z9 (cE (.int 3)) (zd))))
def f_c:List T->R T:=λts=>zf (b_c (f_v 8) (en0 1 ts))
def z1X (c_c:List T->R T):En->RS:=
  ifS (jz (Z9 (za 1 c_c (z9 (vE 0) (zd))))) (u9 2) (nxS)
def z0t:List T->R T:=λts=>zf (z1X (f_c) (en0 1 ts))
def b_j (c_w:List T->R T)(c_1u:List T->R T)(c_18:List T->R T):En->RS:=
  zh (ifS (zm eqC (zb ixT (vE 0) (cE (.int 0))) (cE (.str "whole"))) (zl (zb zn (zb ixT (vE 0) (cE (.int 1))) (vE 1))) (nxS))
  (zh (ifS (zm eqC (zb ixT (vE 0) (cE (.int 0))) (cE (.str "pick"))) (zl (zb ixT (za 1 c_w (z9 (vE 0) (zd))) (vE 1))) (nxS))
  (zh (ifS (zm eqC (zb ixT (vE 0) (cE (.int 0))) (cE (.str "row"))) (zl (za 2 c_18 (z9 (zb ixT (vE 0) (cE (.int 1))) (z9 (vE 1) (zd))))) (nxS))
  (zl (za 2 c_1u (z9 (vE 0) (z9 (vE 1) (zd)))))))
def z0u (c_y:List T->R T)(c_18:List T->R T):En->RS:=
  zh (zp 2 (zb ixT (vE 0) (cE (.int 2))))
  (zh (Zy (zm leC (za 2 c_y (z9 (vE 0) (z9 (zb zn (vE 2) (cE (.int 1))) (zd)))) (vB 1)) (zp 2 (zb zn (vE 2) (cE (.int 1)))) (8))
  (zl (za 2 c_18 (z9 (zb Z0 (Ze (z9 (zb ixT (vE 0) (cE (.int 1))) (zd))) (vE 2)) (z9 (zb jg (vE 1) (za 2 c_y (z9 (vE 0) (z9 (vE 2) (zd))))) (zd))))))
def z0v (c_3:List T->R T)(c_j:List T->R T):En->RS:=
  zh (UI 2 (zd))
  (zh (zp 3 (vE 1))
  (zh (ZK (z3i (vE 0)) (zq 4) (zh (zp 5 (za 1 c_3 (z9 (vE 4) (zd))))
  (zh (Vb 2 (za 2 c_j (z9 (vE 4) (z9 (zb j2 (vE 3) (vE 5)) (zd)))))
  (zp 3 (zb W9 (vE 3) (vE 5))))))
  (zl (ap1 Vy (vE 2)))))
def S_j:Nat->Nat->List T->R T
 | 0,_=>λ_=> .bad
 | n+1,0=>λts=>zf (b_j (f_w) (S_j n 1) (S_j n 2) (en0 2 ts))
 | n+1,1=>λts=>zf (z0u (f_y 20) (S_j n 2) (en0 3 ts))
 | n+1,_=>λts=>zf (z0v (f_3 20) (S_j n 0) (en0 6 ts))
abbrev f_j (n:Nat):List T->R T:=S_j n 0
abbrev f_1u (n:Nat):List T->R T:=S_j n 1
abbrev f_18 (n:Nat):List T->R T:=S_j n 2
def X4 (c_z:List T->R T)(c_3:List T->R T)(c_j:List T->R T):En->RS:=
  zh (wA (za 1 c_z (z9 (vE 0) (zd))))
  (zh (zp 1 (za 1 c_3 (z9 (vE 0) (zd))))
  (zh (ifS (zm gtC (vB 1) (cE (.int 500))) (u9 3) (nxS))
  (z1C (zX (vE 1)) (zq 0) (Z3) (za 2 c_j (z9 (vE 1) (z9 (vE 0) (zd)))) 1 [0])))
def gr:List T->R T:=λts=>zf (X4 (f_z) (f_3 20) (f_j 20) (en0 2 ts))
def b_r (c_r:List T->R T):En->RS:=
  zh (ifS (jz (Z9 (ap1 (ZQ "tuple") (vB 0)))) (zl (Ze (z9 (vE 0) (zd)))) (nxS))
  (zh (UI 1 (zd))
  (zh (ZK (Zb (vE 0)) (zq 2) (yT 1 (za 1 c_r (z9 (vE 2) (zd)))))
  (zl (vE 1))))
def S_r:Nat->Nat->List T->R T
 | 0,_=>λ_=> .bad
 | n+1,_=>λts=>zf (b_r (S_r n 0) (en0 3 ts))
abbrev f_r (n:Nat):List T->R T:=S_r n 0
def z3s (c_d:List T->R T)(c_r:List T->R T):En->RS:=
  zl (zz (Zb (za 1 c_r (z9 (vE 0) (zd)))) (zq 0) (Z9 (za 1 c_d (z9 (vE 0) (zd)))) (vE 0) 1 [])
def z1Y:List T->R T:=λts=>zf (z3s (f_d) (f_r 8) (en0 1 ts))
def b_1o:En->RS:=
  zl (ifE (Z9 (ap1 (ZQ "tuple") (vB 0))) (vE 0) (zG (z9 (vE 0) (zd))))
def z1Z:List T->R T:=λts=>zf (b_1o  (en0 1 ts))
def z3t:En->RS:=
  zl (ap1 xI (zz (xT (vE 0) (slE (vE 0) (zU (cE (.int 1))) (noO))) (Z8 0 1) (Z3) (ZE leC (vB 0) (vB 1)) 2 []))
def z3u:List T->R T:=λts=>zf (z3t  (en0 1 ts))
def z3v:En->RS:=
  zl (qb (ap1 z3k (zz (US (vE 0)) (Z8 0 1) (Z3) (ZE inC (vB 1) (slE (vE 2) (noO) (zU (vE 0)))) 2 [0])))
def z3w:List T->R T:=λts=>zf (z3v  (en0 1 ts))
def z20 (c_1o:List T->R T)(c_r:List T->R T)(c_1k:List T->R T)(c_1r:List T->R T)(c_1s:List T->R T):En->RS:=
  zh (ifS (zm eqC (zb ixT (vE 0) (cE (.int 0))) (cE (.str "sum"))) (zl (chE leC leC (zb ixT (vE 0) (cE (.int 1))) (ap1 kT (za 1 c_1k (z9 (vE 1) (zd)))) (zb ixT (vE 0) (cE (.int 2))))) (nxS))
  (zh (ifS (zm eqC (zb ixT (vE 0) (cE (.int 0))) (cE (.str "size"))) (zl (chE leC leC (zb ixT (vE 0) (cE (.int 1))) (ap1 zT (za 1 c_1o (z9 (vE 1) (zd)))) (zb ixT (vE 0) (cE (.int 2))))) (nxS))
  (zh (ifS (zm eqC (zb ixT (vE 0) (cE (.int 0))) (cE (.str "word"))) (zl (ZE inC (zb ixT (vE 0) (cE (.int 1))) (za 1 c_r (z9 (vE 1) (zd))))) (nxS))
  (zh (ifS (zm eqC (zb ixT (vE 0) (cE (.int 0))) (cE (.str "rising"))) (zl (za 1 c_1r (z9 (za 1 c_1k (z9 (vE 1) (zd))) (zd)))) (nxS))
  (zl (za 1 c_1s (z9 (za 1 c_1o (z9 (vE 1) (zd))) (zd)))))))
def z0w:List T->R T:=λts=>zf (z20 (z1Z) (f_r 8) (z1Y) (z3u) (z3w) (en0 2 ts))
def b_o (c_o:List T->R T)(c_1b:List T->R T):En->RS:=
  zh (ifS (zm eqC (zb ixT (vE 0) (cE (.int 0))) (cE (.str "no"))) (zl (qb (za 2 c_o (z9 (zb ixT (vE 0) (cE (.int 1))) (z9 (vE 1) (zd)))))) (nxS))
  (zh (ifS (zm eqC (zb ixT (vE 0) (cE (.int 0))) (cE (.str "all"))) (zl (ZJ (za 2 c_o (z9 (zb ixT (vE 0) (cE (.int 1))) (z9 (vE 1) (zd)))) (za 2 c_o (z9 (zb ixT (vE 0) (cE (.int 2))) (z9 (vE 1) (zd)))))) (nxS))
  (zh (ifS (zm eqC (zb ixT (vE 0) (cE (.int 0))) (cE (.str "some"))) (zl (orE (za 2 c_o (z9 (zb ixT (vE 0) (cE (.int 1))) (z9 (vE 1) (zd)))) (za 2 c_o (z9 (zb ixT (vE 0) (cE (.int 2))) (z9 (vE 1) (zd)))))) (nxS))
  (zl (za 2 c_1b (z9 (vE 0) (z9 (vE 1) (zd)))))))
def S_o:Nat->Nat->List T->R T
 | 0,_=>λ_=> .bad
 | n+1,_=>λts=>zf (b_o (S_o n 0) (z0w) (en0 2 ts))
abbrev f_o (n:Nat):List T->R T:=S_o n 0
def b_7 (c_14:List T->R T)(c_1f:List T->R T)(c_o:List T->R T):En->RS:=
  zh (wA (za 1 c_1f (z9 (vE 1) (zd))))
  (zl (zz (Zb (za 1 c_14 (z9 (vE 0) (zd)))) (zq 0) (Z9 (za 2 c_o (z9 (vE 1) (z9 (vE 0) (zd))))) (vE 0) 1 [1]))
def f_7:List T->R T:=λts=>zf (b_7 (gr) (z0t) (f_o 8) (en0 2 ts))
def b_a (c_x:List T->R T):En->RS:=
  zl (za 2 c_x (z9 (zb zn (zb mlT (zb ixT (vE 0) (cE (.int 0))) (zb ixT (vE 1) (cE (.int 1)))) (zb mlT (zb ixT (vE 1) (cE (.int 0))) (zb ixT (vE 0) (cE (.int 1))))) (z9 (zb mlT (zb ixT (vE 0) (cE (.int 1))) (zb ixT (vE 1) (cE (.int 1)))) (zd))))
def f_a:List T->R T:=λts=>zf (b_a (f_x) (en0 2 ts))
def b_n (c_a:List T->R T):En->RS:=
  zh (zp 1 (zG (z9 (cE (.int 0)) (z9 (cE (.int 1)) (zd)))))
  (zh (ZK (Zb (vE 0)) (zq 2) (zp 1 (za 2 c_a (z9 (vE 1) (z9 (vE 2) (zd))))))
  (zl (vE 1)))
def f_n:List T->R T:=λts=>zf (b_n (f_a) (en0 3 ts))
def z3x (c_n:List T->R T)(c_8:List T->R T):En->RS:=
  zl (za 1 c_n (z9 (zz (Zb (vE 1)) (zq 0) (Z3) (za 2 c_8 (z9 (vE 1) (z9 (vE 0) (zd)))) 1 [0]) (zd)))
def z3y:List T->R T:=λts=>zf (z3x (f_n) (f_8 20) (en0 2 ts))
def b_p (c_1q:List T->R T)(c_7:List T->R T):En->RS:=
  zl (za 2 c_1q (z9 (vE 0) (z9 (za 2 c_7 (z9 (vE 0) (z9 (vE 1) (zd)))) (zd))))
def f_p:List T->R T:=λts=>zf (b_p (z3y) (f_7) (en0 2 ts))
def b_l:En->RS:=
  zh (UI 1 (z9 (JQ 0 okX JZ) (z9 (JQ 0 okX J7) (z9 (JQ 0 okX J8) (z9 (JQ 0 okX J9) (zd))))))
  (zh (yT 1 (Ze (z9 (JQ 0 okX jD) (z9 (JQ 0 okX jE) (zd)))))
  (zh (ifS (orT (zm neC (z1B z3d (vB 1) (cE (.bl true))) (cE (.int 1))) (jz (Z9 (JQ 0 okX ZR)))) (zl (cE (.str "wrong"))) (nxS))
  (zl (zb ixT (Ze (z9 (cE (.str "ended")) (z9 (cE (.str "no kind")) (z9 (cE (.str "no rule")) (z9 (cE (.str "no text")) (z9 (cE (.str "no worth")) (z9 (cE (.str "too many")) (zd)))))))) (z1B z3e (vB 1) (cE (.bl true)))))))
def f_l:Nat->R T:=λc=>zf (b_l  (enC 2 c))
def b_q (c_l:Nat->R T)(c_7:List T->R T)(c_p:List T->R T):En->RS:=
  zh (zp 3 (cE .non))
  (zh (zp 4 (cE .non))
  (zh (kC 3 okX (zp 4 (ifE (zm eqC (vB 0) (cE (.int 0))) (za 2 c_7 (z9 (vE 1) (z9 (vE 2) (zd)))) (za 2 c_p (z9 (vE 1) (z9 (vE 2) (zd)))))))
  (zh (ifS (z3a 3) (zl (vE 4)) (nxS))
  (zl (kG 3 c_l)))))
def f_q:List T->R T:=λts=>zf (b_q (f_l) (f_7) (f_p) (en0 6 ts))
def b_t (c_t:List T->R T):En->RS:=
  zh (UI 1 (z9 (zG (zd)) (zd)))
  (zh (ifS (Z9 (ap1 (ZQ "tuple") (vB 0))) (ZK (zX (ap1 zT (vB 0))) (zq 2) (yT 1 (zz (Zb (za 1 c_t (z9 (zb ixT (vE 0) (vE 2)) (zd)))) (zq 0) (Z3) (zb zn (zG (z9 (vE 1) (zd))) (vE 0)) 1 [2]))) (nxS))
  (zl (vE 1)))
def S_t:Nat->Nat->List T->R T
 | 0,_=>λ_=> .bad
 | n+1,_=>λts=>zf (b_t (S_t n 0) (en0 3 ts))
abbrev f_t (n:Nat):List T->R T:=S_t n 0
def z21:En->RS:=
  zh (ZK (Zb (vE 1)) (zq 2) (zp 0 (zb ixT (vE 0) (vE 2))))
  (zl (vE 0))
def gu:List T->R T:=λts=>zf (z21  (en0 3 ts))
def b_9 (c_9:List T->R T):En->RS:=
  zh (ifS (zm eqC (vB 1) (zG (zd))) (zl (vE 2)) (nxS))
  (zh (zp 3 (zb ixT (vE 1) (cE (.int 0))))
  (zl (zb zn (zb zn (slE (vE 0) (noO) (zU (vE 3))) (zG (z9 (za 3 c_9 (z9 (zb ixT (vE 0) (vE 3)) (z9 (slE (vE 1) (zU (cE (.int 1))) (noO)) (z9 (vE 2) (zd))))) (zd)))) (slE (vE 0) (zU (zb zn (vE 3) (cE (.int 1)))) (noO)))))
def S_9:Nat->Nat->List T->R T
 | 0,_=>λ_=> .bad
 | n+1,_=>λts=>zf (b_9 (S_9 n 0) (en0 4 ts))
abbrev f_9 (n:Nat):List T->R T:=S_9 n 0
def z22 (c_2:List T->R T)(c_t:List T->R T)(c_19:List T->R T)(c_9:List T->R T):En->RS:=
  zh (zp 3 (za 1 c_t (z9 (vE 2) (zd))))
  (zh (zp 4 (zb ixT (vE 3) (za 3 c_2 (z9 (vE 0) (z9 (vE 1) (z9 (ap1 zT (vB 3)) (zd)))))))
  (zh (zp 5 (za 2 c_19 (z9 (vE 2) (z9 (vE 4) (zd)))))
  (zh (zp 6 (Ze (z9 (cE (.int 0)) (z9 (cE (.int 1)) (z9 (Ym (cE (.int 21))) (z9 (cE (.int 21)) (z9 (cE (.int 3)) (z9 (cE (.int 4)) (z9 (cE (.bl true)) (z9 (cE .non) (z9 (cE (.str "a")) (z9 (cE (.str "abcd")) (z9 (cE (.str "A")) (z9 (cE (.str "")) (z9 (cE (.str "many")) (z9 (cE (.str "row")) (z9 (zG (zd)) (z9 (zG (z9 (vE 5) (zd))) (z9 (Ze (z9 (vE 5) (zd))) (z9 (zG (z9 (cE (.str "whole")) (z9 (cE (.int 1)) (z9 (cE (.int 0)) (zd))))) (zd)))))))))))))))))))))
  (zh (zp 7 (za 3 c_2 (z9 (vE 0) (z9 (zb zn (vE 1) (cE (.int 1))) (z9 (zb zn (ap1 zT (vB 6)) (cE (.int 5))) (zd))))))
  (zh (ifS (zm ltC (vB 7) (ap1 zT (vB 6))) (zl (za 3 c_9 (z9 (vE 2) (z9 (vE 4) (z9 (zb ixT (vE 6) (vE 7)) (zd)))))) (nxS))
  (zh (ifS (wy (Z9 (ap1 (ZQ "tuple") (vB 5))) (zm neC (vB 5) (zG (zd)))) (zh (zp 8 (za 3 c_2 (z9 (vE 0) (z9 (zb zn (vE 1) (cE (.int 2))) (z9 (ap1 zT (vB 5)) (zd))))))
  (zl (za 3 c_9 (z9 (vE 2) (z9 (vE 4) (z9 (zb ixT (Ze (z9 (zb zn (slE (vE 5) (noO) (zU (vE 8))) (slE (vE 5) (zU (zb zn (vE 8) (cE (.int 1)))) (noO))) (z9 (zb zn (zb zn (slE (vE 5) (noO) (zU (vE 8))) (slE (vE 5) (zU (vE 8)) (zU (zb zn (vE 8) (cE (.int 1)))))) (slE (vE 5) (zU (vE 8)) (noO))) (zd)))) (zb j2 (vE 7) (cE (.int 2)))) (zd))))))) (nxS))
  (zh (ifS (Z9 (ap1 (ZQ "int") (vB 5))) (zl (za 3 c_9 (z9 (vE 2) (z9 (vE 4) (z9 (zb jg (zb zn (vE 5) (cE (.int 1))) (zb Z0 (cE (.int 2)) (zb j2 (vE 7) (cE (.int 2))))) (zd)))))) (nxS))
  (zl (za 3 c_9 (z9 (vE 2) (z9 (vE 4) (z9 (zG (z9 (cE (.str "row")) (z9 (zG (z9 (vE 5) (z9 (vE 5) (zd)))) (zd)))) (zd)))))))))))))
def gv:List T->R T:=λts=>zf (z22 (f_2) (f_t 40) (gu) (f_9 40) (en0 9 ts))
def b_11:En->RS:=
  zl (ZJ (ap1 (ZQ "int") (vB 0)) (ZJ (qb (ap1 (ZQ "bool") (vB 0))) (chE leC leC (vB 1) (vB 0) (vB 2))))
def vM:List T->R T:=λts=>zf (b_11  (en0 3 ts))
def z23:En->RS:=
  zl (ZJ (ap1 (ZQ "str") (vB 0)) (ZJ (chE leC leC (cE (.int 1)) (ap1 zT (vB 0)) (cE (.int 3))) (ZE eqC (zz (Zb (vE 0)) (zq 0) (jz (chT leC leC (cE (.str "a")) (vB 0) (cE (.str "z")))) (vE 0) 1 []) (Ze (zd)))))
def vN:List T->R T:=λts=>zf (z23  (en0 1 ts))
def b_g (c_11:List T->R T)(c_13:List T->R T)(c_g:List T->R T):En->RS:=
  zh (ifS (orT (jz (Z9 (ap1 (ZQ "tuple") (vB 0)))) (orT (zm ltC (ap1 zT (vB 0)) (cE (.int 2))) (orT (jz (Z9 (ap1 (ZQ "str") (zb ixT (vE 0) (cE (.int 0)))))) (zm ltC (vB 1) (cE (.int 1)))))) (zl (cE (.bl false))) (nxS))
  (zh (yV 2 3 (z9 (zb ixT (vE 0) (cE (.int 0))) (z9 (slE (vE 0) (zU (cE (.int 1))) (noO)) (zd))))
  (zh (ifS (zm eqC (vB 2) (cE (.str "whole"))) (zl (ZJ (ZE eqC (ap1 zT (vB 3)) (cE (.int 2))) (ZJ (za 3 c_11 (z9 (zb ixT (vE 3) (cE (.int 0))) (z9 (Ym (cE (.int 20))) (z9 (cE (.int 20)) (zd))))) (za 3 c_11 (z9 (zb ixT (vE 3) (cE (.int 1))) (z9 (zb ixT (vE 3) (cE (.int 0))) (z9 (cE (.int 20)) (zd)))))))) (nxS))
  (zh (ifS (zm eqC (vB 2) (cE (.str "pick"))) (zh (ifS (orT (zm neC (ap1 zT (vB 3)) (cE (.int 1))) (orT (jz (Z9 (ap1 (ZQ "tuple") (zb ixT (vE 3) (cE (.int 0)))))) (jz (chT leC leC (cE (.int 1)) (ap1 zT (zb ixT (vE 3) (cE (.int 0)))) (cE (.int 4)))))) (zl (cE (.bl false))) (nxS))
  (zh (zp 4 (zz (Zb (zb ixT (vE 3) (cE (.int 0)))) (zq 0) (wy (Z9 (ap1 (ZQ "tuple") (vB 0))) (zm eqC (ap1 zT (vB 0)) (cE (.int 2)))) (vE 0) 1 []))
  (zh (zp 5 (zz (Zb (vE 4)) (zq 0) (wy (Z9 (za 1 c_13 (z9 (zb ixT (vE 0) (cE (.int 0))) (zd)))) (Z9 (za 3 c_11 (z9 (zb ixT (vE 0) (cE (.int 1))) (z9 (cE (.int 1)) (z9 (cE (.int 20)) (zd))))))) (zb ixT (vE 0) (cE (.int 0))) 1 []))
  (zl (ZJ (ZE eqC (ap1 zT (vB 5)) (ap1 zT (zb ixT (vE 3) (cE (.int 0))))) (ZE eqC (zz (zX (ap1 zT (vB 5))) (zq 0) (zm inC (zb ixT (vE 1) (vE 0)) (slE (vE 1) (noO) (zU (vE 0)))) (vE 0) 1 [5]) (Ze (zd)))))))) (nxS))
  (zh (ifS (zm eqC (vB 2) (cE (.str "row"))) (zh (ifS (orT (zm neC (ap1 zT (vB 3)) (cE (.int 1))) (orT (jz (Z9 (ap1 (ZQ "tuple") (zb ixT (vE 3) (cE (.int 0)))))) (jz (chT leC leC (cE (.int 1)) (ap1 zT (zb ixT (vE 3) (cE (.int 0)))) (cE (.int 3)))))) (zl (cE (.bl false))) (nxS))
  (zl (ZE eqC (zz (Zb (zb ixT (vE 3) (cE (.int 0)))) (zq 0) (jz (Z9 (za 2 c_g (z9 (vE 0) (z9 (zb jg (vE 1) (cE (.int 1))) (zd)))))) (vE 0) 1 [1]) (Ze (zd))))) (nxS))
  (zh (ifS (orT (zm neC (vB 2) (cE (.str "many"))) (orT (zm neC (ap1 zT (vB 3)) (cE (.int 3))) (orT (jz (Z9 (za 3 c_11 (z9 (zb ixT (vE 3) (cE (.int 1))) (z9 (cE (.int 0)) (z9 (cE (.int 3)) (zd))))))) (jz (Z9 (za 3 c_11 (z9 (zb ixT (vE 3) (cE (.int 2))) (z9 (zb ixT (vE 3) (cE (.int 1))) (z9 (cE (.int 3)) (zd)))))))))) (zl (cE (.bl false))) (nxS))
  (zl (za 2 c_g (z9 (zb ixT (vE 3) (cE (.int 0))) (z9 (zb jg (vE 1) (cE (.int 1))) (zd))))))))))
def S_g:Nat->Nat->List T->R T
 | 0,_=>λ_=> .bad
 | n+1,_=>λts=>zf (b_g (vM) (vN) (S_g n 0) (en0 6 ts))
abbrev f_g (n:Nat):List T->R T:=S_g n 0
def b_0 (c_4:List T->R T)(c_1d:List T->R T)(c_g:List T->R T)(c_15:List T->R T)(c_q:List T->R T)(c_5:List T->R T)(c_s:List T->R T)(c_e:List T->R T)(c_7:List T->R T)(c_p:List T->R T)(c_12:List T->R T):En->RS:=
  zh (zp 1 (za 3 c_1d (z9 (vE 0) (z9 (cE (.int 0)) (z9 (cE (.int 24)) (zd))))))
  (zh (kZ (zG (z9 (za 3 c_s (z9 (vE 0) (z9 (cE (.int 4000)) (z9 (cE (.int 2)) (zd))))) (z9 (za 3 c_s (z9 (vE 0) (z9 (cE (.int 4500)) (z9 (cE (.int 2)) (zd))))) (zd)))) (Z8 2 3))
  (zh (ZK (Zb (zG (z9 (vE 2) (z9 (vE 3) (zd))))) (zq 4) (zh (zp 5 (zz (Zb (za 1 c_4 (z9 (vE 1) (zd)))) (zq 0) (Z9 (za 2 c_e (z9 (vE 1) (z9 (vE 0) (zd))))) (vE 0) 1 [4]))
  (zh (zp 6 (zG (z9 (cE (.int 0)) (z9 (cE (.int 1)) (zd)))))
  (zh (ZK (Zb (vE 5)) (zq 7) (zp 6 (za 2 c_12 (z9 (vE 6) (z9 (za 2 c_5 (z9 (vE 1) (z9 (vE 7) (zd)))) (zd))))))
  (zh (ifS (zm neC (zz (zX (cE (.int 2))) (zq 0) (Z3) (za 3 c_q (z9 (vE 0) (z9 (vE 1) (z9 (vE 2) (zd))))) 1 [1,4]) (Ze (z9 (vE 5) (z9 (vE 6) (zd))))) (zl (cE (.bl false))) (nxS))
  (zh (zp 8 (ap1 JY (zz (Zb (zb zn (vE 5) (za 2 c_7 (z9 (vE 1) (z9 (zG (z9 (cE (.str "no")) (z9 (vE 4) (zd)))) (zd)))))) (zq 0) (Z3) (ap1 Wj (vE 0)) 1 [])))
  (zh (ifS (zm neC (vB 8) (ap1 JY (zz (Zb (za 1 c_4 (z9 (vE 1) (zd)))) (zq 0) (Z3) (ap1 Wj (vE 0)) 1 []))) (zl (cE (.bl false))) (nxS))
  (ifS (zm neC (za 2 c_12 (z9 (vE 6) (z9 (za 2 c_p (z9 (vE 1) (z9 (zG (z9 (cE (.str "no")) (z9 (vE 4) (zd)))) (zd)))) (zd)))) (zG (z9 (cE (.int 1)) (z9 (cE (.int 1)) (zd))))) (zl (cE (.bl false))) (nxS)))))))))
  (zh (zp 9 (za 2 c_12 (z9 (za 2 c_p (z9 (vE 1) (z9 (vE 2) (zd)))) (z9 (za 2 c_p (z9 (vE 1) (z9 (vE 3) (zd)))) (zd)))))
  (zh (zp 10 (za 2 c_12 (z9 (za 2 c_p (z9 (vE 1) (z9 (zG (z9 (cE (.str "all")) (z9 (vE 2) (z9 (vE 3) (zd))))) (zd)))) (z9 (za 2 c_p (z9 (vE 1) (z9 (zG (z9 (cE (.str "some")) (z9 (vE 2) (z9 (vE 3) (zd))))) (zd)))) (zd)))))
  (zh (ifS (zm neC (vB 9) (vB 10)) (zl (cE (.bl false))) (nxS))
  (zh (ifS (zm neC (za 2 c_7 (z9 (vE 1) (z9 (zG (z9 (cE (.str "all")) (z9 (vE 2) (z9 (vE 3) (zd))))) (zd)))) (za 2 c_7 (z9 (vE 1) (z9 (zG (z9 (cE (.str "all")) (z9 (vE 3) (z9 (vE 2) (zd))))) (zd))))) (zl (cE (.bl false))) (nxS))
  (zh (zp 11 (zG (z9 (cE (.str "row")) (z9 (zG (z9 (zG (z9 (cE (.str "whole")) (z9 (cE (.int 0)) (z9 (cE (.int 19)) (zd))))) (z9 (zG (z9 (cE (.str "whole")) (z9 (cE (.int 1)) (z9 (cE (.int 6)) (zd))))) (z9 (zG (z9 (cE (.str "whole")) (z9 (cE (.int 0)) (z9 (cE (.int 4)) (zd))))) (zd))))) (zd)))))
  (zh (kZ (zG (z9 (za 3 c_15 (z9 (vE 0) (z9 (cE (.int 6000)) (z9 (vE 1) (zd))))) (z9 (zG (z9 (cE (.str "sum")) (z9 (cE (.int 1)) (zd)))) (zd)))) (Z8 12 13))
  (zh (zp 5 (Ze (z9 (cE (.str "too many")) (z9 (cE (.str "no rule")) (z9 (cE (.str "no rule")) (zd))))))
  (zh (ifS (zm neC (Ze (z9 (za 3 c_q (z9 (cE (.int 0)) (z9 (vE 11) (z9 (vE 2) (zd))))) (z9 (za 3 c_q (z9 (cE (.int 0)) (z9 (vE 11) (z9 (vE 13) (zd))))) (z9 (za 3 c_q (z9 (cE (.int 1)) (z9 (zG (z9 (cE (.str "whole")) (zd))) (z9 (vE 13) (zd))))) (zd))))) (vB 5)) (zl (cE (.bl false))) (nxS))
  (zl (orE (za 2 c_g (z9 (vE 12) (z9 (cE (.int 3)) (zd)))) (ZE eqC (zz (zX (cE (.int 2))) (zq 0) (Z3) (za 3 c_q (z9 (vE 0) (z9 (vE 2) (z9 (vE 1) (zd))))) 1 [2,12]) (zb Z0 (Ze (z9 (cE (.str "no kind")) (zd))) (cE (.int 2))))))))))))))))
def f_0:List T->R T:=λts=>zf (b_0 (f_4 8) (z0n) (f_g 12) (gv) (f_q) (f_5) (f_s 8) (f_e 8) (f_7) (f_p) (X2) (en0 14 ts))
end G
namespace G
open PySem L2 PV
noncomputable abbrev scr (ns:List Int):T:= .fz (ns.map T.int)
theorem Kb (ns:List Int)(k:Int)(h0:0<=k):∃c,z0l [scr ns,.int k]= .ok (.int c):=by
 have e1:z0l [scr ns,.int k]=zf (if decide (k < ((ns.map T.int).length))=true then (atT (ns.map T.int) k).s (λt=> .rt t) else
   match (eqC (scr ns) (.lst [])).s (λb=>if b=true then RS.rt (.int 0) else .nx [.vl (scr ns),.vl (.int k)]) with
   | .nx ρ' =>zl (zb zn (zb Z0 (zb ixT (vE 0) (zb j2 (vE 1) (ap1 zT (vB 0)))) (cE (.int 31))) (vE 1)) ρ'
   | r=>r):=by
  show zf (match (if decide _=true then (atT _ k).s (λt=>RS.rt t) else .nx _) with
   | .nx ρ' =>_
   | r=>r)=_
  cases decide (k < ((ns.map _).length:Int)) with
  | true=>
   unfold atT;cases atI _ k <;> rfl
  | false=>rfl
 rw[e1,aa]
 by_cases hk:k < (ns.length)
 ·obtain⟨v,hv⟩:∃v,ns[k.toNat]? =some v:=⟨ns[k.toNat]'(by omega),ah (by omega)⟩
  have ea:atI (ns.map T.int) k=some (.int v):=by
   have:k=((k.toNat):Int):=by omega
   rw[this];exact Zw (by rw[aA,hv];rfl)
  rw[decide_eq_true hk];exact⟨v,by unfold atT;rw[ea];rfl⟩
 ·rw[decide_eq_false hk];cases ns with
  | nil=>exact⟨0,rfl⟩
  | cons x xs=>
   have hm0:=lf k (show (((x :: xs).length):Int) ≠ 0 by simp only[ai];omega)
   have hm1:=ib k (show (0) < (((x :: xs).length):Int) by simp only[ai];omega)
   obtain⟨v,hv⟩:∃v,(x :: xs)[(k % (((x :: xs).length):Int)).toNat]? =some v:=⟨_,ah (by omega)⟩
   have ea:atI ((x :: xs).map T.int) (k % (((x :: xs).length):Int))=some (.int v):=by
    have e:k % (((x :: xs).length):Int)=(((k % (((x :: xs).length):Int)).toNat:Nat):Int):=by omega
    rw[e];exact Zw (by rw[aA,hv];rfl)
   have cm:uM v 31:= .inr ⟨by decide,by decide⟩
   have hp:(0:Int) < (((x :: xs).map T.int).length):=by simp only[aa,ai];omega
   refine⟨v*31+k, ?_⟩;show zf (((((if 0 < (((x :: xs).map _).length:Int) then R.ok _ else .bad).bind λy=>ixT _ y).bind λa=>Z0 a _).bind λa=>zn a _).s λt=> .rt t)=_
   rw[if_pos hp];show zf ((((atT _ _).bind λa=>Z0 a _).bind λa=>zn a _).s λt=> .rt t)=_;rw[aa];unfold atT;rw[ea];show zf ((((if uM v 31 then R.ok _ else .bad)).bind λa=>zn a _).s λt=> .rt t)=_
   rw[if_pos cm];rfl
theorem zK (ns:List Int)(k m:Int)(h0:0<=k)(hm:0 < m):∃p,f_2 [scr ns,.int k,.int m]= .ok (.int p)/\0<=p/\p < m:=by
 obtain⟨c,hc⟩:=Kb ns k h0;have cm2:uM (c+6151*(k+1)) 40692:= .inr ⟨by decide,by decide⟩
 generalize hd:(c+6151*(k+1))*40692 % 2147483399=d;have cm3:uM d d:= .inl ⟨by omega,by omega⟩
 refine⟨(d*d+d / 31) % 2147483629 % m, ?_,lf _ (by omega),ib _ hm⟩
 have e1:f_2 [scr ns,.int k,.int m]=zf (match ((((((z0l _).bind λx=>(Z0 (.int 6151) (.int _)).bind λy=>zn x y).bind λx=>Z0 x _).bind λx=>j2 x _)).s λt=>RS.nx _) with
   | .nx ρ' =>zl _ ρ'
   | r=>r):=rfl
 rw[e1,hc];show zf (match ((((if uM _ _ then R.ok _ else .bad)).bind λx=>j2 x _).s λt=>RS.nx _) with
   | .nx ρ' =>_
   | r=>r)=_
 rw[if_pos cm2];show zf (zl _ _)=_;rw[hd];show zf (((((if uM d d then R.ok _ else .bad).bind λx=>zn x _).bind λx=>j2 x _).bind λx=>j2 x _).s λt=>RS.rt t)=_
 rw[if_pos cm3];show zf ((if 0 < m then R.ok _ else .bad).s λt=>RS.rt t)=_
 rw[if_pos hm];rfl
theorem Q8:∀(ts:List T) (ρ:En) (x:Sl),zJ (zq 0) ft fe ts (ρ.set 0 x)=zJ (zq 0) ft fe ts ρ
 | [],_,_=>rfl
 | t :: ts,ρ,x=>by
  unfold zJ zq;rw[List.set_set]
theorem zR {p:T->Bool}{h:T->T}:∀(ts:List T) (ρ:En),(∀t∈ts,ft (ρ.set 0 (.vl t))= .ok (p t)/\(p t=true->fe (ρ.set 0 (.vl t))= .ok (h t)))->zJ (zq 0) ft fe ts ρ= .ok ((ts.filter p).map h)
 | [],_,_=>rfl
 | t :: ts,ρ,H=>by
  obtain⟨h1,h2⟩:=H t a9;have ih:=zR ts ρ λu hu=>H u (a8 _ hu);have e:zJ (zq 0) ft fe (t :: ts) ρ=(ft _).bind λk=>if k=true then (fe _).bind λv=>(zJ _ ft fe ts _).bind λvs=> .ok _ else zJ _ ft fe ts _:=rfl
  rw[e,h1,Q8,ih];show (if p t=true then _ else _)=_
  cases hp:p t with
  | true=>rw[h2 hp,dw hp];rfl
  | false=>rw[if_neg ay,dy (by rw[hp];exact ay)]
theorem Q9 {h:T->T}(ts:List T)(ρ:En)(H:∀t∈ts,fe (ρ.set 0 (.vl t))= .ok (h t)):zJ (zq 0) Z3 fe ts ρ= .ok (ts.map h):=by
 have:=zR (ft:=Z3) ts ρ λt ht=>⟨rfl,λ_=>H t ht⟩;rw[this,g7.mpr (λ_ _=>rfl)]
theorem zL {h:T->T}{js:List Nat}(ts:List T)(hl:ts.length<=bnd)(H:∀t∈ts,fe ((JO k js ρ).set 0 (.vl t))= .ok (h t)):zo (zq 0) Z3 fe k js ρ ts= .ok (ts.map h):=by
 unfold zo;rw[if_pos hl,Q9 ts _ H];rfl
theorem Jy (p:T->Bool):∀ts:List T,u7 (ts.map λt=>T.bl (p t))=some (ts.all p)
 | []=>rfl
 | t :: ts=>by
  show (match u7 (ts.map λt=>T.bl _) with | some j=>some _ | none=>none)=_
  rw[Jy p ts];rfl
noncomputable def isW:T->Bool
 | .int _=>true
 | _=>false
theorem Wk (t:T):f_d [t]= .ok (.bl (isW t)):=by cases t <;> rfl
noncomputable def VI (a b:Nat):T->Bool
 | .tup xs=>decide (a<=xs.length) && decide (xs.length<=b)
 | _=>false
theorem ZF (t:T)(a b:Nat):f_h [t,.int a,.int b]= .ok (.bl (VI a b t)):=by
 cases t with
 | tup xs=>
  show zf ((if decide _=true then R.ok _ else .ok _).s λt=> .rt t)=_
  have e1:decide ((a:Int)<=(xs.length))=decide (a<=xs.length):=by simp
  have e2:decide ((xs.length:Int)<=(b))=decide (xs.length<=b):=by simp
  rw[e1,e2];show _=R.ok (T.bl (decide _ && decide _));cases decide (a<=xs.length) <;> rfl
 | _=>rfl
noncomputable def ji (lo hi:Int):T->T->Bool
 | .int i,.int j=>decide (lo<=i) && decide (i<=j) && decide (j<=hi)
 | _,_=>false
theorem Qa (t u:T)(lo hi:Int):z1J [t,u,.int lo,.int hi]= .ok (.bl (ji lo hi t u)):=by
 cases t with
 | int i=>
  cases u with
  | int j=>
   show zf ((if decide _=true then (if decide _=true then R.ok _ else .ok _) else .ok _).s λt=> .rt t)=_
   show _=R.ok (T.bl (decide _ && decide _ && decide _));cases decide (lo<=i) <;> cases decide (i<=j) <;> rfl
  | _=>rfl
 | _=>cases u <;> rfl
noncomputable def Zc (c:Nat):Bool:=decide (97<=c) && decide (c<=122)
def zM:T->Bool
 | .str x=>decide (1<=x.length) && decide (x.length<=3) && x.cps.toList.all Zc
 | _=>false
theorem y3 (a b:Nat):decide ([a] < [b])=decide (a < b):=by
 by_cases h:a < b
 ·rw[decide_eq_true h];exact decide_eq_true (List.Lex.rel h)
 ·rw[decide_eq_false h];refine decide_eq_false λz=> ?_;cases z with
  | rel h' =>exact h h'
  | cons h' =>cases h'
theorem Kc (c:Nat)(ρ:En):chE leC leC (cE (.str "a")) (vB 0) (cE (.str "z")) ((Sl.vl (.str ⟨#[c]⟩)) :: ρ)= .ok (.bl (Zc c)):=by
 have e1:leC (.str "a") (.str ⟨#[c]⟩)= .ok (decide (97<=c)):=by
  show R.ok (!decide ([c] < [97]))=_;rw[y3]
  by_cases h:c < 97
  ·rw[decide_eq_true h,decide_eq_false (by omega)];rfl
  ·rw[decide_eq_false h,decide_eq_true (by omega)];rfl
 have e2:leC (.str ⟨#[c]⟩) (.str "z")= .ok (decide (c<=122)):=by
  show R.ok (!decide ([122] < [c]))=_;rw[y3]
  by_cases h:122 < c
  ·rw[decide_eq_true h,decide_eq_false (by omega)];rfl
  ·rw[decide_eq_false h,decide_eq_true (by omega)];rfl
 show (leC (.str "a") (.str _)).bind (λk=>if k=true then (leC (.str _) (.str "z")).bind λk' =>R.ok (T.bl k') else R.ok _)=_
 rw[e1,e2];unfold Zc;cases decide (97<=c) <;> rfl
def VJ:T->Prop
 | .str x=>x.length<=bnd
 | _=>True
theorem Qb (t:T)(ht:VJ t):f_6 [t]= .ok (.bl (zM t)):=by
 cases t with
 | str x=>
  have hx:=ht;have e0:zT (.str x)= .ok _:=if_pos hx;have ec:zo (zq 0) Z3 (chE leC leC (cE (.str "a")) (vB 0) (cE (.str "z"))) 1 [] [.vl (.str x)] (j7 x)= .ok (x.cps.toList.map λc=>T.bl (Zc c)):=by
   have hs:(j7 x).length<=bnd:=by unfold j7;rw[aa];exact hx
   have:=zL (h:=λt=>match t with | .str y=>T.bl (Zc (y.cps.toList.headD 0)) | t=>t) (k:=1) (js:=[]) (ρ:=[.vl (.str x)]) _ hs λt ht=>by
    obtain⟨c,_,rfl⟩:=az.mp ht;exact Kc c []
   rw[this];unfold j7;rw[aM];rfl
  have ea:u7 (x.cps.toList.map λc=>T.bl (Zc c))=some (x.cps.toList.all Zc):=by
   have:=Jy (λt=>match t with | .str y=>Zc (y.cps.toList.headD 0) | _=>true) (j7 x)
   unfold j7 at this;rw[aM,ir]at this;exact this
  have e1:f_6 [.str x]=zf (match ((((zT (.str x)).bind λy=>(leC _ y).bind λk=>if k=true then leC y _ else .ok _).bind λb=> .ok _).s λk=>if k=true then RS.rt _ else .nx _) with
    | .nx ρ' =>zl _ ρ'
    | r=>r):=rfl
  rw[e1,e0];have c1:decide ((1:Int)<=(x.length))=decide (1<=x.length):=by
   by_cases h:1<=x.length
   ·rw[decide_eq_true h];exact decide_eq_true (by omega)
   ·rw[decide_eq_false h];exact decide_eq_false (by omega)
  have c2:decide ((x.length:Int)<=(3))=decide (x.length<=3):=by
   by_cases h:x.length<=3
   ·rw[decide_eq_true h];exact decide_eq_true (by omega)
   ·rw[decide_eq_false h];exact decide_eq_false (by omega)
  show zf (match ((((if decide _=true then R.ok _ else .ok _)).bind λb=> .ok _).s λk=>if k=true then RS.rt _ else .nx _) with
    | .nx ρ' =>_
    | r=>r)=_
  rw[c1,c2];show _=R.ok (T.bl (decide _ && decide _ && x.cps.toList.all _));cases decide (1<=x.length) with
  | false=>rfl
  | true=>
   cases decide (x.length<=3) with
   | false=>rfl
   | true=>
    show zf ((((zo _ _ _ 1 [] [.vl _] _).bind λvs=> .ok _).bind xI).s λt=> .rt t)=_;rw[ec];show zf ((match u7 (x.cps.toList.map λc=>T.bl _) with | some k=>R.ok _ | none=> .bad).s λt=> .rt t)=_
    rw[ea];rfl
 | _=>rfl
theorem bOk {α β:Type}(a:α)(f:α->R β):(R.ok a).bind f=f a:=rfl
theorem Za {α:Type}(a:α)(f:α->RS):(R.ok a).s f=f a:=rfl
theorem ZA (r:R T):zf (r.s λt=> .rt t)=r:=by cases r <;> rfl
theorem zN (f:En->R T)(ρ:En):zl f ρ=(f (frz ρ)).s λt=> .rt t:=rfl
theorem zH:za 1 g (z9 f zd) ρ=(f ρ).bind λx=>g [x]:=by
 unfold za z9 zd;cases f ρ <;> rfl
theorem zu:za 2 g (z9 f (z9 f' zd)) ρ=(f ρ).bind λx=>(f' ρ).bind λy=>g [x,y]:=by
 unfold za z9 zd;cases f ρ with
 | ok a=>cases f' ρ <;> rfl
 | ex c=>rfl
 | bad=>rfl
theorem zV:za 3 g (z9 f (z9 f' (z9 f'' zd))) ρ=(f ρ).bind λx=>(f' ρ).bind λy=>(f'' ρ).bind λz=>g [x,y,z]:=by
 unfold za z9 zd;cases f ρ with
 | ok a=>
  cases f' ρ with
  | ok b=>cases f'' ρ <;> rfl
  | ex c=>rfl
  | bad=>rfl
 | ex c=>rfl
 | bad=>rfl
theorem z3z:za 4 g (z9 f (z9 f' (z9 f'' (z9 f3 zd)))) ρ=(f ρ).bind λx=>(f' ρ).bind λy=>(f'' ρ).bind λz=>(f3 ρ).bind λw=>g [x,y,z,w]:=by
 unfold za z9 zd;cases f ρ with
 | ok a=>
  cases f' ρ with
  | ok b=>
   cases f'' ρ with
   | ok c=>cases f3 ρ <;> rfl
   | ex c=>rfl
   | bad=>rfl
  | ex c=>rfl
  | bad=>rfl
 | ex c=>rfl
 | bad=>rfl
def z0x (r k:R T):R T:=r.bind λx=>match x with
 | .bl true=>k
 | .bl false=> .ok (.bl false)
 | _=> .bad
theorem j5 (f g:En->R T)(ρ:En):ZJ f g ρ=z0x (f ρ) (g ρ):=rfl
theorem Zl (a:Bool)(k:R T):z0x (.ok (.bl a)) k=if a=true then k else .ok (.bl false):=by cases a <;> rfl
theorem v0:vE 0 (.vl t :: ρ)= .ok t:=rfl
theorem v1:vE 1 (a :: .vl t :: ρ)= .ok t:=rfl
theorem w0:vB 0 (.vl t :: ρ)= .ok t:=rfl
theorem w1:vB 1 (a :: .vl t :: ρ)= .ok t:=rfl
theorem zI:cE t ρ= .ok t:=rfl
theorem ze:zb g f f' ρ=(f ρ).bind λx=>(f' ρ).bind λy=>g x y:=rfl
theorem Zs:frz (.vl t :: ρ)= .vl t :: frz ρ:=rfl
theorem Js:frz (.un :: ρ)= .un :: frz ρ:=rfl
theorem ZU:frz []=[]:=rfl
theorem Y2:chE g g' fa fb fc ρ=(fa ρ).bind λx=>(fb ρ).bind λy=>(g x y).bind λk=>if k=true then (fc ρ).bind λz=>(g' y z).bind λk' => .ok (.bl k') else .ok (.bl false):=rfl
theorem zY {g:T->R T}:ap1 g f ρ=(f ρ).bind g:=rfl
theorem Ja:leC (.int i) (.int j)= .ok (decide (i<=j)):=rfl
theorem Z7:ZE g f f' ρ=(f ρ).bind λx=>(f' ρ).bind λy=>(g x y).bind λb=> .ok (.bl b):=rfl
theorem ZH:zT (.tup xs)= .ok (.int xs.length):=rfl
theorem VL:zT (.lst xs)= .ok (.int xs.length):=rfl
mutual
noncomputable def sOk:T->Prop
 | .str x=>x.length<=bnd
 | .tup xs=>jB xs
 | .lst xs=>jB xs
 | .fz xs=>jB xs
 | _=>True
noncomputable def jB:List T->Prop
 | []=>True
 | t :: ts=>sOk t/\jB ts
end
theorem ZC:∀{ts:List T} {t:T},jB ts->t∈ts->sOk t
 | u :: ts,t,h,hm=>by
  have h' :=by simpa only[jB] using h
  rcases ak.mp hm with rfl | hm
  ·exact h'.1
  ·exact ZC h'.2 hm
theorem sOk.str (h:sOk t):VJ t:=by
 cases t with
 | str x=>
  have h' :=by simpa only[sOk] using h
  exact h'
 | _=>trivial
theorem ZI {xs:List T}(h:sOk (.tup xs)):jB xs:=by simpa only[sOk] using h
def zr:T->Bool
 | .tup [w,.int i]=>zM w && decide (1<=i) && decide (i<=20)
 | _=>false
theorem Qc (t:T)(ht:sOk t):z0o [t]= .ok (.bl (zr t)):=by
 have e:z0o [t]=zf (z1K _ _ _ [.vl t]):=rfl;rw[e,z1K];simp only[zN,ZA,Zs,ZU,j5,zV,zH,v0,zI,bOk,ze,Y2];rw[show f_h [t,.int 2,.int 2]= .ok _ from ZF t 2 2,Zl];cases t with
 | tup xs=>
  match xs,ht with
  | [],_=>rfl
  | [_],_=>rfl
  | _ :: _ :: _ :: _,_=>simp[VI,zr]
  | [w,n],ht=>
   have hw:sOk w:=ZC (ZI ht) (by simp)
   show (if true=true then z0x (f_6 [w]) (z0x (f_d [n]) ((leC _ n).bind λk=>if k=true then (leC n _).bind λk' =>R.ok _ else .ok _)) else _)=_
   rw[Qb w hw.str,Wk,Zl,Zl];cases n with
   | int i=>
    show (if zM w=true then (if true=true then (if decide _=true then R.ok _ else .ok _) else _) else _)=R.ok (T.bl (zM w && decide _ && decide _))
    cases zM w <;> cases decide (1<=i) <;> rfl
   | _=>
    cases zM w <;> rfl
 | _=>rfl
theorem zx (f g:En->RS)(ρ:En):zh f g ρ=match f ρ with | .nx ρ' =>g ρ' | r=>r:=rfl
theorem Zm (g:En->R Bool)(f1 f2:En->RS)(ρ:En):ifS g f1 f2 ρ=(g ρ).s λk=>if k=true then f1 ρ else f2 ρ:=rfl
theorem U7 (f g:En->R Bool)(ρ:En):orT f g ρ=(f ρ).bind λx=>if x=true then .ok true else g ρ:=rfl
theorem Jk (f:En->R Bool)(ρ:En):jz f ρ=(f ρ).bind λx=> .ok (!x):=rfl
theorem ZV (f:En->R T)(ρ:En):Z9 f ρ=(f ρ).bind tru:=rfl
theorem Zo (k:Bool):tru (.bl k)= .ok k:=rfl
theorem Zt (i:Nat)(f:En->R T)(ρ:En):zp i f ρ=(f ρ).s λt=> .nx (ρ.set i (.vl t)):=rfl
theorem zA:zm g f f' ρ=(f ρ).bind λx=>(f' ρ).bind λy=>g x y:=rfl
theorem zB {g:T->En->R En}{js:List Nat}:zz fi g ft fe k js ρ=(fi ρ).bind λts=>(zo g ft fe k js ρ ts).bind λvs=> .ok (.lst vs):=rfl
theorem Zg:Zb f ρ=(f ρ).bind jP:=rfl
noncomputable def Zh:T->Str
 | .tup (.str w :: _)=>w
 | _=>⟨#[]⟩
def um:T->Bool
 | .tup cs=>decide (1<=cs.length) && decide (cs.length<=4) && cs.all zr && decide ((dd [] (cs.map Zh)).length=cs.length)
 | _=>false
theorem Jl (h:zr c=true):∃w n,c= .tup [.str w,n]:=by
 unfold zr at h;split at h
 ·rename_i w i;cases w with
  | str x=>exact⟨x,_,rfl⟩
  | _=>cases h
 ·cases h
theorem wR:∀{cs:List T},cs.all zr=true->wN (cs.map λc=>T.str (Zh c))=some (cs.map Zh)
 | [],_=>rfl
 | c :: cs,h=>by
  rw[bR,ac]at h;have ih:=wR h.2;show (match wN (cs.map λc=>T.str _) with | some ys=>some _ | none=>none)=_
  rw[ih];rfl
theorem Y3 (t:T)(ht:sOk t):z0p [t]= .ok (.bl (um t)):=by
 have e:z0p [t]=zf (z1L _ _ [.vl t,.un]):=rfl;rw[e,z1L];simp only[zx,Zm,U7,Jk,ZV,zV,v0,zI,bOk];rw[show f_h [t,.int 1,.int 4]= .ok _ from ZF t 1 4];cases t with
 | tup cs=>
  have hl:VI 1 4 (.tup cs)=(decide _ && decide _):=rfl;rw[hl];show _=R.ok (T.bl (decide _ && decide _ && cs.all _ && decide _));cases h14:(decide (1<=cs.length) && decide (cs.length<=4)) with
  | false=>rfl
  | true=>
   rw[ac,decide_eq_true_eq,decide_eq_true_eq]at h14;have hb:cs.length<=bnd:=ao h14.2 (by decide)
   have ec:zo _ _ (za 1 z0o (z9 (vE 0) zd)) 1 [] [.vl (.tup cs),.un] cs= .ok (cs.map λc=>T.bl _):=
    zL cs hb λc hc=>by
     exact Qc c (ZC (ZI ht) hc)
   simp only[bg,aw,if_false,zY,zB,Zg,v0,bOk,jP,ec];have ea:xI (.lst (cs.map λc=>T.bl (zr c)))= .ok (.bl (cs.all zr)):=by
    show (match u7 (cs.map λc=>T.bl _) with | some k=>R.ok _ | none=> .bad)=_
    rw[Jy]
   rw[ea];simp only[bOk,Zo,Za];cases hall:cs.all _ with
   | false=>rfl
   | true=>
    have ew:zo _ _ (zb ixT (vE 0) (cE (.int 0))) 1 [] [.vl (.tup cs),.un] cs= .ok (cs.map λc=>T.str (Zh c)):=
     zL cs hb λc hc=>by
      obtain⟨w,n,rfl⟩:=Jl (aJ.mp hall c hc);rfl
    simp only[bg,aw,if_false,nxS,Zt,zB,Zg,v0,bOk,jP,ew,Za,zN];show zf (((Vk (.lst (cs.map λc=>T.str _))).bind λx=>(zT (.lst (cs.map λc=>T.str _))).bind λy=>(eqC x y).bind λb=>R.ok _).s λt=> .rt t)=_;have el:Vk (.lst (cs.map λc=>T.str (Zh c)))= .ok (.int (dd [] (cs.map Zh)).length):=by
     show (match wN (cs.map λc=>T.str _) with | some ys=>if (cs.map λc=>T.str _).length+1 < 4096 then R.ok _ else .bad | none=> .bad)=_
     rw[wR hall];exact if_pos (by rw[aa];omega)
    rw[el,VL,aa];show R.ok _=_;congr 2
    by_cases hq:(dd [] (cs.map Zh)).length=cs.length
    ·rw[hq];simp
    ·rw[decide_eq_false hq];simp only[cI,beq_eq_false_iff_ne];omega
 | _=>rfl
noncomputable def isS (w:Str):T->Bool
 | .str s=>s == w
 | _=>false
theorem eqS (h:T)(w:Str):eqC h (.str w)= .ok (isS w h):=by cases h <;> rfl
theorem eqI (i j:Int):eqC (.int i) (.int j)= .ok (i == j):=rfl
theorem at0:ixT (.tup (h :: r)) (.int 0)= .ok h:=by
 show atT _ 0=_;unfold atT;rw[show atI _ 0=some h from Zw rfl]
theorem at1:ixT (.tup (h :: a :: r)) (.int 1)= .ok a:=by
 show atT _ 1=_;unfold atT;rw[show atI _ 1=some a from Zw rfl]
theorem at2:ixT (.tup (h :: a :: b :: r)) (.int 2)= .ok b:=by
 show atT _ 2=_;unfold atT;rw[show atI _ 2=some b from Zw rfl]
theorem at3:ixT (.tup (h :: a :: b :: c :: r)) (.int 3)= .ok c:=by
 show atT _ 3=_;unfold atT;rw[show atI _ 3=some c from Zw rfl]
noncomputable def w4 (k:T->Bool):T->Bool
 | .tup ks=>decide (1<=ks.length) && decide (ks.length<=3) && ks.all k
 | _=>false
def Jm:List T->Bool
 | [a,b]=>ji (-20) 20 a b
 | _=>false
def uo:List T->Bool
 | [c]=>um c
 | _=>false
def X5 (k:T->Bool):List T->Bool
 | [c]=>w4 k c
 | _=>false
def uq (k:T->Bool):List T->Bool
 | [c,a,b]=>ji 0 3 a b && k c
 | _=>false
def Wl (k:T->Bool):T->Bool
 | .tup (h :: r)=>if isS "whole" h=true then Jm r else if isS "pick" h=true then uo r else if isS "row" h=true then X5 k r else if isS "many" h=true then uq k r else false
 | _=>false
def isK:Nat->T->Bool
 | 0,_=>false
 | d+1,t=>Wl (isK d) t
theorem w8 {α:Type}(xs:List α)(n:Nat):((xs.length:Int) == (n:Int))=decide (xs.length=n):=by
 by_cases h:xs.length=n
 ·rw[h];simp
 ·rw[decide_eq_false h,beq_eq_false_iff_ne];omega
theorem Qd:Ym f ρ=(f ρ).bind λx=>match x with | .int i=> .ok (.int (-i)) | _=> .bad:=rfl
theorem Zi:jg (.int i) (.int j)= .ok (.int (i - j)):=rfl
set_option maxHeartbeats 1000000 in
theorem Ke {n:Nat}{d:Nat}{k:T->Bool}(H0:∀t,sOk t->S_b n 0 [t,.int d]= .ok (.bl (k t)))(H1:∀t,sOk t->S_b n 1 [t,.int d]= .ok (.bl (w4 k t)))(t:T)(ht:sOk t):
  S_b (n+1) 0 [t,.int ((d+1:Nat):Int)]= .ok (.bl (Wl k t)):=by
 have e:S_b (n+1) 0 [t,.int ((d+1:Nat))]=zf (b_b z1J _ z0p _ [.vl t,.vl (.int _)]):=rfl;have hL:(((d+1:Nat):Int) == 0)=false:=by rw[beq_eq_false_iff_ne];omega
 have hL1:((d+1:Nat)) - 1=(d:Int):=by omega
 rw[e,b_b];simp only[zx,Zm,U7,Jk,ZV,zA,w0,w1,zI,bOk,eqI,hL,aw,if_false,zY];cases t with
 | tup xs=>
  cases xs with
  | nil=>rfl
  | cons h r=>
   have hs:=ZI ht;have hm:∀u∈r,sOk u:=λu hu=>ZC hs (a8 _ hu);have z0:(((h :: r).length:Int) == 0)=false:=by rw[beq_eq_false_iff_ne];simp only[ai];omega
   have ti:ZQ "tuple" (.tup (h :: r))= .ok (.bl true):=rfl;simp only[ti,bOk,Zo,bg,aw,if_false,ZH,eqI,z0,Za,nxS,ze,v0,v1,zI,at0,eqS,zN,Zs,ZU,j5,Z7,zY,w0,z3z,zH,zu,Qd,Zi,hL1];show _=R.ok (T.bl (if isS "whole" h=true then Jm r else if isS "pick" h=true then uo r else if isS "row" h=true then X5 k r else if isS "many" h=true then uq k r else false))
   have l3:(((h :: r).length:Int) == 3)=decide _:=w8 (h :: r) 3;have l2:(((h :: r).length:Int) == 2)=decide _:=w8 (h :: r) 2;have l4:(((h :: r).length:Int) == 4)=decide _:=w8 _ 4;simp only[l2,l3,l4,Zl];cases isS _ h with
   | true=>
    match r,hm with
    | [],_=>rfl
    | [_],_=>rfl
    | _ :: _ :: _ :: _,_=>simp[Jm,Za,zf]
    | [a,b],_=>
     simp only[at1,at2,bOk,Qa];rfl
   | false=>
    simp only[aw,if_false,v0,v1,w0,bOk,at0,Za,Zs,ZU,ZH,eqI,l2,l4,Zl,Zi,hL1];cases isS _ h with
    | true=>
     match r,hm with
     | [],_=>rfl
     | _ :: _ :: _,_=>simp[uo,Za,zf]
     | [c],hm=>
      simp only[at1,bOk,Y3 c (hm c (by simp))]
      rfl
    | false=>
     simp only[aw,if_false,v0,v1,w0,bOk,at0,Za,Zs,ZU,ZH,eqI,l2,l4,Zl,Zi,hL1];cases isS _ h with
     | true=>
      match r,hm with
      | [],_=>rfl
      | _ :: _ :: _,_=>simp[X5,Za,zf]
      | [c],hm=>
       simp only[at1,bOk,H1 c (hm c (by simp))]
       rfl
     | false=>
      simp only[aw,if_false,v0,v1,w0,bOk,at0,Za,Zs,ZU,ZH,eqI,l2,l4,Zl,Zi,hL1];cases isS _ h with
      | true=>
       match r,hm with
       | [],_=>rfl
       | [_],_=>rfl
       | [_,_],_=>rfl
       | _ :: _ :: _ :: _ :: _,_=>simp[uq,Za,zf]
       | [c,a,b],hm=>
        simp only[at1,at2,at3,bOk,Qa,H0 c (hm c (by simp)),Zl]
        show zf (match (if ji 0 3 a b=true then R.ok _ else .ok _).s (λt=>RS.rt t) with | .nx _=>RS.rt _ | r=>r)=R.ok (T.bl (ji 0 3 a b && k c))
        cases ji 0 3 a b <;> rfl
      | false=>rfl
 | _=>rfl
theorem z0y {k:T->Bool}(H0:∀t,sOk t->S_b n 0 [t,.int d]= .ok (.bl (k t)))(t:T)(ht:sOk t):S_b (n+1) 1 [t,.int d]= .ok (.bl (w4 k t)):=by
 have e:S_b (n+1) 1 [t,.int d]=zf (z1M f_h (S_b n 0) [.vl t,.vl (.int d)]):=rfl;rw[e,z1M];simp only[zN,ZA,Zs,ZU,j5,zV,v0,zI,bOk];rw[show f_h [t,.int 1,.int 3]= .ok (.bl (VI 1 3 t)) from ZF t 1 3,Zl];cases t with
 | tup ks=>
  show (if (decide (1<=ks.length) && decide (ks.length<=3))=true then _ else _)=R.ok (T.bl (decide (1<=ks.length) && decide (ks.length<=3) && ks.all k))
  cases h13:(decide (1<=ks.length) && decide (ks.length<=3)) with
  | false=>rfl
  | true=>
   rw[ac,decide_eq_true_eq,decide_eq_true_eq]at h13;have hb:ks.length<=bnd:=ao h13.2 (by decide)
   have ec:zo (zq 0) Z3 (za 2 (S_b n 0) (z9 (vE 0) (z9 (vE 1) zd))) 1 [1] [.vl (.tup ks),.vl (.int d)] ks= .ok (ks.map λc=>T.bl (k c)):=
    zL (h:=λc=>T.bl (k c)) ks hb λc hc=>by
     show za 2 (S_b n 0) (z9 (vE 0) (z9 (vE 1) zd)) [.vl c,.vl (.int d)]=_;rw[zu,v0,v1,bOk,bOk];exact H0 c (ZC (ZI ht) hc)
   simp only[if_true,zY,zB,Zg,v0,bOk,jP,ec];show (match u7 (ks.map λc=>T.bl (k c)) with | some k=>R.ok (T.bl k) | none=> .bad)=_
   rw[Jy];rfl
 | _=>rfl
theorem U8:∀(d n:Nat),2*d+1<=n->∀t,sOk t->S_b n 0 [t,.int d]= .ok (.bl (isK d t))
 | 0,n+1,_,t,_=>rfl
 | d+1,n+2,h,t,ht=>Ke (n:=n+1) (λu hu=>U8 d (n+1) (by omega) u hu) (λu hu=>z0y (λv hv=>U8 d n (by omega) v hv) u hu) t ht
theorem Y4 (t:T)(ht:sOk t):f_1 [t]= .ok (.bl (isK 3 t)):=by
 have e:f_1 [t]=zf (b_1 (f_b 20) [.vl t]):=rfl;rw[e,b_1];simp only[zN,ZA,Zs,ZU,zu,v0,zI,bOk];exact U8 3 20 (by omega) t ht
noncomputable def inR (lo hi:Int):T->Bool
 | .int i=>decide (lo<=i) && decide (i<=hi)
 | _=>false
theorem ZO (t:T)(lo hi:Int):vM [t,.int lo,.int hi]= .ok (.bl (inR lo hi t)):=by
 cases t with
 | int i=>
  show zf ((if decide _=true then R.ok _ else .ok _).s λt=> .rt t)=R.ok (T.bl (decide _ && decide _))
  cases decide (lo<=i) <;> rfl
 | _=>rfl
theorem y6 (xs:List T):eqC (.lst xs) (.lst [])= .ok xs.isEmpty:=by cases xs <;> rfl
theorem VM (c:Nat)(ρ:En):jz (chT leC leC (cE (.str "a")) (vB 0) (cE (.str "z"))) ((Sl.vl (.str ⟨#[c]⟩)) :: ρ)= .ok (!Zc c):=by
 have e1:leC (.str "a") (.str ⟨#[c]⟩)= .ok (decide (97<=c)):=by
  show R.ok (!decide ([c] < [97]))=_;rw[y3]
  by_cases h:c < 97
  ·rw[decide_eq_true h,decide_eq_false (by omega)];rfl
  ·rw[decide_eq_false h,decide_eq_true (by omega)];rfl
 have e2:leC (.str ⟨#[c]⟩) (.str "z")= .ok (decide (c<=122)):=by
  show R.ok (!decide ([122] < [c]))=_;rw[y3]
  by_cases h:122 < c
  ·rw[decide_eq_true h,decide_eq_false (by omega)];rfl
  ·rw[decide_eq_false h,decide_eq_true (by omega)];rfl
 show ((leC (.str "a") (.str _)).bind (λk=>if k=true then leC (.str _) (.str "z") else R.ok _)).bind (λx=>R.ok _)=_
 rw[e1,e2];unfold Zc;cases decide (97<=c) <;> rfl
theorem jj {α:Type}(p:α->Bool):∀xs:List α,(xs.filter λx=> !p x).isEmpty=xs.all p
 | []=>rfl
 | x :: xs=>by
  have ih:=jj p xs;rw[bR];cases hp:p x with
  | true=>rw[dy (by simp[hp]),ih];rfl
  | false=>rw[dw (by simp[hp])];rfl
def Kf:T->Bool
 | .str y=> !Zc (y.cps.toList.headD 0)
 | _=>false
theorem U9 (t:T)(ht:VJ t):vN [t]= .ok (.bl (zM t)):=by
 cases t with
 | str x=>
  have hx:=ht;have e0:zT (.str x)= .ok _:=if_pos hx;have hs:(j7 x).length<=bnd:=by unfold j7;rw[aa];exact hx
  have ec:zo (zq 0) (jz (chT leC leC (cE (.str "a")) (vB 0) (cE (.str "z")))) (vE 0) 1 [] [.vl (.str x)] (j7 x)= .ok (((j7 x).filter Kf).map id):=by
   unfold zo;rw[if_pos hs];have:=zR (fe:=vE 0) (p:=Kf) (h:=id) (j7 x) (JO 1 [] [.vl (.str x)]) λt ht=>by
    obtain⟨c,_,rfl⟩:=az.mp ht;exact⟨VM c [],λ_=>rfl⟩
   rw[this];rfl
  have em:(((j7 x).filter Kf).map id).isEmpty=x.cps.toList.all Zc:=by
   rw[eO];unfold j7;rw[List.filter_map,List.isEmpty_map];exact jj _ _
  have e:vN [.str x]=zf (z23 [.vl _]):=rfl;rw[e,z23];simp only[zN,ZA,Zs,ZU,j5,zY,w0,v0,bOk,Y2,zI,e0,Ja,Z7,zB,Zg,jP,ec];have c1:decide ((1:Int)<=(x.length))=decide (1<=x.length):=by
   by_cases h:1<=x.length
   ·rw[decide_eq_true h];exact decide_eq_true (by omega)
   ·rw[decide_eq_false h];exact decide_eq_false (by omega)
  have c2:decide ((x.length:Int)<=(3))=decide (x.length<=3):=by
   by_cases h:x.length<=3
   ·rw[decide_eq_true h];exact decide_eq_true (by omega)
   ·rw[decide_eq_false h];exact decide_eq_false (by omega)
  rw[c1,c2];have el:Ze zd [Sl.vl (T.str x)]= .ok _:=rfl;rw[el];simp only[bOk,y6,em];show z0x _ _=R.ok (T.bl (decide _ && decide _ && x.cps.toList.all _));cases decide (1<=x.length) <;> cases decide (x.length<=3) <;> rfl
 | _=>rfl
theorem ur:∀(ws acc:List Str),(dd acc ws).length<=acc.length+ws.length
 | [],acc=>am _
 | w :: ws,acc=>by
  unfold dd;have:=ur ws (if w∈acc then acc else acc++[w])
  by_cases h:w∈acc
  ·rw[if_pos h]at this ⊢;simp only[ai];omega
  ·rw[if_neg h]at this ⊢;rw[ax,aB]at this;simp only[ai];omega
theorem wa:∀(ws acc:List Str),((dd acc ws).length=acc.length+ws.length)↔∀(k:Nat) (w:Str),ws[k]? =some w->w ∉ acc++ws.take k
 | [],acc=>by simp[dd]
 | w :: ws,acc=>by
  unfold dd
  by_cases h:w∈acc
  ·rw[if_pos h];have:=ur ws acc;constructor
   ·intro e;simp only[ai]at e;omega
   ·intro H;exact absurd (d6 _ h) (H 0 w rfl)
  ·rw[if_neg h];have ih:=wa ws (acc++[w]);rw[ax,aB]at ih;rw[show acc.length+(w :: ws).length=acc.length+1+ws.length by simp only[ai];omega,ih]
   constructor
   ·intro H k v e;cases k with
    | zero=>simp at e;subst e;simpa using h
    | succ k=>
     have:=H k v (by simpa using e)
     simpa[aU] using this
   ·intro H k v e;have:=H (k+1) v (by simpa using e)
    simpa[aU] using this
theorem cut1 {h:T}{r:List T}:slT (.tup (h :: r)) (some 1) none= .ok (.tup r):=by
 show R.ok (T.tup (cut (h :: r) (some 1) none))=_;have:cut (h :: r) (some 1) none=r:=by
  unfold cut;rw[show HT.sIx (h :: r).length 0 (some (1:Int))=1 from by rw[show (1:Int)=((1:Nat):Int) from rfl,HT.sIx_nat];simp only[ai];omega,HT.sIx_none]
  simp
 rw[this]
theorem neS (h:T)(w:Str):neC h (.str w)= .ok (!isS w h):=by cases h <;> rfl
theorem neI (i j:Int):neC (.int i) (.int j)= .ok (!(i == j)):=rfl
theorem ltI (i j:Int):ltC (.int i) (.int j)= .ok (decide (i < j)):=rfl
theorem v2 {t:T}{a b:Sl}{ρ:En}:vE 2 (a :: b :: .vl t :: ρ)= .ok t:=rfl
theorem v3 {t:T}{a b c:Sl}{ρ:En}:vE 3 (a :: b :: c :: .vl t :: ρ)= .ok t:=rfl
theorem w2 {t:T}{a b:Sl}{ρ:En}:vB 2 (a :: b :: .vl t :: ρ)= .ok t:=rfl
theorem w3 {t:T}{a b c:Sl}{ρ:En}:vB 3 (a :: b :: c :: .vl t :: ρ)= .ok t:=rfl
theorem w5 {t:T}{a b c d e:Sl}{ρ:En}:vB 5 (a :: b :: c :: d :: e :: .vl t :: ρ)= .ok t:=rfl
theorem v4 {t:T}{a b c d:Sl}{ρ:En}:vE 4 (a :: b :: c :: d :: .vl t :: ρ)= .ok t:=rfl
theorem Ua (f g:En->R Bool)(ρ:En):wy f g ρ=(f ρ).bind λx=>if x=true then g ρ else .ok false:=rfl
theorem X6 {g g' :T->T->R Bool}{fa fb fc:En->R T}{ρ:En}:chT g g' fa fb fc ρ=(fa ρ).bind λx=>(fb ρ).bind λy=>(g x y).bind λk=>if k=true then (fc ρ).bind λz=>g' y z else .ok false:=rfl
theorem Jb (t:T):ZQ "tuple" t= .ok (.bl (match t with | .tup _=>true | _=>false)):=by cases t <;> rfl
theorem Kg {n d:Nat}{k:T->Bool}(H0:∀t,sOk t->S_g n 0 [t,.int d]= .ok (.bl (k t))){ks:List T}(hk:∀u∈ks,sOk u)(hl:ks.length<=3){x y z:Sl}{L:Int}(hL:L - 1=(d:Int)){ρ:En}:
  zo (zq 0) (jz (Z9 (za 2 (S_g n 0) (z9 (vE 0) (z9 (zb jg (vE 1) (cE (.int 1))) zd))))) (vE 0) 1 [1] (x :: .vl (.int L) :: ρ) ks= .ok (ks.filter λc=> !k c):=by
 unfold zo;rw[if_pos (ao hl (by decide))]
 have:=zR (ft:=jz (Z9 (za 2 (S_g n 0) (z9 (vE 0) (z9 (zb jg (vE 1) (cE (.int 1))) zd))))) (fe:=vE 0) (p:=λc=> !k c) (h:=id) ks (JO 1 [1] (x :: .vl (.int L) :: ρ)) λc hc=>by
  refine⟨?_,λ_=>rfl⟩;show jz (Z9 (za 2 (S_g n 0) (z9 (vE 0) (z9 (zb jg (vE 1) (cE (.int 1))) zd)))) [.vl c,.vl (.int L)]=_;simp only[Jk,ZV,zu,v0,v1,bOk,ze,zI,Zi,hL,H0 c (hk c hc),Zo]
 rw[this,eO];rfl
noncomputable def uP:T->Bool
 | .tup [_,_]=>true
 | _=>false
noncomputable def Y5:T->T
 | .tup (w :: _)=>w
 | t=>t
theorem z3A {cs:List T}(hl:cs.length<=4){ρ:En}:zo (zq 0) (wy (Z9 (ap1 (ZQ "tuple") (vB 0))) (zm eqC (ap1 zT (vB 0)) (cE (.int 2)))) (vE 0) 1 [] ρ cs= .ok (cs.filter uP):=by
 unfold zo;rw[if_pos (ao hl (by decide))]
 have:=zR (ft:=wy (Z9 (ap1 (ZQ "tuple") (vB 0))) (zm eqC (ap1 zT (vB 0)) (cE (.int 2)))) (fe:=vE 0) (p:=uP) (h:=id) cs (JO 1 [] ρ) λc _=>by
  refine⟨?_,λ_=>rfl⟩;show wy (Z9 (ap1 (ZQ "tuple") (vB 0))) (zm eqC (ap1 zT (vB 0)) (cE (.int 2))) [.vl c]=_;cases c with
  | tup xs=>
   match xs with
   | []=>rfl
   | [_]=>rfl
   | [_,_]=>rfl
   | _ :: _ :: _ :: xs=>
    simp only[Ua,ZV,zY,w0,bOk,Jb,Zo,if_true,zA,ZH,zI,eqI,uP];congr 1
    all_goals (rw[beq_eq_false_iff_ne];simp only[ai];omega)
  | _=>rfl
 rw[this,eO];rfl
theorem wS (c:T):zr c=(uP c && (match c with | .tup [w,n]=>zM w && inR 1 20 n | _=>false)):=by
 cases c with
 | tup xs=>
  match xs with
  | []=>rfl
  | [_]=>rfl
  | _ :: _ :: _ :: _=>simp[zr,uP]
  | [w,n]=>
   cases n with
   | int i=>
    show (zM w && decide (1<=i) && decide (i<=20))=(true && (zM w && (decide (1<=i) && decide (i<=20))));rw[cI,Bool.and_assoc]
   | _=>
    show false=(true && (zM w && false));cases zM w <;> rfl
 | _=>rfl
theorem z3B {cs:List T}(hs:∀c∈cs,sOk c)(hl:cs.length<=4){ρ:En}:
  zo (zq 0) (wy (Z9 (za 1 vN (z9 (zb ixT (vE 0) (cE (.int 0))) zd))) (Z9 (za 3 vM (z9 (zb ixT (vE 0) (cE (.int 1))) (z9 (cE (.int 1)) (z9 (cE (.int 20)) zd)))))) (zb ixT (vE 0) (cE (.int 0))) 1 [] ρ (cs.filter uP)= .ok ((cs.filter zr).map Y5):=by
 unfold zo;have hl' :(cs.filter uP).length<=bnd:=ao (d4 _ _) (ao hl (by decide))
 rw[if_pos hl'];have:=zR (ft:=wy (Z9 (za 1 vN (z9 (zb ixT (vE 0) (cE (.int 0))) zd))) (Z9 (za 3 vM (z9 (zb ixT (vE 0) (cE (.int 1))) (z9 (cE (.int 1)) (z9 (cE (.int 20)) zd)))))) (fe:=zb ixT (vE 0) (cE (.int 0))) (p:=zr) (h:=Y5) (cs.filter uP) (JO 1 [] ρ) λc hc=>by
  obtain⟨hc1,hc2⟩:=cU.mp hc;have hso:=hs c hc1;unfold uP at hc2;split at hc2
  ·rename_i w n;have hw:sOk w:=ZC (ZI hso) (by simp)
   refine⟨?_,λ_=> ?_⟩
   ·show wy (Z9 (za 1 vN (z9 (zb ixT (vE 0) (cE (.int 0))) zd))) (Z9 (za 3 vM (z9 (zb ixT (vE 0) (cE (.int 1))) (z9 (cE (.int 1)) (z9 (cE (.int 20)) zd))))) [.vl (.tup [w,n])]=_;simp only[Ua,ZV,zH,zV,ze,v0,zI,bOk,at0,at1,U9 w hw.str,ZO,Zo,wS];show (if zM w=true then R.ok (inR 1 20 n) else R.ok false)=R.ok (true && (zM w && inR 1 20 n))
    cases zM w <;> rfl
   ·show zb ixT (vE 0) (cE (.int 0)) [.vl (.tup [w,n])]=_;simp only[ze,v0,zI,bOk,at0];rfl
  ·cases hc2
 rw[this,List.filter_filter];have:(cs.filter λa=>zr a && uP a)=cs.filter zr:=by
  refine List.filter_congr λc _=> ?_;rw[wS];cases uP c <;> simp
 rw[this];rfl
theorem Wm (w:Str):∀ws:List Str,JL (λy=>eqF 30 y (.str w)) (ws.map T.str)=some (decide (w∈ws))
 | []=>rfl
 | x :: ws=>by
  have ih:=Wm w ws;show (match JL (λy=>eqF 30 y (.str w)) (ws.map T.str) with | none=>none | some c=>some ((x == w) || c))=_
  rw[ih];show some ((x == w) || decide (w∈ws))=_
  congr 1
  by_cases h:x=w
  ·subst h;simp
  ·have h' :¬ w=x:=λz=>h z.symm;simp[h,h']
theorem VN {xs:List T}{k:Nat}:slT (.lst xs) none (some (k:Int))= .ok (.lst (xs.take k)):=by
 show R.ok (T.lst (cut xs none (some (k:Int))))=_;have:cut xs none (some (k:Int))=xs.take k:=by
  unfold cut;rw[HT.sIx_none,HT.sIx_nat];simp only[d7,iA];rw[fP];omega
 rw[this]
theorem z0z {xs:List T}{k:Nat}{t:T}(h:xs[k]? =some t):ixT (.lst xs) (.int k)= .ok t:=by
 show atT xs k=_;unfold atT;rw[Zw h]
theorem z3C {ws:List Str}(hl:ws.length<=4){a b c d e:Sl}:∃r,zo (zq 0) (zm inC (zb ixT (vE 1) (vE 0)) (slE (vE 1) noO (zU (vE 0)))) (vE 0) 1 [5] [a,b,c,d,e,.vl (.lst (ws.map T.str))] (rng 0 ws.length)= .ok r/\
  (r.isEmpty=true↔∀(k:Nat) (w:Str),ws[k]? =some w->w ∉ ws.take k):=by
 have hl' :(rng 0 ws.length).length<=bnd:=by unfold rng;rw[aa,bo];exact ao hl (by decide)
 let p:T->Bool:=λt=>match t with
  | .int i=>match ws[i.toNat]? with | some w=>decide (w∈ws.take i.toNat) | none=>false
  | _=>false
 have key:=zR (ft:=zm inC (zb ixT (vE 1) (vE 0)) (slE (vE 1) noO (zU (vE 0)))) (fe:=vE 0) (p:=p) (h:=id) (rng 0 ws.length) (JO 1 [5] [a,b,c,d,e,.vl (.lst (ws.map T.str))]) λt ht=>by
  unfold rng at ht;obtain⟨k,hk,rfl⟩:=az.mp ht;have hk' :k < ws.length:=aZ.mp hk;refine⟨?_,λ_=>rfl⟩;show zm inC (zb ixT (vE 1) (vE 0)) (slE (vE 1) noO (zU (vE 0))) [.vl (.int (0+(k:Int))),.vl (.lst (ws.map T.str))]=_;rw[show (0:Int)+(k:Int)=(k:Int) by omega]
  have e1:ixT (.lst (ws.map T.str)) (.int k)= .ok (.str ws[k]):=z0z (by rw[aA,ah hk'];rfl)
  have e2:slE (vE 1) noO (zU (vE 0)) [.vl (.int (k:Int)),.vl (.lst (ws.map T.str))]=slT (.lst (ws.map T.str)) none (some (k:Int)):=rfl;simp only[zA,ze,v1,v0,bOk,e1,e2,VN];show inC (.str ws[k]) (.lst ((ws.map T.str).take k))=R.ok (p (.int (k:Int)));have e3:inC (.str ws[k]) (.lst ((ws.map T.str).take k))= .ok (decide (ws[k]∈ws.take k)):=by
   show (match JL (λy=>eqF 30 y (.str ws[k])) ((ws.map T.str).take k) with | some b=>R.ok b | none=> .bad)=_
   rw[← List.map_take,Wm]
  rw[e3];show _=R.ok (match ws[((k:Int)).toNat]? with | some w=>decide (w∈ws.take ((k:Int)).toNat) | none=>false)
  rw[aY,ah hk']
 refine⟨((rng 0 ws.length).filter p).map id, ?_, ?_⟩
 ·unfold zo;rw[if_pos hl',key];rfl
 ·rw[eO,iS,fD];constructor
  ·intro H k w e;have hk:k < ws.length:=(au.mp e).1;have:=H (.int (0+(k:Int))) (az.mpr ⟨k,aZ.mpr hk,rfl⟩);rw[show (0:Int)+(k:Int)=(k:Int) by omega]at this
   have q:p (.int (k:Int))=decide (w∈ws.take k):=by
    show (match ws[((k:Int)).toNat]? with | some w=>decide (w∈ws.take ((k:Int)).toNat) | none=>false)=_
    rw[aY,e]
   rw[q]at this;simpa using this
  ·intro H t ht;unfold rng at ht;obtain⟨k,hk,rfl⟩:=az.mp ht;have hk' :k < ws.length:=aZ.mp hk;rw[show (0:Int)+(k:Int)=(k:Int) by omega]
   have q:p (.int (k:Int))=decide (ws[k]∈ws.take k):=by
    show (match ws[((k:Int)).toNat]? with | some w=>decide (w∈ws.take ((k:Int)).toNat) | none=>false)=_
    rw[aY,ah hk']
   rw[q];simpa using H k ws[k] (ah hk')
theorem z3D {cs:List T}(h:cs.all zr=true):(cs.filter zr).map Y5=(cs.map Zh).map T.str:=by
 rw[g7.mpr (λc hc=>aJ.mp h c hc),aM];refine ce λc hc=> ?_;obtain⟨w,n,rfl⟩:=Jl (aJ.mp h c hc);rfl
theorem jF {α:Type}(p:α->Bool):∀xs:List α,((xs.filter p).length=xs.length)↔xs.all p=true
 | []=>by simp
 | x :: xs=>by
  have ih:=jF p xs;have hl:=d4 p xs;cases hp:p x with
  | true=>rw[dw hp,bR,hp,cI,← ih];simp
  | false=>
   rw[dy (by rw[hp];exact ay),bR,hp,Bool.false_and]
   simp only[ai];constructor
   ·intro z;omega
   ·intro z;cases z
theorem ut (lo hi:Int)(a b:T):(if inR lo hi a=true then vM [b,a,.int hi] else R.ok (.bl false))= .ok (.bl (ji lo hi a b)):=by
 cases a with
 | int i=>
  rw[ZO];show (if (decide _ && decide _)=true then R.ok _ else R.ok _)=_
  cases b with
  | int j=>
   show (if (decide _ && decide _)=true then R.ok _ else R.ok _)=R.ok (T.bl (decide _ && decide _ && decide _))
   by_cases h1:lo<=i
   ·by_cases h2:i<=hi
    ·rw[decide_eq_true h1,decide_eq_true h2];rfl
    ·rw[decide_eq_true h1,decide_eq_false h2]
     by_cases h3:i<=j
     ·rw[decide_eq_true h3,decide_eq_false (by omega)];rfl
     ·rw[decide_eq_false h3];rfl
   ·rw[decide_eq_false h1];rfl
  | _=>
   cases (decide (lo<=i) && decide (i<=hi)) <;> rfl
 | _=>cases b <;> rfl
theorem Kh {xs:List T}(h:xs.length<=4){a b c d e:Sl}:zX (ap1 zT (vB 5)) [a,b,c,d,e,.vl (.lst xs)]= .ok (rng 0 xs.length):=by
 have e1:zX (ap1 zT (vB 5)) [a,b,c,d,e,.vl (.lst xs)]=(R.ok (T.int (xs.length))).bind λt=>match t with | .int j=>if -1000000 < j/\j < 1000000 then .ok _ else .bad | _=> .bad:=rfl
 rw[e1,bOk];dsimp only;rw[if_pos ⟨by omega,by omega⟩,aY]
theorem Wn {c:T}(hc:sOk c){a b d e f:Sl}:
  zf (match (((ZQ "tuple" c).bind tru).bind λx=>R.ok (!x)).bind (λx=>if x=true then R.ok true else ((zT c).bind λy=>(leC (.int 1) y).bind λk=>if k=true then leC y (.int 4) else R.ok false).bind λx=>R.ok (!x)) with
   | .ok k=>if k=true then RS.rt (T.bl false) else (zl (ZJ (ZE eqC (ap1 zT (vB 5)) (ap1 zT (zb ixT (vE 3) (cE (.int 0))))) (ZE eqC (zz (zX (ap1 zT (vB 5))) (zq 0) (zm inC (zb ixT (vE 1) (vE 0)) (slE (vE 1) (noO) (zU (vE 0)))) (vE 0) 1 [5]) (Ze (zd)))) [a,b,d,.vl (.tup [c]),f,.vl (.lst (match c with | .tup cs=>(cs.filter zr).map Y5 | _=>[]))])
   | .ex c=> .ex c
   | .bad=> .bad)= .ok (.bl (um c)):=by
 cases c with
 | tup cs=>
  have e1:(leC (.int 1) (.int (cs.length:Int))).bind (λk=>if k=true then leC (.int (cs.length:Int)) (.int 4) else R.ok false)= .ok (decide (1<=cs.length) && decide (cs.length<=4)):=by
   show (if decide _=true then R.ok (decide _) else R.ok false)=_
   by_cases h:1<=cs.length
   ·rw[decide_eq_true h,decide_eq_true (by omega)]
    show R.ok (decide _)=R.ok (decide (cs.length<=4))
    by_cases h4:cs.length<=4
    ·rw[decide_eq_true h4,decide_eq_true (by omega)]
    ·rw[decide_eq_false h4,decide_eq_false (by omega)]
   ·rw[decide_eq_false h,decide_eq_false (by omega)];rfl
  simp only[Jb,bOk,Zo,bg,aw,if_false,ZH,e1];show _=R.ok (T.bl (decide (1<=cs.length) && decide (cs.length<=4) && cs.all zr && decide _));cases h14:(decide (1<=cs.length) && decide (cs.length<=4)) with
  | false=>rfl
  | true=>
   rw[ac,decide_eq_true_eq,decide_eq_true_eq]at h14;simp only[bg,aw,if_false,zN,ZA,Zs,j5,Z7,zY];have ef:frz [a,b,d,.vl (.tup [.tup cs]),f,.vl (.lst ((cs.filter zr).map Y5))]=[wK a,wK b,wK d,.vl _,wK f,.vl _]:=rfl;rw[ef];simp only[w5,ze,v3,zI,bOk,at0,VL,ZH,eqI,aa,zB];rw[w8]
   by_cases hall:cs.all zr=true
   ·rw[decide_eq_true ((jF _ cs).mpr hall),hall];have hw:(cs.map Zh).length<=4:=by rw[aa];exact h14.2
    obtain⟨r,er,hr⟩:=z3C hw (a:=wK a) (b:=wK b) (c:=wK d) (d:= .vl (.tup [.tup cs])) (e:=wK f);rw[z3D hall];have ei:zX (ap1 zT (vB 5)) [wK a,wK b,wK d,.vl (.tup [.tup cs]),wK f,.vl (.lst ((cs.map Zh).map T.str))]= .ok (rng 0 (cs.map Zh).length):=by
     rw[Kh (by rw[aa];exact hw),aa]
    rw[ei];simp only[bOk,er];have el:Ze zd [wK a,wK b,wK d,.vl (.tup [.tup cs]),wK f,.vl (.lst ((cs.map Zh).map T.str))]= .ok _:=rfl;rw[el];rw[bOk,y6];refine congrArg (λz=>R.ok _) ?_;have hdd:=wa (cs.map Zh) [];rw[bi,fE,aa]at hdd
    by_cases hq:(dd [] (cs.map Zh)).length=cs.length
    ·rw[decide_eq_true hq];exact hr.mpr (hdd.mp hq)
    ·rw[decide_eq_false hq];cases hre:r.isEmpty with
     | false=>rfl
     | true=>exact absurd (hdd.mpr (hr.mp hre)) hq
   ·have hn:=λz=>hall ((jF _ cs).mp z);rw[decide_eq_false hn];have:cs.all zr=false:=by simpa using hall
    rw[this];rfl
 | _=>rfl
theorem z0A {i j:Nat}{f f' :En->R T}{ρ:En}:yV i j (z9 f (z9 f' zd)) ρ=(f ρ).s λx=>(f' ρ).s λy=> .nx ((ρ.set i (.vl x)).set j (.vl y)):=by
 unfold yV z9 zd;cases f ρ with
 | ok a=>cases f' ρ <;> rfl
 | ex c=>rfl
 | bad=>rfl
theorem uu {f:En->R T}{l h:En->R (Option Int)}{ρ:En}:slE f l h ρ=(f ρ).bind λt=>(l ρ).bind λlo=>(h ρ).bind λhi=>slT t lo hi:=rfl
theorem z0B {i:Int}{ρ:En}:zU (cE (.int i)) ρ= .ok (some i):=rfl
theorem Ki {ρ:En}:noO ρ= .ok none:=rfl
theorem Qe (t:T):ZQ "str" t= .ok (.bl (match t with | .str _=>true | _=>false)):=by cases t <;> rfl
theorem btw {n m:Nat}{M:Int}(hM:M=(m:Int)):(if decide ((1:Int)<=(n:Int))=true then R.ok (decide ((n:Int)<=M)) else R.ok false)=R.ok (decide (1<=n) && decide (n<=m)):=by
 subst hM
 by_cases h:1<=n
 ·rw[decide_eq_true h,decide_eq_true (show (1:Int)<=(n:Int) by omega),if_pos rfl,cI]
  by_cases h4:n<=m
  ·rw[decide_eq_true h4,decide_eq_true (show (n:Int)<=m by omega)]
  ·rw[decide_eq_false h4,decide_eq_false (show ¬ (n:Int)<=m by omega)]
 ·rw[decide_eq_false h,decide_eq_false (show ¬ (1:Int)<=(n:Int) by omega)];rfl
set_option maxHeartbeats 1000000 in
theorem VO {n:Nat}{d:Nat}{k:T->Bool}(H0:∀t,sOk t->S_g n 0 [t,.int d]= .ok (.bl (k t)))(t:T)(ht:sOk t):
  S_g (n+1) 0 [t,.int ((d+1:Nat):Int)]= .ok (.bl (Wl k t)):=by
 have e:S_g (n+1) 0 [t,.int ((d+1:Nat):Int)]=zf (b_g vM vN (S_g n 0) [.vl t,.vl (.int ((d+1:Nat):Int)),.un,.un,.un,.un]):=rfl;have hL:decide (((d+1:Nat):Int) < 1)=false:=decide_eq_false (by omega)
 have hL1:((d+1:Nat):Int) - 1=(d:Int):=by omega
 rw[e,b_g];simp only[zx,Zm,U7,Jk,ZV,zA,w0,w1,v0,zI,bOk,zY,Jb,Zo,ze];cases t with
 | tup xs=>
  match xs,ht with
  | [],_=>rfl
  | [h],_=>
   have:Wl k (.tup [h])=false:=by
    unfold Wl;simp[Jm,uo,X5,uq]
   rw[this];rfl
  | h :: a :: r,ht=>
   have hs:=ZI ht;have hm:∀u∈a :: r,sOk u:=λu hu=>ZC hs (a8 _ hu);have z0:decide (((h :: a :: r).length:Int) < 2)=false:=decide_eq_false (by simp only[ai];omega)
   simp only[bg,aw,if_false,ZH,ltI,z0,bOk,at0,Qe,Zo,hL];cases h with
   | str s=>
    simp only[bg,aw,if_false,Za,bOk,hL,z0A,ze,v0,zI,at0,uu,z0B,Ki,cut1,nxS];have hset:(([Sl.vl (T.tup (T.str s :: a :: r)),Sl.vl (.int ((d+1:Nat):Int)),.un,.un,.un,.un]:En).set 2 (.vl (.str s))).set 3 (.vl (.tup (a :: r)))=[Sl.vl (T.tup (T.str s :: a :: r)),Sl.vl (.int ((d+1:Nat):Int)),.vl (.str s),.vl (.tup (a :: r)),.un,.un]:=rfl;simp only[hset,w2,zI,bOk,eqS,neS,Za];have l2:(((a :: r).length:Int) == 2)=decide ((a :: r).length=2):=w8 (a :: r) 2;have l1:(((a :: r).length:Int) == 1)=decide ((a :: r).length=1):=w8 (a :: r) 1;have l3:(((a :: r).length:Int) == 3)=decide ((a :: r).length=3):=w8 (a :: r) 3;show _=R.ok (T.bl (if isS "whole" (.str s)=true then Jm (a :: r) else if isS "pick" (.str s)=true then uo (a :: r) else if isS "row" (.str s)=true then X5 k (a :: r) else if isS "many" (.str s)=true then uq k (a :: r) else false))
    cases hw:isS "whole" (.str s) with
    | true=>
     simp only[if_true,zN,Zs,Js,ZU,j5,Z7,zY,w3,v3,bOk,ZH,zI,eqI,l2,Zl,zV,ze,Qd]
     match r,hm with
     | [],_=>rfl
     | _ :: _ :: _,_=>simp[Jm,Za,zf]
     | [b],_=>
      simp only[at0,at1,bOk,ZO,Zl];rw[ut];rfl
    | false=>
     simp only[aw,if_false,w2,w3,v3,bOk,Za,ZH,neI,l1];cases hp:isS "pick" (.str s) with
     | true=>
      simp only[if_true]
      match r,hm with
      | _ :: _,_=>simp[uo,Za,zf,zI];rfl
      | [],hm=>
       simp only[ai,bi,decide_true,bg,aw,if_false,at0,bOk];cases a with
       | tup cs=>
        have hc:sOk (.tup cs):=hm _ (by simp)
        have P:=Wn hc (a:= .vl (.tup [.str s,.tup cs])) (b:= .vl (.int ((d+1:Nat):Int))) (d:= .vl (.str s)) (e:= .un) (f:= .vl (.lst (cs.filter uP)));simp only[Jb,bOk,Zo,bg,aw,if_false,X6,zY,ze,v3,zI,at0,ZH,Ja,btw (m:=4) (M:=4) rfl]at P ⊢;cases h14:(decide (1<=cs.length) && decide (cs.length<=4)) with
        | false=>
         rw[h14]at P;exact P
        | true=>
         rw[h14]at P;have h4:cs.length<=4:=by
          rw[ac,decide_eq_true_eq,decide_eq_true_eq]at h14;exact h14.2
         simp only[bg,aw,if_false,Za]at P ⊢;have s4:∀(x0 x1 x2:Sl),zp 4 (zz (Zb (zb ixT (vE 3) (cE (T.int 0)))) (zq 0) (wy (Z9 (ap1 (ZQ "tuple") (vB 0))) (zm eqC (ap1 zT (vB 0)) (cE (T.int 2)))) (vE 0) 1 []) [x0,x1,x2,.vl (.tup [.tup cs]),.un,.un]= .nx [x0,x1,x2,.vl (.tup [.tup cs]),.vl (.lst (cs.filter uP)),.un]:=by
          intro x0 x1 x2;simp only[Zt,zB,Zg,ze,v3,zI,bOk,at0];show ((zo (zq 0) _ _ 1 [] _ cs).bind λvs=>R.ok (T.lst vs)).s _=_;rw[z3A h4];rfl
         have s5:∀(x0 x1 x2:Sl),zp 5 (zz (Zb (vE 4)) (zq 0) (wy (Z9 (za 1 vN (z9 (zb ixT (vE 0) (cE (T.int 0))) zd))) (Z9 (za 3 vM (z9 (zb ixT (vE 0) (cE (T.int 1))) (z9 (cE (T.int 1)) (z9 (cE (T.int 20)) zd)))))) (zb ixT (vE 0) (cE (T.int 0))) 1 []) [x0,x1,x2,.vl (.tup [.tup cs]),.vl (.lst (cs.filter uP)),.un]= .nx [x0,x1,x2,.vl (.tup [.tup cs]),.vl (.lst (cs.filter uP)),.vl (.lst ((cs.filter zr).map Y5))]:=by
          intro x0 x1 x2;simp only[Zt,zB,Zg,v4,bOk];show ((zo (zq 0) _ _ 1 [] _ (cs.filter uP)).bind λvs=>R.ok (T.lst vs)).s _=_;rw[z3B (λc hc' =>ZC (ZI hc) hc') h4];rfl
         simp only[s4,s5];revert P;simp only[zN];generalize ZJ _ _ _=z;intro P;cases z with
         | ok t=>exact P
         | ex c=>exact P
         | bad=>exact P
       | _=>rfl
     | false=>
      simp only[aw,if_false,w2,w3,v3,bOk,Za,ZH,neI,l1];cases hr:isS "row" (.str s) with
      | true=>
       simp only[if_true]
       match r,hm with
       | _ :: _,_=>simp[X5,Za,zf,zI];rfl
       | [],hm=>
        simp only[ai,bi,decide_true,bg,aw,if_false,at0,bOk];cases a with
        | tup cs=>
         have hc:sOk (.tup cs):=hm _ (by simp)
         simp only[Jb,bOk,Zo,bg,aw,if_false,X6,zY,ze,v3,zI,at0,ZH,Ja,btw (m:=3) (M:=3) rfl];show _=R.ok (T.bl (decide (1<=cs.length) && decide (cs.length<=3) && cs.all k));cases h14:(decide (1<=cs.length) && decide (cs.length<=3)) with
         | false=>rfl
         | true=>
          have h4:cs.length<=3:=by
           rw[ac,decide_eq_true_eq,decide_eq_true_eq]at h14;exact h14.2
          simp only[bg,aw,if_false,Za,zN,Zs,Js,ZU,Z7,zB,Zg,ze,v3,zI,bOk,at0,cI];have ia:jP (.tup cs)= .ok cs:=rfl;simp only[ia,bOk,Kg H0 (λu hu=>ZC (ZI hc) hu) h4 (x:= .vl (.tup [.str s,.tup cs])) (y:= .un) (z:= .un) hL1];have el:∀ρ,Ze zd ρ= .ok (.lst []):=λ_=>rfl;simp only[el,bOk,y6,jj,Za,zf]
        | _=>rfl
      | false=>
       simp only[aw,if_false,w2,w3,v3,bOk,Za,ZH,neI,l3];cases hy:isS "many" (.str s) with
       | true=>
        simp only[bg,aw,if_false,bOk]
        match r,hm with
        | [],_=>rfl
        | [_],_=>rfl
        | _ :: _ :: _ :: _,_=>simp[uq,Za,zf,zI];rfl
        | [b,c],hm=>
         simp only[zV,zu,ze,v3,zI,bOk,at0,at1,at2,ZO,Zo];have S:=ut 0 3 b c;show _=R.ok (T.bl (ji 0 3 b c && k a));cases hb:inR 0 3 b with
         | false=>
          rw[hb]at S;injection S with S;injection S with S;rw[← S];rfl
         | true=>
          rw[hb,if_pos rfl]at S;simp only[S,bOk,Zo];cases ji 0 3 b c with
          | false=>rfl
          | true=>
           have hk:=H0 a (hm a (by simp))
           simp only[zN,Zs,Js,ZU,v1,v3,Zi,bOk,at0,hL1,hk,bg,aw,if_false,Za,zf,ai,bi,decide_true,cI,zu,ze,zI]
       | false=>rfl
   | _=>rfl
 | _=>rfl
theorem Qf {n:Nat}(t:T):S_g (n+1) 0 [t,.int 0]= .ok (.bl false):=by
 have e:S_g (n+1) 0 [t,.int 0]=zf (b_g vM vN (S_g n 0) [.vl t,.vl (.int 0),.un,.un,.un,.un]):=rfl;rw[e,b_g];simp only[zx,Zm,U7,Jk,ZV,zA,w0,w1,v0,zI,bOk,zY,Jb,Zo,ze];cases t with
 | tup xs=>
  match xs with
  | []=>rfl
  | [h]=>rfl
  | h :: a :: r=>
   have z0:decide (((h :: a :: r).length:Int) < 2)=false:=decide_eq_false (by simp only[ai];omega)
   have hL:decide ((0:Int) < 1)=true:=rfl;simp only[bg,aw,if_false,ZH,ltI,z0,bOk,at0,Qe,Zo,hL];cases h <;> rfl
 | _=>rfl
theorem wb:∀(d n:Nat),d+1<=n->∀t,sOk t->S_g n 0 [t,.int d]= .ok (.bl (isK d t))
 | 0,n+1,_,t,_=>Qf t
 | d+1,n+1,h,t,ht=>VO (λt ht=>wb d n (by omega) t ht) t ht
theorem wC (t:T)(ht:sOk t):f_g 12 [t,.int 3]= .ok (.bl (isK 3 t)):=wb 3 12 (by omega) t ht
theorem gtI (i j:Int):gtC (.int i) (.int j)= .ok (decide (i > j)):=rfl
theorem zZ (i j:Int):zn (.int i) (.int j)= .ok (.int (i+j)):=rfl
theorem z0C (p:Int)(h0:0<=p)(h1:p < 26):ixT (.str "abcdefghijklmnopqrstuvwxyz") (.int p)= .ok (.str ⟨#[97+p.toNat]⟩):=by
 obtain⟨n,rfl⟩:=c6 h0;have h:n < 26:=by omega
 iterate 26 (refine(Nat.lt_or_eq_of_le (Nat.le_of_lt_succ h)).elim (λh=> ?_) (λe=>e ▸ rfl))
 exact absurd h (fJ _)
abbrev letE:En->R T:=zb ixT (vE 3) (za 3 f_2 (z9 (vE 1) (z9 (zb zn (zb zn (vE 2) (cE (.int 2))) (vE 0)) (z9 (cE (.int 26)) (zd)))))
theorem z0D (ns:List Int)(k:Int)(h0:0<=k)(j:Nat):∃c:Nat,(97<=c/\c<=122)/\letE [.vl (.int (j:Int)),.vl (scr ns),.vl (.int k),.vl (.str "abcdefghijklmnopqrstuvwxyz")]= .ok (.str ⟨#[c]⟩):=by
 obtain⟨p,e,p0,p1⟩:=zK ns (k+2+j) 26 (by omega) (by omega)
 refine⟨97+p.toNat,⟨by omega,by omega⟩, ?_⟩
 simp only[letE,ze,v3,bOk,zV,v1,v2,v0,zI,zZ,e];exact z0C p p0 p1
theorem Y6 (ns:List Int)(k:Int)(h0:0<=k):∃w:Str,gq [scr ns,.int k]= .ok (.str w)/\zM (.str w)=true:=by
 have e:gq [scr ns,.int k]=zf (z1F _ [.vl _,.vl _,.un]):=rfl;obtain⟨p,e0,p0,p1⟩:=zK ns k 6 h0 (by omega)
 have hset:∀t,([Sl.vl (scr ns),Sl.vl (.int k),.un]).set 2 _=[Sl.vl _,Sl.vl _,.vl t]:=λ_=>rfl;rw[e,z1F];simp only[zx,Zm,Zt,zI,Za,hset,zA,zV,v0,v1,bOk,e0,gtI];cases hp:decide (p > 0) with
 | true=>
  obtain⟨q,e1,q0,q1⟩:=zK ns (k+1) 4 (by omega) (by omega)
  simp only[if_true,zN,Zs,ZU,ze,zV,v0,v1,zI,bOk,zZ,e1];have hq:q=0\/q=1\/q=2\/q=3:=by omega
  rcases hq with rfl | rfl | rfl | rfl
  ·exact⟨"a",rfl,by decide⟩
  ·exact⟨"b",rfl,by decide⟩
  ·exact⟨"ab",rfl,by decide⟩
  ·exact⟨"cab",rfl,by decide⟩
 | false=>
  obtain⟨q,e1,q0,q1⟩:=zK ns (k+1) 3 (by omega) (by omega)
  simp only[aw,if_false,nxS,zN,ZA,Zs,ZU,zY,zB];obtain⟨g,hg⟩:=iT.mp (z0D ns k h0);have ei:zX (zb zn (cE (.int 1)) (za 3 f_2 (z9 (vE 0) (z9 (zb zn (vE 1) (cE (.int 1))) (z9 (cE (.int 3)) (zd)))))) [Sl.vl (scr ns),Sl.vl (.int k),.vl (.str "abcdefghijklmnopqrstuvwxyz")]= .ok (rng 0 (1+q).toNat):=by
   unfold zX;simp only[ze,zV,v0,v1,zI,bOk,zZ,e1];rw[if_pos ⟨by omega,by omega⟩]
  have ec:∀n,n<=3->zo _ _ _ 1 [0,1,2] [Sl.vl _,Sl.vl _,.vl _] _= .ok ((rng 0 n).map λt=>match t with | .int j=> .str ⟨#[g j.toNat]⟩ | t=>t):=λn hn=>
   zL _ (by unfold rng;rw[aa,bo];exact ao hn (by decide)) λt ht=>by
    obtain⟨j,_,rfl⟩:=az.mp ht;rw[dW];exact(hg j).2
  rw[ei,bOk,ec _ (by omega),bOk]
  have hw:∀j,Zc _=true:=λj=>by
   obtain⟨a,b⟩:=(hg j).1;unfold Zc;rw[decide_eq_true a,decide_eq_true b];rfl
  have hq:q=0\/q=1\/q=2:=by omega
  rcases hq with rfl | rfl | rfl
  ·refine⟨⟨#[g 0]⟩,rfl, ?_⟩;show (Zc _ && true)=true;rw[hw 0];rfl
  ·refine⟨⟨#[g 0,g 1]⟩,rfl, ?_⟩;show (Zc _ && (Zc _ && true))=true;rw[hw 0,hw 1];rfl
  ·refine⟨⟨#[g 0,g 1,g 2]⟩,rfl, ?_⟩;show (Zc _ && (Zc _ && (Zc _ && true)))=true;rw[hw 0,hw 1,hw 2];rfl
theorem z3E (j:Int):Z0 (.int 5) (.int j)= .ok (.int (5*j)):=by
 show (if uM 5 j then R.ok _ else .bad)=_
 rw[if_pos (.inl ⟨by decide,by decide⟩)]
theorem WL (hf:f ρ= .ok x)(hg:g ρ= .ok y):zG (z9 f (z9 g zd)) ρ= .ok (.tup [x,y]):=by
 unfold zG z9 zd;rw[hf,hg];rfl
theorem VP (hf:f ρ= .ok x)(hg:g ρ= .ok y)(hh:h ρ= .ok z):zG (z9 f (z9 g (z9 h zd))) ρ= .ok (.tup [x,y,z]):=by
 unfold zG z9 zd;rw[hf,hg,hh];rfl
theorem tup4 (hf:f ρ= .ok x)(hg:g ρ= .ok y)(hh:h ρ= .ok z)(hi:i ρ= .ok w):zG (z9 f (z9 g (z9 h (z9 i zd)))) ρ= .ok (.tup [x,y,z,w]):=by
 unfold zG z9 zd;rw[hf,hg,hh,hi];rfl
noncomputable def Dst (ws:List Str):Prop:=∀(k:Nat) (w:Str),ws[k]? =some w->w ∉ ws.take k
theorem Dst.add (h:Dst ws)(hw:w ∉ ws):Dst (ws++[w]):=λk x hx=>by
 by_cases hk:k < ws.length
 ·rw[aR hk]at hx;rw[List.take_append_of_le_length (by omega)]
  exact h k x hx
 ·rw[aO (by omega)]at hx
  have hk' :k=ws.length:=by
   rcases Nat.lt_or_ge (k - ws.length) 1 with z | z
   ·omega
   ·rw[aS (by simpa using z)]at hx;cases hx
  subst hk';rw[Nat.sub_self]at hx;cases hx;rw[List.take_left']
  ·exact hw
  ·rfl
abbrev uv:En->RS:=zh (zp 5 (za 2 gq (z9 (vE 0) (z9 (zb zn (zb zn (vE 1) (cE (.int 5))) (zb Z0 (cE (.int 5)) (vE 4))) (zd)))))
  (ifS (zm V5 (vB 5) (vB 3)) (Vb 3 (vE 5)) (nxS))
theorem wc (ns:List Int)(k:Int)(h0:0<=k):∀(js:List Nat) (ws:List Str) (x4 x5:Sl),js.length+ws.length<=4->Dst ws->(∀w∈ws,zM (.str w)=true)->
  ∃ws' y4 y5,Zn (zq 4) uv (js.map λ(j:Nat)=>T.int (0+(j:Int))) [.vl (scr ns),.vl (.int k),.un,.ow (ws.map T.str),x4,x5]= .nx [.vl (scr ns),.vl (.int k),.un,.ow (ws'.map T.str),y4,y5]/\ws'.length<=4/\Dst ws' /\(∀w∈ws',zM (.str w)=true)/\(0 < js.length+ws.length->0 < ws'.length)
 | [],ws,x4,x5,hl,hd,hw=>⟨ws,x4,x5,rfl,by simpa using hl,hd,hw,λh=>by simpa using h⟩
 | j :: js,ws,x4,x5,hl,hd,hw=>by
  obtain⟨w,ew,hw'⟩:=Y6 ns (k+5+5*(0+(j:Int))) (by omega)
  have hl' :js.length+ws.length+1<=4:=by simpa[ai,Nat.add_right_comm] using hl
  have e:Zn (zq 4) uv ((j :: js).map λ(j:Nat)=>T.int (0+(j:Int))) [.vl (scr ns),.vl (.int k),.un,.ow (ws.map T.str),x4,x5]=match uv [.vl (scr ns),.vl (.int k),.un,.ow (ws.map T.str),.vl (.int (0+(j:Int))),x5] with
   | .nx ρ2=>Zn (zq 4) uv (js.map λ(j:Nat)=>T.int (0+(j:Int))) ρ2
   | .ct ρ2=>Zn (zq 4) uv (js.map λ(j:Nat)=>T.int (0+(j:Int))) ρ2
   | .bk ρ2=> .nx ρ2
   | r=>r:=rfl
  have eb:uv [.vl (scr ns),.vl (.int k),.un,.ow (ws.map T.str),.vl (.int (0+(j:Int))),x5]= .nx [.vl (scr ns),.vl (.int k),.un,.ow ((if w∈ws then ws else ws++[w]).map T.str),.vl (.int (0+(j:Int))),.vl (.str w)]:=by
   have w3o:∀(a b c:Sl) (ts:List T) (ρ:En),vB 3 (a :: b :: c :: .ow ts :: ρ)= .ok _:=λ_ _ _ _ _=>rfl;have hset:∀t,([.vl _,.vl (.int k),.un,.ow (ws.map T.str),.vl (.int (0+(j:Int))),x5]:En).set 5 (.vl t)=[.vl (scr ns),.vl (.int k),.un,.ow (ws.map T.str),.vl _,.vl t]:=λ_=>rfl;have en:V5 (.str w) (.lst (ws.map T.str))= .ok (!decide (w∈ws)):=by
    show ((match JL (λy=>eqF 30 y (.str w)) (ws.map _) with | some b=>R.ok b | none=> .bad)).bind (λb=>R.ok _)=_
    rw[Wm];rfl
   simp only[uv,zx,Zt,zu,v0,v1,v4,ze,zI,bOk,zZ,z3E,ew,Za,hset,Zm,zA,w5,w3o,en]
   by_cases hm:w∈ws
   ·rw[decide_eq_true hm,if_pos hm];rfl
   ·rw[decide_eq_false hm,if_neg hm];have hb:(ws.map T.str).length < bnd:=by rw[aa];exact bw (show ws.length<=4 by omega) (by decide)
    show (if (ws.map _).length < bnd then RS.nx _ else .bad)=_
    rw[if_pos hb,c9];rfl
  rw[e,eb]
  by_cases hm:w∈ws
  ·rw[if_pos hm];obtain⟨ws',y4,y5,r1,r2,r3,r4,r5⟩:=wc ns k h0 js ws _ _ (by omega) hd hw
   exact⟨ws',y4,y5,r1,r2,r3,r4,λ_=>r5 (by have:=List.length_pos_of_mem hm;omega)⟩
  ·rw[if_neg hm];obtain⟨ws',y4,y5,r1,r2,r3,r4,r5⟩:=wc ns k h0 js _ _ _ (by simp only[ax,ai,bi];omega) (hd.add hm) (λx hx=>by
    rcases dr.mp hx with z | z
    ·exact hw x z
    ·rw[aG.mp z];exact hw')
   exact⟨ws',y4,y5,r1,r2,r3,r4,λ_=>r5 (by simp only[ax,ai,bi];omega)⟩
abbrev z24:En->R T:=zG (z9 (vE 1) (z9 (zb zn (cE (.int 1)) (za 3 f_2 (z9 (vE 2) (z9 (zb zn (zb zn (vE 3) (cE (.int 30))) (vE 0)) (z9 (cE (.int 20)) (zd)))))) (zd)))
theorem y7 (ns:List Int)(k:Int)(h0:0<=k):∀(ws:List Str) (i:Nat) (x0 x1:Sl),(∀w∈ws,zM (.str w)=true)->∃cs:List T,zJ (Z8 0 1) Z3 z24 (((ws.map T.str).zipIdx i).map λp=>T.tup [.int (p.2:Nat),p.1]) [x0,x1,.vl (scr ns),.vl (.int k)]= .ok cs/\cs.all zr=true/\cs.map Zh=ws
 | [],i,x0,x1,_=>⟨[],rfl,rfl,rfl⟩
 | w :: ws,i,x0,x1,hw=>by
  obtain⟨p,e,p0,p1⟩:=zK ns (k+30+i) 20 (by omega) (by omega)
  obtain⟨cs,r1,r2,r3⟩:=y7 ns k h0 ws _ _ _ λx hx=>hw x (a8 _ hx);have ec:z24 [.vl (.int (i)),.vl (.str w),.vl (scr ns),.vl (.int k)]= .ok (.tup [.str w,.int (1+p)]):=by
   have ea:za 3 f_2 (z9 (vE 2) (z9 (zb zn (zb zn (vE 3) (cE (.int 30))) (vE 0)) (z9 (cE (.int 20)) (zd)))) [.vl (.int (i)),.vl (.str w),.vl (scr ns),.vl (.int k)]= .ok (.int p):=by
    simp only[zV,v2,v3,v0,ze,zI,bOk,zZ,e]
   have eb:zb zn (cE (.int 1)) (za 3 f_2 (z9 (vE 2) (z9 (zb zn (zb zn (vE 3) (cE (.int 30))) (vE 0)) (z9 (cE (.int 20)) (zd))))) [.vl (.int (i)),.vl (.str w),.vl (scr ns),.vl (.int k)]= .ok (.int (1+p)):=by
    rw[ze,ea];rfl
   exact WL v1 eb
  refine⟨.tup [.str w,.int (1+p)] :: cs, ?_, ?_, ?_⟩
  ·show ((z24 [.vl _,.vl _,.vl _,.vl _]).bind λv=>(zJ _ _ _ (((ws.map _).zipIdx _).map λp=>T.tup _) [.vl _,.vl _,.vl _,.vl _]).bind λvs=>R.ok _)=_;rw[ec,r1];rfl
  ·rw[bR,r2,hZ];show (zM _ && decide _ && decide _)=true;rw[hw w a9,decide_eq_true (by omega),decide_eq_true (by omega)];rfl
  ·rw[av,r3];rfl
theorem X7 (i j:Int):qg (.int i) (.int j)= .ok (.int (if j < i then j else i)):=rfl
theorem Kj (ns:List Int)(k:Int)(h0:0<=k):∃t,z0m [scr ns,.int k]= .ok t/\∀d,isK (d+1) t=true:=by
 have e:z0m [scr ns,.int k]=zf (z1G f_2 gq [.vl (scr ns),.vl (.int k),.un,.un,.un,.un]):=rfl;obtain⟨p,e0,p0,p1⟩:=zK ns k 3 h0 (by omega)
 rw[e,z1G,zx];simp only[Zm,zA,zV,v0,v1,zI,bOk,e0,gtI,Za];cases hp:decide (p > 0) with
 | true=>
  obtain⟨q,e1,q0,q1⟩:=zK ns (k+1) 7 (by omega) (by omega)
  obtain⟨q3,e3,_,_⟩:=zK ns (k+3) 8 (by omega) (by omega)
  obtain⟨q4,e4,a4,b4⟩:=zK ns (k+4) 3 (by omega) (by omega)
  obtain⟨q2,e2,a2,b2⟩:=zK ns (k+2) 4 (by omega) (by omega)
  have hset:∀t x,([.vl (scr ns),.vl (.int k),x,.un,.un,.un]:En).set 2 (.vl t)=[.vl (scr ns),.vl (.int k),.vl t,.un,.un,.un]:=λ_ _=>rfl;have fin:∀low:Int, -20<=low->low<=20->∃t,zf (zl (zG (z9 (cE (.str "whole")) (z9 (vE 2) (z9 (zb qg (cE (.int 20)) (zb zn (vE 2) (za 3 f_2 (z9 (vE 0) (z9 (zb zn (vE 1) (cE (.int 2))) (z9 (cE (.int 4)) (zd))))))) (zd))))) [.vl (scr ns),.vl (.int k),.vl (.int low),.un,.un,.un])= .ok t/\∀d,isK (d+1) t=true:=by
   intro low hl1 hl2;refine⟨.tup [.str "whole",.int low,.int (if low+q2 < 20 then low+q2 else 20)], ?_,λd=> ?_⟩
   ·rw[zN,ZA];refine VP rfl rfl ?_;simp only[Zs,Js,ZU,ze,v2,v0,v1,zV,zI,bOk,zZ,e2,X7]
   ·show (decide (-20<=low) && decide (low<=_) && decide (_<=(20:Int)))=true;rw[decide_eq_true hl1,decide_eq_true (by split <;> omega),decide_eq_true (by split <;> omega)];rfl
  simp only[if_true,zx,Zt,Zm,ze,zV,v0,v1,zI,bOk,zZ,e1,Zi,Za,hset,zA,e3,eqI];cases hq:(q3 == 0) with
  | true=>
   have h3:q4=0\/q4=1\/q4=2:=by omega
   rcases h3 with rfl | rfl | rfl
   ·obtain⟨t,r,s⟩:=fin (-20) (by omega) (by omega)
    refine⟨t, ?_,s⟩;rw[← r];simp only[if_true,e4,bOk];have hv:∀ρ,(Ze (z9 (Ym (cE (.int 20))) (z9 (cE (.int 17)) (z9 (cE (.int 20)) (zd)))) ρ)= .ok (.lst [.int (-20),.int 17,.int 20]):=λ_=>rfl;simp only[hv,bOk];have hx:ixT (.lst [.int (-20),.int 17,.int 20]) (.int 0)= .ok (.int (-20)):=rfl;simp only[hx,Za,hset,zN];generalize zG _ _=z;cases z <;> rfl
   ·obtain⟨t,r,s⟩:=fin (17) (by omega) (by omega)
    refine⟨t, ?_,s⟩;rw[← r];simp only[if_true,e4,bOk];have hv:∀ρ,(Ze (z9 (Ym (cE (.int 20))) (z9 (cE (.int 17)) (z9 (cE (.int 20)) (zd)))) ρ)= .ok (.lst [.int (-20),.int 17,.int 20]):=λ_=>rfl;simp only[hv,bOk];have hx:ixT (.lst [.int (-20),.int 17,.int 20]) (.int 1)= .ok (.int (17)):=rfl;simp only[hx,Za,hset,zN];generalize zG _ _=z;cases z <;> rfl
   ·obtain⟨t,r,s⟩:=fin (20) (by omega) (by omega)
    refine⟨t, ?_,s⟩;rw[← r];simp only[if_true,e4,bOk];have hv:∀ρ,(Ze (z9 (Ym (cE (.int 20))) (z9 (cE (.int 17)) (z9 (cE (.int 20)) (zd)))) ρ)= .ok (.lst [.int (-20),.int 17,.int 20]):=λ_=>rfl;simp only[hv,bOk];have hx:ixT (.lst [.int (-20),.int 17,.int 20]) (.int 2)= .ok (.int (20)):=rfl;simp only[hx,Za,hset,zN];generalize zG _ _=z;cases z <;> rfl
  | false=>
   obtain⟨t,r,s⟩:=fin (q - 3) (by omega) (by omega)
   refine⟨t, ?_,s⟩;rw[← r];simp only[aw,if_false,nxS,zN];generalize zG _ _=z;cases z <;> rfl
 | false=>
  obtain⟨q,e1,q0,q1⟩:=zK ns (k+1) 4 (by omega) (by omega)
  simp only[aw,if_false,nxS,zx];have ei:zX (zb zn (cE (.int 1)) (za 3 f_2 (z9 (vE 0) (z9 (zb zn (vE 1) (cE (.int 1))) (z9 (cE (.int 4)) (zd)))))) [.vl (scr ns),.vl (.int k),.un,.ow [],.un,.un]= .ok (rng 0 (1+q).toNat):=by
   unfold zX;simp only[ze,zV,v0,v1,zI,bOk,zZ,e1];rw[if_pos ⟨by omega,by omega⟩]
  have el:UI 3 zd [.vl (scr ns),.vl (.int k),.un,.un,.un,.un]= .nx [.vl (scr ns),.vl (.int k),.un,.ow [],.un,.un]:=rfl;rw[el];have hn:(aX (1+q).toNat).length=(1+q).toNat:=bo;obtain⟨ws,y4,y5,r1,r2,r3,r4,r5⟩:=wc ns k h0 (aX (1+q).toNat) [] .un .un (by rw[hn,bi];omega) (λk w h=>by cases h) (λw h=>by cases h)
  have hpos:0 < ws.length:=r5 (by rw[hn,bi];omega)
  have ef:ZK (zX (zb zn (cE (.int 1)) (za 3 f_2 (z9 (vE 0) (z9 (zb zn (vE 1) (cE (.int 1))) (z9 (cE (.int 4)) (zd))))))) (zq 4) uv [.vl (scr ns),.vl (.int k),.un,.ow [],.un,.un]= .nx [.vl (scr ns),.vl (.int k),.un,.ow (ws.map T.str),y4,y5]:=by
   unfold ZK;rw[ei,Za];exact r1
  obtain⟨cs,s1,s2,s3⟩:=y7 ns k h0 ws 0 .un .un r4;have hcl:cs.length=ws.length:=by rw[← s3,aa]
  refine⟨.tup [.str "pick",.tup cs], ?_,λd=> ?_⟩
  ·dsimp only;rw[ef];dsimp only;rw[zN,ZA];refine WL rfl ?_;rw[zY,zB];have ee:kv (vE 3) (frz [.vl (scr ns),.vl (.int k),.un,.ow (ws.map T.str),y4,y5])= .ok (jQ (ws.map T.str)):=rfl;rw[ee,bOk];unfold zo;rw[if_pos (by unfold jQ;rw[aa,ic,aa];exact ao r2 (by decide))]
   have ec:zJ (Z8 0 1) Z3 z24 (jQ (ws.map T.str)) (JO 2 [0,1] (frz [.vl (scr ns),.vl (.int k),.un,.ow (ws.map T.str),y4,y5]))= .ok cs:=s1;rw[ec];rfl
  ·show (decide (1<=cs.length) && decide (cs.length<=4) && cs.all zr && decide ((dd [] (cs.map Zh)).length=cs.length))=true;have hd:(dd [] (cs.map Zh)).length=cs.length:=by
    rw[s3,hcl];have:=(wa ws []).mpr (λk w h=>by simpa using r3 k w h)
    simpa using this
   rw[decide_eq_true (by omega),decide_eq_true (by omega),s2,decide_eq_true hd];rfl
theorem Qg (c:Int)(j:Int)(hc:uM c j):Z0 (.int c) (.int j)= .ok (.int (c*j)):=by
 show (if uM c j then R.ok _ else .bad)=_
 rw[if_pos hc]
theorem z0E (j:Int):Z0 (.int 3) (.int j)= .ok (.int (3*j)):=Qg _ _ (.inl ⟨by decide,by decide⟩)
theorem z0F (j:Int):Z0 (.int 50) (.int j)= .ok (.int (50*j)):=Qg _ _ (.inl ⟨by decide,by decide⟩)
abbrev z25 (c:List T->R T):En->R T:=za 3 c (z9 (vE 1) (z9 (zb zn (zb zn (zb Z0 (cE (.int 3)) (vE 2)) (cE (.int 40))) (zb Z0 (cE (.int 50)) (vE 0))) (z9 (zb jg (vE 3) (cE (.int 1))) (zd))))
theorem Ub (ns:List Int):∀(d n:Nat),d<=n->1<=d->∀k:Int,0<=k->∃t,S_k n 0 [scr ns,.int k,.int (d:Int)]= .ok t/\isK d t=true
 | d+1,n+1,hn,_,k,h0=>by
  have e:S_k (n+1) 0 [scr ns,.int k,.int ((d+1:Nat))]=zf (b_k f_2 z0m (S_k n 0) [.vl (scr ns),.vl (.int k),.vl _,.un,.un,.un]):=rfl;obtain⟨p,e0,p0,p1⟩:=zK ns k 5 h0 (by omega)
  obtain⟨l,el,hl⟩:=Kj ns (k+1) (by omega)
  have hset:([.vl (scr ns),.vl (.int k),.vl (.int ((d+1:Nat))),.un,.un,.un]:En).set 3 (.vl (.int p))=[.vl (scr ns),.vl (.int k),.vl _,.vl (.int p),.un,.un]:=rfl;rw[e,b_k];simp only[zx,Zt,Zm,U7,zA,zV,zu,v0,v1,v2,zI,bOk,e0,Za,hset,w2,w3,eqI,ltI,zZ,zN,Zs,Js,ZU,ze,el];have hd1:((((d+1:Nat):Int) == 1))=decide (d=0):=by
   by_cases h:d=0
   ·subst h;rfl
   ·rw[decide_eq_false h,beq_eq_false_iff_ne];omega
  rw[hd1]
  by_cases hleaf:d=0\/p < 2
  ·refine⟨l, ?_,hl d⟩;rcases hleaf with h | h
   ·rw[decide_eq_true h];rfl
   ·rw[decide_eq_true h];cases decide (d=0) <;> rfl
  ·have hd0:¬ d=0:=λz=>hleaf (.inl z);have hp2:¬ p < 2:=λz=>hleaf (.inr z);have hsub:((d+1:Nat)) - 1=(d:Int):=by omega
   rw[decide_eq_false hd0,decide_eq_false hp2];simp only[aw,if_false,Za,nxS,w3,v0,v1,v2,bOk,ltI,zI];cases hp:decide (p < 4) with
   | true=>
    obtain⟨q,e1,q0,q1⟩:=zK ns (k+1) 3 (by omega) (by omega)
    have hj:∀j:Nat,∃t,z25 (S_k n 0) [.vl (.int (0+(j:Int))),.vl (scr ns),.vl (.int k),.vl (.int ((d+1:Nat)))]= .ok t/\isK d t=true:=λj=>by
     obtain⟨t,r,s⟩:=Ub ns d n (by omega) (by omega) (3*k+40+50*(0+(j:Int))) (by omega)
     refine⟨t, ?_,s⟩;simp only[z25,zV,v0,v1,v2,v3,ze,zI,bOk,z0E,z0F,zZ,Zi,hsub,r]
    obtain⟨g,hg⟩:=iT.mp hj;have ei:zX (zb zn (cE (.int 1)) (za 3 f_2 (z9 (vE 0) (z9 (zb zn (vE 1) (cE (.int 1))) (z9 (cE (.int 3)) (zd)))))) [.vl (scr ns),.vl (.int k),.vl (.int ((d+1:Nat))),.vl (.int p),.un,.un]= .ok (rng 0 (1+q).toNat):=by
     unfold zX;simp only[ze,zV,v0,v1,zI,bOk,zZ,e1];rw[if_pos ⟨by omega,by omega⟩]
    have ec:zo (zq 0) Z3 (z25 (S_k n 0)) 1 [0,1,2] [.vl (scr ns),.vl (.int k),.vl _,.vl (.int p),.un,.un] _= .ok ((rng 0 (1+q).toNat).map λt=>match t with | .int j=>g j.toNat | t=>t):=
     zL _ (by unfold rng;rw[aa,bo];exact ao (show (1+q).toNat<=3 by omega) (by decide)) λt ht=>by
      obtain⟨j,_,rfl⟩:=az.mp ht;show z25 (S_k n 0) [.vl _,.vl (scr ns),.vl (.int k),.vl _]= .ok (g _);rw[(hg j).1,dW,aY]
    generalize hcs:((rng 0 (1+q).toNat).map λt=>match t with | .int j=>g j.toNat | t=>t)=cs at ec
    have hlen:cs.length=(1+q).toNat:=by rw[← hcs];unfold rng;rw[aa,aa,bo]
    have hall:∀t∈cs,isK d t=true:=λt ht=>by
     rw[← hcs]at ht;obtain⟨u,hu,rfl⟩:=az.mp ht;obtain⟨j,_,rfl⟩:=az.mp hu;exact(hg _).2
    refine⟨.tup [.str "row",.tup cs], ?_, ?_⟩
    ·have hs4:([.vl (scr ns),.vl (.int k),.vl (.int ((d+1:Nat))),.vl (.int p),.un,.un]:En).set 4 (.vl (.lst cs))=[.vl (scr ns),.vl (.int k),.vl _,.vl (.int p),.vl (.lst cs),.un]:=rfl;simp only[if_true,zB,ei,bOk,ec,Za,hs4,Zs,Js,ZU];rfl
    ·show (decide _ && decide _ && cs.all _)=true;rw[decide_eq_true (by omega),decide_eq_true (by omega),aJ.mpr hall];rfl
   | false=>
    obtain⟨q,e1,q0,q1⟩:=zK ns (k+1) 3 (by omega) (by omega)
    obtain⟨q2,e2,_,_⟩:=zK ns (k+2) 3 (by omega) (by omega)
    obtain⟨t,r,s⟩:=Ub ns d n (by omega) (by omega) (3*k+40) (by omega)
    refine⟨.tup [.str "many",t,.int q,.int (if q+q2 < 3 then q+q2 else 3)], ?_, ?_⟩
    ·have hs5:([.vl (scr ns),.vl (.int k),.vl (.int ((d+1:Nat))),.vl (.int p),.un,.un]:En).set 5 (.vl (.int q))=[.vl _,.vl _,.vl _,.vl _,.un,.vl _]:=rfl;simp only[aw,if_false,v0,v1,ze,zI,bOk,zZ,e1,Za,hs5,Zs,Js,ZU,ZA];refine tup4 rfl ?_ rfl ?_
     ·simp only[zV,v0,v1,v2,ze,zI,bOk,z0E,zZ,Zi,hsub,r]
     ·have v5:∀{t:T} {a b c d e:Sl} {ρ:En},vE 5 (a :: b :: c :: d :: e :: .vl t :: ρ)= .ok t:=rfl;simp only[zV,v0,v1,v5,ze,zI,bOk,zZ,e2,X7]
    ·show (ji 0 3 _ _ && isK d t)=true;rw[s,hZ];show (decide _ && decide _ && decide _)=true;rw[decide_eq_true (by omega),decide_eq_true (by split <;> omega),decide_eq_true (by split <;> omega)];rfl
mutual
noncomputable def dep:T->Nat
 | .tup xs=>jA xs+1
 | .lst xs=>jA xs+1
 | _=>1
noncomputable def jA:List T->Nat
 | []=>0
 | t :: ts=>max (dep t) (jA ts)
end
mutual
noncomputable def siz:T->Nat
 | .tup xs=>j8 xs+1
 | .lst xs=>j8 xs+1
 | _=>1
noncomputable def j8:List T->Nat
 | []=>0
 | t :: ts=>siz t+j8 ts
end
theorem Jn (h:isS w t=true):t= .str w:=by
 cases t with
 | str s=>
  have:=h;rw[eq_of_beq this]
 | _=>cases h
theorem Qh (h:inR lo hi t=true):∃i,t= .int i:=by
 cases t with
 | int i=>exact⟨i,rfl⟩
 | _=>cases h
theorem Jz (h:ji lo hi a b=true):∃i j,a= .int i/\b= .int j:=by
 cases a with
 | int i=>
  cases b with
  | int j=>exact⟨i,j,rfl,rfl⟩
  | _=>cases h
 | _=>cases h
structure Fit (D S:Nat) (t:T):Prop where
 so:sOk t
 dp:dep t<=D
 sz:siz t<=S
theorem Y7 (h:zr c=true):Fit 2 3 c:=by
 unfold zr at h;split at h
 ·rename_i w i;have hw:=by
   rw[ac,ac]at h;exact h.1.1
  cases w with
  | str x=>
   have hx:(decide _ && decide _ && x.cps.toList.all _)=true:=hw;rw[ac,ac,decide_eq_true_eq,decide_eq_true_eq]at hx;refine⟨?_, ?_, ?_⟩
   ·simp only[sOk,jB,and_true];exact ao hx.1.2 (by decide)
   ·simp[dep,jA]
   ·simp[siz,j8]
  | _=>cases hw
 ·cases h
theorem z3F {D S:Nat}:∀{cs:List T},(∀c∈cs,Fit D S c)->jB cs/\jA cs<=D/\j8 cs<=S*cs.length
 | [],_=>⟨by simp only[jB],br _,br _⟩
 | c :: cs,h=>by
  obtain⟨a,b,d⟩:=z3F λx hx=>h x (a8 _ hx);obtain⟨x,y,z⟩:=h c a9;refine⟨?_, ?_, ?_⟩
  ·exact⟨x,a⟩
  ·simp only[jA];omega
  ·simp only[j8,ai,Nat.mul_add,Nat.mul_one];omega
theorem jR:∀(d:Nat) (t:T),isK d t=true->Fit (2*d+2) (15*4 ^ d) t
 | 0,_,h=>by cases h
 | d+1,t,h=>by
  have hone:1<=4 ^ d:=Nat.pow_pos (by omega)
  have h:Wl _ t=true:=h;unfold Wl at h;split at h
  ·rename_i hd r;split at h
   ·rename_i e;rw[Jn e];unfold Jm at h;split at h
    ·obtain⟨i,j,rfl,rfl⟩:=Jz h;refine⟨by simp only[sOk,jB,and_true];decide,by simp only[dep,jA];omega,by simp only[siz,j8];omega⟩
    ·cases h
   ·split at h
    ·rename_i e;rw[Jn e];unfold uo at h;split at h
     ·unfold um at h;split at h
      ·rw[ac,ac,ac,decide_eq_true_eq,decide_eq_true_eq]at h;obtain⟨a,b,z⟩:=z3F λc hc=>Y7 (aJ.mp h.1.2 c hc);refine⟨by simp only[sOk,jB,and_true];exact⟨by decide,a⟩,by simp only[dep,jA];omega,by simp only[siz,j8];omega⟩
      ·cases h
     ·cases h
    ·split at h
     ·rename_i e;rw[Jn e];unfold X5 at h;split at h
      ·unfold w4 at h;split at h
       ·rename_i cs;rw[ac,ac,decide_eq_true_eq,decide_eq_true_eq]at h;obtain⟨a,b,z⟩:=z3F λc hc=>jR d c (aJ.mp h.2 c hc);have:15*4 ^ d*cs.length<=15*4 ^ d*3:=Nat.mul_le_mul_left _ h.1.2;refine⟨by simp only[sOk,jB,and_true];exact⟨by decide,a⟩,by simp only[dep,jA];omega,by simp only[siz,j8];omega⟩
       ·cases h
      ·cases h
     ·split at h
      ·rename_i e;rw[Jn e];unfold uq at h;split at h
       ·rename_i c a b;rw[ac]at h;obtain⟨i,j,rfl,rfl⟩:=Jz h.1;obtain⟨x,y,z⟩:=jR d c h.2;refine⟨by simp only[sOk,jB,and_true];exact⟨by decide,x⟩,by simp only[dep,jA];omega,by simp only[siz,j8];omega⟩
       ·cases h
      ·cases h
  ·cases h
noncomputable def WM:T->List Nat->Option T
 | t,[]=>some t
 | .tup xs,i :: r=>match xs[i]? with | some x=>WM x r | none=>none
 | _,_ :: _=>none
noncomputable abbrev pth (p:List Nat):T:= .tup (p.map λ(i:Nat)=>T.int (i:Int))
abbrev X8 (c:List T->R T):En->RS:=yT 1 (zz (Zb (za 1 c (z9 (zb ixT (vE 0) (vE 2)) (zd)))) (zq 0) (Z3) (zb zn (zG (z9 (vE 1) (zd))) (vE 0)) 1 [2])
def Y8 (xs:List T)(j:Nat):Nat:=match xs[j]? with | some x=>siz x | none=>0
theorem Uc:∀xs:List T,((aX xs.length).map (Y8 xs)).sum=j8 xs
 | []=>rfl
 | x :: xs=>by
  rw[ai,ci,av,cJ,aM];show siz x+((aX xs.length).map (Y8 xs)).sum=siz x+j8 xs;rw[Uc xs]
theorem Wo:∀{xs:List T} {x:T},x∈xs->siz x<=j8 xs
 | y :: ys,x,h=>by
  simp only[j8];rcases ak.mp h with rfl | h
  ·omega
  ·have:=Wo h;omega
theorem Ud (t:T):1<=siz t:=by cases t <;> simp[siz]
theorem y8:∀{t u:T} (p:List Nat),WM t p=some u->p.length < siz t
 | t,_,[],_=>Ud t
 | .tup xs,u,i :: r,h=>by
  have h:(match xs[i]? with | some x=>WM x r | none=>none)=some u:=h
  cases hx:xs[i]? with
  | none=>rw[hx]at h;cases h
  | some x=>
   rw[hx]at h;have a:=y8 r h;have b:=Wo (cB hx);simp only[siz,ai];omega
 | .non,_,_ :: _,h=>by cases h
 | .bl _,_,_ :: _,h=>by cases h
 | .int _,_,_ :: _,h=>by cases h
 | .str _,_,_ :: _,h=>by cases h
 | .lst _,_,_ :: _,h=>by cases h
 | .fz _,_,_ :: _,h=>by cases h
theorem tup1 (hf:f ρ= .ok x):zG (z9 f zd) ρ= .ok (.tup [x]):=by
 unfold zG z9 zd;rw[hf];rfl
theorem y9 (H:∀x∈xs,∃ps:List (List Nat),c [x]= .ok (.lst (ps.map pth))/\ps.length<=siz x/\∀p∈ps,∃u,WM x p=some u):
  ∀(js:List Nat),(∀j∈js,j < xs.length)->∀(acc:List (List Nat)) (x2:Sl),(∀p∈acc,∃u,WM (.tup xs) p=some u)->acc.length+(js.map (Y8 xs)).sum<=bnd->
  ∃(acc' :List (List Nat)) (y2:Sl),Zn (zq 2) (X8 c) (js.map λ(j:Nat)=>T.int (0+(j:Int))) [.vl (.tup xs),.ow (acc.map pth),x2]= .nx [.vl (.tup xs),.ow (acc'.map pth),y2]/\acc.length<=acc'.length/\acc'.length<=acc.length+(js.map (Y8 xs)).sum/\∀p∈acc',∃u,WM (.tup xs) p=some u
 | [],_,acc,x2,ha,hl=>⟨acc,x2,rfl,am _,by simp,ha⟩
 | j :: js,hj,acc,x2,ha,hl=>by
  have hjl:j < xs.length:=hj j a9;have hx:xs[j]? =some xs[j]:=ah hjl;obtain⟨ps,e1,e2,e3⟩:=H xs[j] (iU hjl);have hsz:Y8 xs j=siz xs[j]:=by unfold Y8;rw[hx]
  rw[av,cJ,hsz]at hl;have e:Zn (zq 2) (X8 c) ((j :: js).map λ(j:Nat)=>T.int (0+(j:Int))) [.vl (.tup xs),.ow (acc.map pth),x2]=match X8 c [.vl (.tup xs),.ow (acc.map pth),.vl (.int (0+(j:Int)))] with
   | .nx ρ2=>Zn (zq 2) (X8 c) (js.map λ(j:Nat)=>T.int (0+(j:Int))) ρ2
   | .ct ρ2=>Zn (zq 2) (X8 c) (js.map λ(j:Nat)=>T.int (0+(j:Int))) ρ2
   | .bk ρ2=> .nx ρ2
   | r=>r:=rfl
  have eb:X8 c [.vl (.tup xs),.ow (acc.map pth),.vl (.int (0+(j:Int)))]= .nx [.vl (.tup xs),.ow ((acc++ps.map (j :: ·)).map pth),.vl (.int (0+(j:Int)))]:=by
   have ex:ixT (.tup xs) (.int (0+(j:Int)))= .ok xs[j]:=by
    rw[dW];show atT xs j=_;unfold atT;rw[Zw hx]
   have ei:Zb (za 1 c (z9 (zb ixT (vE 0) (vE 2)) (zd))) [.vl (.tup xs),.ow (acc.map pth),.vl (.int (0+(j:Int)))]= .ok (ps.map pth):=by
    simp only[Zg,zH,ze,v0,v2,bOk,ex,e1];rfl
   have ec:zo (zq 0) Z3 (zb zn (zG (z9 (vE 1) (zd))) (vE 0)) 1 [2] [.vl (.tup xs),.ow (acc.map pth),.vl (.int (0+(j:Int)))] (ps.map pth)= .ok ((ps.map pth).map λt=>match t with | .tup q=> .tup (.int (0+(j:Int)) :: q) | t=>t):=
    zL _ (by rw[aa];omega) λt ht=>by
     obtain⟨p,hp,rfl⟩:=az.mp ht;show zb zn (zG (z9 (vE 1) (zd))) (vE 0) [.vl (pth p),.vl (.int (0+(j:Int)))]=_;rw[ze,tup1 v1,bOk,v0,bOk];obtain⟨u,hu⟩:=e3 p hp;have hpl:=y8 p hu;show (if [T.int (0+(j:Int))].length+(p.map λ(i:Nat)=>T.int (i:Int)).length<=bnd then R.ok (T.tup _) else .bad)=_
     rw[if_pos (by rw[aa,aB];omega)]
     rfl
   show ((zz _ _ _ _ _ _ _).s λt=>match t with | .lst us=>if (acc.map pth).length+us.length<=bnd then RS.nx _ else .bad | _=> .bad)=_
   rw[zB,ei,bOk,ec,bOk,Za];show (if _ then _ else _)=_
   rw[if_pos (by simp only[aa];omega)]
   rw[c9,aM,aM];show RS.nx [.vl (.tup xs),.ow (acc.map pth++_),.vl (.int (0+(j:Int)))]=_;have hm:List.map ((λt=>match t with | .tup q=>T.tup (.int (0+(j:Int)) :: q) | t=>t) ∘ pth) ps=List.map (pth ∘ λx=>j :: x) ps:=by
    refine ce λp _=> ?_;show T.tup (T.int (0+(j:Int)) :: _)=T.tup (T.int (j:Int) :: _);rw[dW]
   rw[← hm]
  rw[e,eb];obtain⟨acc',y2,r1,r2,r3,r4⟩:=y9 H js (λi hi=>hj i (a8 _ hi)) (acc++ps.map (j :: ·)) (.vl (.int (0+(j:Int)))) (λp hp=>by
   rcases dr.mp hp with z | z
   ·exact ha p z
   ·obtain⟨q,hq,rfl⟩:=az.mp z;obtain⟨u,hu⟩:=e3 q hq;refine⟨u, ?_⟩;show (match xs[j]? with | some x=>WM x q | none=>none)=some u
    rw[hx];exact hu) (by rw[ax,aa];omega)
  rw[ax,aa]at r2 r3;refine⟨acc',y2,r1,by omega, ?_,r4⟩
  rw[av,cJ,hsz];omega
theorem Qi:∀{xs:List T} {x:T},x∈xs->dep x<=jA xs
 | y :: ys,x,h=>by
  simp only[jA];rcases ak.mp h with rfl | h
  ·omega
  ·have:=Qi h;omega
noncomputable def lim:Nat:=900000
theorem Ue:lim+lim+lim+10<=bnd:=by decide
theorem Kk:(lim:Int)+10 < 1000000:=by decide
abbrev Y9 (c:List T->R T)(t:T):Prop:=∃ps:List (List Nat),c [t]= .ok (.lst (ps.map pth))/\0 < ps.length/\ps.length<=siz t/\∀p∈ps,∃u,WM t p=some u
theorem JA:∀xs:List T,xs.length<=j8 xs
 | []=>br _
 | x :: xs=>by
  have:=Ud x;have:=JA xs;simp only[j8,ai];omega
theorem z0G (h:(xs.length:Int) < 1000000):zX (ap1 zT (vB 0)) [.vl (.tup xs),a,b]= .ok (rng 0 xs.length):=by
 unfold zX;rw[zY,w0,bOk,ZH,bOk];dsimp only;rw[if_pos ⟨by omega,by omega⟩,aY]
theorem Qj (t:T)(ps:List (List Nat))(y:Sl):zf (zl (vE 1) [.vl t,.ow (ps.map pth),y])= .ok (.lst (ps.map pth)):=rfl
theorem X9 (t:T):zf (b_t c (en0 3 [t]))=zf (match (tru (.bl (isT "tuple" t))).s λk=>if k=true then ZK (zX (ap1 zT (vB 0))) (zq 2) (X8 c) [.vl t,.ow [.tup []],.un] else nxS [.vl t,.ow [.tup []],.un] with | .nx ρ=>zl (vE 1) ρ | r=>r):=by
 rw[b_t,zx];rfl
theorem Ya (xs:List T)(hs:j8 xs+1<=lim)(H:∀x∈xs,Y9 c x):Y9 (λts=>zf (b_t c (en0 3 ts))) (.tup xs):=by
 have hb:=Ue;have hm:=Kk;have H:∀x∈xs,∃ps:List _,c [x]= .ok _/\ps.length<=siz x/\∀p∈ps,∃u,WM x p=some u:=λx hx=>by
  obtain⟨ps,r1,r2,r3,r4⟩:=H x hx;exact⟨ps,r1,r3,r4⟩
 have hlen:=JA xs;obtain⟨acc,y,r1,r2,r3,r4⟩:=y9 H _ (λj hj=>aZ.mp hj) [[]] .un (λp hp=>by
  rw[aG.mp hp];exact⟨_,rfl⟩) (by rw[Uc,aB];omega)
 rw[Uc,aB]at r3;rw[aB]at r2;refine⟨acc, ?_,by omega,by simp only[siz];omega,r4⟩
 have ef:ZK (zX (ap1 zT (vB 0))) (zq 2) (X8 c) [.vl (.tup xs),.ow [.tup []],.un]= .nx [.vl (.tup xs),.ow (acc.map pth),y]:=by
  unfold ZK;rw[z0G (by omega)]
  exact r1
 dsimp only;rw[X9,ef];exact Qj _ acc y
theorem Yb (t:T)(ht:∀xs,t ≠ .tup xs):Y9 (λts=>zf (b_t c (en0 3 ts))) t:=by
 have e:isT "tuple" t=false:=by
  cases t with
  | tup xs=>exact(ht xs rfl).elim
  | _=>rfl
 refine⟨[[]], ?_,by decide,Ud t,λp hp=> ?_⟩
 ·dsimp only;rw[X9,e,Zo,Za];exact Qj t [[]] .un
 rw[aG.mp hp];exact⟨t,by cases t <;> rfl⟩
theorem Uf {c:List T->R T}(t:T)(hs:siz t<=lim)(H:∀xs,t= .tup xs->∀x∈xs,Y9 c x):Y9 (λts=>zf (b_t c (en0 3 ts))) t:=by
 by_cases ht:∃xs,t= .tup xs
 ·obtain⟨xs,rfl⟩:=ht;exact Ya xs hs (H xs rfl)
 ·exact Yb t λxs z=>ht ⟨xs,z⟩
theorem Qk (n:Nat):∀(t:T),dep t<=n->siz t<=lim->Y9 (S_t n 0) t:=by
 induction n with
 | zero=>intro t h;cases t <;> simp[dep]at h
 | succ n ih=>
  intro t h hs;exact Uf t hs λxs e x hx=>by
   subst e;simp only[dep,siz]at h hs;have a:=Qi hx;have b:=Wo hx;exact ih x (by omega) (by omega)
theorem Xa {xs:List T}{j:Nat}{x:T}(h:xs[j]? =some x):ixT (.tup xs) (.int (j:Int))= .ok x:=by
 show atT xs j=_;unfold atT;rw[Zw h]
theorem wd {r:List Nat}(h:WM (.tup xs) (i :: r)=some u):∃x,xs[i]? =some x/\WM x r=some u:=by
 have h:(match xs[i]? with | some x=>WM x r | none=>none)=some u:=h
 cases hx:xs[i]? with
 | none=>rw[hx]at h;cases h
 | some x=>rw[hx]at h;exact⟨x,rfl,h⟩
theorem Wp {r:List Nat}(h:WM t (i :: r)=some u):∃xs,t= .tup xs:=by
 cases t with
 | tup xs=>exact⟨xs,rfl⟩
 | _=>cases h
theorem VQ (t:T):WM t []=some t:=by cases t <;> rfl
theorem Ql {X:Sl}:∀(p:List Nat) (t u:T) (y:Sl),WM t p=some u->∃y',Zn (zq 2) (zp 0 (zb ixT (vE 0) (vE 2))) (p.map λ(i:Nat)=>T.int (i:Int)) [.vl t,X,y]= .nx [.vl u,X,y']
 | [],t,u,y,h=>by
  cases h;exact⟨y,rfl⟩
 | i :: r,t,u,y,h=>by
  obtain⟨xs,rfl⟩:=Wp h;obtain⟨x,hx,hr⟩:=wd h;obtain⟨y',e⟩:=Ql r x u _ hr;refine⟨y', ?_⟩;have e1:Zn (zq 2) (zp 0 (zb ixT (vE 0) (vE 2))) ((i :: r).map λ(i:Nat)=>T.int (i)) [.vl (.tup xs),X,y]=match zp 0 _ [.vl _,X,.vl _] with
   | .nx ρ2=>Zn _ _ (r.map λ(j:Nat)=>T.int (j)) ρ2
   | .ct ρ2=>Zn _ _ (r.map λ(j:Nat)=>T.int (j)) ρ2
   | .bk ρ2=> .nx ρ2
   | r=>r:=rfl
  rw[e1,Zt,ze,v0,bOk,v2,bOk,Xa hx];exact e
theorem z3G {p:List Nat}(h:WM t p=some u):gu [t,pth p]= .ok u:=by
 obtain⟨y',e⟩:=Ql p t u .un h;have e0:gu [t,pth p]=zf (z21 [.vl t,.vl _,.un]):=rfl;have ef:ZK (Zb (vE 1)) _ _ [.vl t,.vl (pth p),.un]= .nx _:=e;rw[e0,z21,zx,ef];rfl
noncomputable def Ug:T->List Nat->T->T
 | _,[],v=>v
 | .tup xs,i :: r,v=>match xs[i]? with
  | some x=> .tup (xs.take i++[Ug x r v]++xs.drop (i+1))
  | none=> .tup xs
 | t,_ :: _,_=>t
theorem Qm {xs:List T}{i:Nat}(h:i < xs.length):slT (.tup xs) none (some (i:Int))= .ok (.tup (xs.take i)):=by
 show R.ok _=_;have:cut xs none (some (i))=xs.take i:=by
  unfold cut;rw[HT.sIx_none,HT.sIx_nat,cY (by omega),iA,d7]
 rw[this]
theorem Qn {xs:List T}{i:Nat}(h:i<=xs.length):slT (.tup xs) (some (i:Int)) none= .ok (.tup (xs.drop i)):=by
 show R.ok _=_;have:cut xs (some (i)) none=xs.drop i:=by
  unfold cut;rw[HT.sIx_none,HT.sIx_nat,cY h];exact dI (by rw[cq];omega)
 rw[this]
theorem VR {xs:List T}{i j:Nat}(hi:i<=xs.length)(hj:j<=xs.length):slT (.tup xs) (some (i:Int)) (some (j:Int))= .ok (.tup ((xs.drop i).take (j - i))):=by
 show R.ok _=_;have:cut xs (some (i)) (some (j))=(xs.drop i).take (j - i):=by
  unfold cut;rw[HT.sIx_nat,HT.sIx_nat,cY hi,cY hj]
 rw[this]
theorem wT (h:xs.length+ys.length<=bnd):zn (.tup xs) (.tup ys)= .ok (.tup (xs++ys)):=if_pos h
theorem Jo (h:f ρ= .ok (.int i)):zU f ρ= .ok (some i):=by
 unfold zU;rw[h];rfl
theorem VS {c:List T->R T}{xs:List T}{i:Nat}{r:List Nat}{v x w:T}(hx:xs[i]? =some x)(hl:xs.length<=lim)(hc:c [x,pth r,v]= .ok w):
  zf (b_9 c (en0 4 [.tup xs,pth (i :: r),v]))= .ok (.tup (xs.take i++[w]++xs.drop (i+1))):=by
 have hi:=(au.mp hx).1;have hb:=Ue;have e:zf (b_9 c (en0 4 [.tup xs,pth (i :: r),v]))=zf (b_9 c [.vl _,.vl _,.vl v,.un]):=rfl;have e1:zm eqC (vB 1) (zG zd) [.vl (.tup xs),.vl (pth (i :: r)),.vl v,.un]= .ok _:=rfl;have e2:zp 3 (zb ixT (vE 1) (cE (.int 0))) [.vl (.tup xs),.vl (pth (i :: r)),.vl v,.un]= .nx [.vl (.tup xs),.vl (pth (i :: r)),.vl v,.vl (.int (i))]:=by
  rw[Zt,ze,v1,bOk,zI,bOk,show ixT (pth (i :: r)) _= .ok _ from at0];rfl
 rw[e,b_9,zx,Zm,e1,Za,if_neg ay];unfold nxS;dsimp only;rw[zx,e2];dsimp only;rw[zN,Zs,Zs,Zs,Zs,ZU,ZA];have ep:slE (vE 1) (zU (cE (.int 1))) noO [.vl (.tup xs),.vl (pth (i :: r)),.vl v,.vl (.int (i))]= .ok (pth r):=by
  exact cut1
 have ec:za 3 c (z9 (zb ixT (vE 0) (vE 3)) (z9 (slE (vE 1) (zU (cE (.int 1))) (noO)) (z9 (vE 2) (zd)))) [.vl (.tup xs),.vl (pth (i :: r)),.vl v,.vl (.int (i))]= .ok w:=by
  rw[zV,ze,v0,bOk,v3,bOk,Xa hx,bOk,ep,bOk,v2,bOk,hc]
 have ea:zn (.int (i)) (.int 1)= .ok (.int ((i+1:Nat))):=by
  rfl
 have eb:zb zn (vE 3) (cE (.int 1)) [.vl (.tup xs),.vl (pth (i :: r)),.vl v,.vl (.int (i))]= .ok (.int ((i+1:Nat))):=by
  rw[ze,v3,bOk,zI,bOk,ea]
 rw[ze,ze,uu,v0,bOk,Ki,bOk,Jo v3,bOk,Qm hi,bOk,tup1 ec,bOk,wT (by rw[bL,aB];omega),bOk,uu,v0,bOk,Jo eb,bOk,Ki,bOk,Qn (by omega)]
 exact wT (by rw[ax,bL,aB,cq];omega)
theorem z0H (n:Nat):∀(p:List Nat) (t u v:T),p.length < n->siz t<=lim->WM t p=some u->S_9 n 0 [t,pth p,v]= .ok (Ug t p v):=by
 induction n with
 | zero=>omega
 | succ n ih=>
  intro p t u v h hs hg;cases p with
  | nil=>
   rfl
  | cons i r=>
   obtain⟨xs,rfl⟩:=Wp hg;obtain⟨x,hx,hr⟩:=wd hg;simp only[siz]at hs;have hl:=JA xs;have hz:=Wo (cB hx);rw[ai]at h;have hc:=ih r x u v (by omega) (by omega) hr
   have:=VS hx (by omega) hc
   have e:Ug (.tup xs) (i :: r) v= .tup (xs.take i++[Ug x r v]++xs.drop (i+1)):=by
    show (match xs[i]? with | some x=>T.tup _ | none=> .tup xs)=_
    rw[hx]
   rw[e];exact this
theorem jt:∀(xs ys:List T),j8 (xs++ys)=j8 xs+j8 ys
 | [],ys=>by simp[j8]
 | x :: xs,ys=>by simp only[cu,j8,jt xs ys];omega
theorem ju:∀(xs ys:List T),jA (xs++ys)=max (jA xs) (jA ys)
 | [],ys=>by simp[jA]
 | x :: xs,ys=>by simp only[cu,jA,ju xs ys];omega
theorem jv:∀{xs ys:List T},jB (xs++ys)↔jB xs/\jB ys
 | [],ys=>by simp[jB]
 | x :: xs,ys=>by simp only[cu,jB,jv (xs:=xs) (ys:=ys),and_assoc]
theorem VT (h:xs[i]? =some x):xs=xs.take i++([x]++xs.drop (i+1)):=by
 obtain⟨hi,rfl⟩:=au.mp h;rw[List.singleton_append,← cy,List.take_append_drop]
theorem we {xs:List T}{i:Nat}{x:T}(h:xs[i]? =some x):(jB xs->jB (xs.take i)/\sOk x/\jB (xs.drop (i+1)))/\jA (xs.take i)<=jA xs/\dep x<=jA xs/\jA (xs.drop (i+1))<=jA xs/\j8 (xs.take i)+siz x+j8 (xs.drop (i+1))=j8 xs:=by
 have e:=VT h;have e1:jB xs↔jB (xs.take i)/\jB [x]/\jB (xs.drop (i+1)):=by
  conv=>lhs;rw[e,jv,jv]
 have e2:jA xs=max (jA (xs.take i)) (max (jA [x]) (jA (xs.drop (i+1)))):=by
  conv=>lhs;rw[e,ju,ju]
 have e3:j8 xs=j8 (xs.take i)+(j8 [x]+j8 (xs.drop (i+1))):=by
  conv=>lhs;rw[e,jt,jt]
 simp only[jA,j8,Nat.add_zero,Nat.max_zero]at e2 e3;refine⟨λq=> ?_,by omega,by omega,by omega,by omega⟩
 have:=e1.mp q;simp only[jB,and_true]at this;exact this
theorem Qo:∀(p:List Nat) (t v:T),sOk t->sOk v->sOk (Ug t p v)/\dep (Ug t p v)<=dep t+dep v/\siz (Ug t p v)<=siz t+siz v
 | [],t,v,ht,hv=>by
  have:Ug t [] v=v:=by cases t <;> rfl
  rw[this];exact⟨hv,by omega,by omega⟩
 | i :: r,t,v,ht,hv=>by
  by_cases hx:∃xs x,t= .tup xs/\xs[i]? =some x
  ·obtain⟨xs,x,rfl,hx⟩:=hx;have e:Ug (.tup xs) (i :: r) v= .tup (xs.take i++[Ug x r v]++xs.drop (i+1)):=by
    show (match xs[i]? with | some x=>T.tup (xs.take i++[Ug x r v]++xs.drop (i+1)) | none=> .tup xs)=_
    rw[hx]
   obtain⟨q1,q2,q3,q4,q5⟩:=we hx;obtain⟨s1,s2,s3⟩:=q1 (ZI ht);obtain⟨i1,i2,i3⟩:=Qo r x v s2 hv;rw[e];refine⟨?_, ?_, ?_⟩
   ·simp only[sOk,jv,jB,and_true];exact⟨⟨s1,i1⟩,s3⟩
   ·simp only[dep,ju,jA,Nat.max_zero];omega
   ·simp only[siz,jt,j8,Nat.add_zero];omega
  ·have:Ug t (i :: r) v=t:=by
    cases t with
    | tup xs=>
     show (match xs[i]? with | some x=>T.tup (xs.take i++[Ug x r v]++xs.drop (i+1)) | none=> .tup xs)=_
     cases hi:xs[i]? with
     | none=>rfl
     | some x=>exact(hx ⟨xs,x,rfl,hi⟩).elim
    | _=>rfl
   rw[this];exact⟨ht,by omega,by omega⟩
theorem Qp:∀(p:List Nat) (t u:T),WM t p=some u->(sOk t->sOk u)/\dep u+p.length<=dep t/\siz u<=siz t
 | [],t,u,h=>by
  rw[VQ]at h;cases h;exact⟨id,am _,am _⟩
 | i :: r,t,u,h=>by
  obtain⟨xs,rfl⟩:=Wp h;obtain⟨x,hx,hr⟩:=wd h;obtain⟨q1,q2,q3,q4,q5⟩:=we hx;obtain⟨i1,i2,i3⟩:=Qp r x u hr;refine⟨λq=>i1 (q1 (ZI q)).2.1, ?_, ?_⟩
  ·simp only[dep,ai];omega
  ·simp only[siz];omega
theorem Kl (t:T):1<=dep t:=by cases t <;> simp[dep]
theorem Km {xs:List T}{j:Nat}{x:T}(h:xs[j]? =some x):ixT (.lst xs) (.int (j:Int))= .ok x:=by
 show atT xs j=_;unfold atT;rw[Zw h]
theorem ixl {xs:List T}{i:Int}(h0:0<=i)(h1:i < (xs.length:Int)):∃x,ixT (.lst xs) (.int i)= .ok x/\x∈xs:=by
 have hj:i.toNat < xs.length:=by omega
 have e:i=((i.toNat:Nat):Int):=by omega
 have q:=Km (ah hj);rw[← e]at q;exact⟨xs[i.toNat],q,iU hj⟩
noncomputable def wf (u:T):List T:=[.int 0,.int 1,.int (-21),.int 21,.int 3,.int 4,.bl true,.non,.str "a",.str "abcd",.str "A",.str "",.str "many",.str "row",.tup [],.tup [u],.lst [u],.tup [.str "whole",.int 1,.int 0]]
theorem Yc (h:Fit D S u):∀v∈wf u,Fit (D+2) (2*S+4) v:=by
 obtain⟨h1,h2,h3⟩:=h;have hl:∀n:Nat,n<=10->n<=bnd:=λn h=>ao h (by decide)
 intro v hv;unfold wf at hv;simp only[ak,bh,or_false]at hv;rcases hv with rfl | rfl | rfl | rfl | rfl | rfl | rfl | rfl | rfl | rfl | rfl | rfl | rfl | rfl | rfl | rfl | rfl | rfl
 all_goals first
  | exact⟨by simp only[sOk,jB,and_true];first | decide | exact h1,by simp only[dep,jA];omega,by simp only[siz,j8];omega⟩
  | exact⟨by simp only[sOk,jB],by simp only[dep,jA];omega,by simp only[siz,j8];omega⟩
  | exact⟨hl _ (by decide),by simp only[dep,jA];omega,by simp only[siz,j8];omega⟩
theorem Wq {a b t d p e g h i:T}{j:Sl}{f:En->R T}{v w:T}(hj:wK j=j)(hf:f [.vl a,.vl b,.vl t,.vl d,.vl p,.vl e,.vl g,.vl h,j]= .ok v)(hw:f_9 40 [t,p,v]= .ok w):
  zf (zl (za 3 (f_9 40) (z9 (vE 2) (z9 (vE 4) (z9 f zd)))) [.vl a,.vl b,.vl t,.vl d,.vl p,.vl e,.vl g,.vl h,j])= .ok w:=by
 have ez:frz [.vl a,.vl b,.vl t,.vl d,.vl p,.vl e,.vl g,.vl h,j]=[.vl a,.vl b,.vl t,.vl d,.vl p,.vl e,.vl g,.vl h,j]:=by
  show [Sl.vl a,.vl b,.vl t,.vl d,.vl p,.vl e,.vl g,.vl h,wK j]=_;rw[hj]
 rw[zN,ez,ZA,zV,hf];exact hw
abbrev Kn:En->R T:=zb zn (slE (vE 5) (noO) (zU (vE 8))) (slE (vE 5) (zU (zb zn (vE 8) (cE (.int 1)))) (noO))
abbrev Ko:En->R T:=zb zn (zb zn (slE (vE 5) (noO) (zU (vE 8))) (slE (vE 5) (zU (vE 8)) (zU (zb zn (vE 8) (cE (.int 1)))))) (slE (vE 5) (zU (vE 8)) (noO))
abbrev en9 (a:T)(k:Int)(t d p e:T)(g:List T)(w:Int)(j:Sl):En:=[.vl a,.vl (.int k),.vl t,.vl d,.vl p,.vl e,.vl (.lst g),.vl (.int w),j]
theorem uw {xs:List T}{i:Nat}{x:T}(h:xs[i]? =some x):xs.drop i=x :: xs.drop (i+1):=by
 obtain⟨hi,rfl⟩:=au.mp h;exact cy hi
theorem Kp {a t d p:T}{g xs:List T}{k w:Int}{i:Nat}{x:T}(hx:xs[i]? =some x)(hl:xs.length<=lim):
  Kn (en9 a k t d p (.tup xs) g w (.vl (.int (i:Int))))= .ok (.tup (xs.take i++xs.drop (i+1)))/\
  Ko (en9 a k t d p (.tup xs) g w (.vl (.int (i:Int))))= .ok (.tup (xs.take i++[x]++(x :: xs.drop (i+1)))):=by
 have hi:=(au.mp hx).1;have hb:=Ue;have e5:vE 5 (en9 a k t d p (.tup xs) g w (.vl (.int (i))))= .ok _:=rfl;have e8:vE 8 (en9 a k t d p (.tup xs) g w (.vl (.int (i))))= .ok _:=rfl;have ea:zn (.int (i)) (.int 1)= .ok (.int ((i+1:Nat))):=by
  rfl
 have eb:zb zn (vE 8) (cE (.int 1)) (en9 a k t d p (.tup xs) g w (.vl (.int (i))))= .ok (.int ((i+1:Nat))):=by
  rw[ze,e8,bOk,zI,bOk,ea]
 have em:(xs.drop i).take (i+1 - i)=[x]:=by
  rw[uw hx,show i+1 - i=1 from by omega];rfl
 constructor
 ·unfold Kn;rw[ze,uu,e5,bOk,Ki,bOk,Jo e8,bOk,Qm hi,bOk,uu,e5,bOk,Jo eb,bOk,Ki,bOk,Qn (by omega)]
  exact wT (by rw[bL,cq];omega)
 ·unfold Ko;rw[ze,ze,uu,e5,bOk,Ki,bOk,Jo e8,bOk,Qm hi,bOk,uu,e5,bOk,Jo e8,bOk,Jo eb,bOk,VR (by omega) (by omega),bOk,em,wT (by rw[bL,aB];omega),bOk,uu,e5,bOk,Jo e8,bOk,Ki,bOk,Qn (by omega),← uw hx]
  exact wT (by rw[ax,bL,aB,cq];omega)
theorem Kq {D S:Nat}{xs:List T}{i:Nat}{x:T}(hx:xs[i]? =some x)(h:Fit D S (.tup xs)):Fit (D+2) (2*S+4) (.tup (xs.take i++xs.drop (i+1)))/\Fit (D+2) (2*S+4) (.tup (xs.take i++[x]++(x :: xs.drop (i+1)))):=by
 obtain⟨h1,h2,h3⟩:=h;obtain⟨q1,q2,q3,q4,q5⟩:=we hx;obtain⟨s1,s2,s3⟩:=q1 (ZI h1);simp only[dep,siz]at h2 h3;refine⟨⟨?_, ?_, ?_⟩,⟨?_, ?_, ?_⟩⟩
 ·simp only[sOk,jv];exact⟨s1,s3⟩
 ·simp only[dep,ju];omega
 ·simp only[siz,jt];omega
 ·simp only[sOk,jv,jB,and_true];exact⟨⟨s1,s2⟩,s2,s3⟩
 ·simp only[dep,ju,jA];omega
 ·simp only[siz,jt,j8];omega
abbrev wD (cp:List T->R T)(cput:List T->R T):En->RS:=
  (zh (ifS (wy (Z9 (ap1 (ZQ "tuple") (vB 5))) (zm neC (vB 5) (zG (zd)))) (zh (zp 8 (za 3 cp (z9 (vE 0) (z9 (zb zn (vE 1) (cE (.int 2))) (z9 (ap1 zT (vB 5)) (zd))))))
  (zl (za 3 cput (z9 (vE 2) (z9 (vE 4) (z9 (zb ixT (Ze (z9 Kn (z9 Ko (zd)))) (zb j2 (vE 7) (cE (.int 2)))) (zd))))))) (nxS))
  (zh (ifS (Z9 (ap1 (ZQ "int") (vB 5))) (zl (za 3 cput (z9 (vE 2) (z9 (vE 4) (z9 (zb jg (zb zn (vE 5) (cE (.int 1))) (zb Z0 (cE (.int 2)) (zb j2 (vE 7) (cE (.int 2))))) (zd)))))) (nxS))
  (zl (za 3 cput (z9 (vE 2) (z9 (vE 4) (z9 (zG (z9 (cE (.str "row")) (z9 (zG (z9 (vE 5) (z9 (vE 5) (zd)))) (zd)))) (zd))))))))
theorem lst2 {f g:En->R T}{ρ:En}{x y:T}(hf:f ρ= .ok x)(hg:g ρ= .ok y):Ze (z9 f (z9 g zd)) ρ= .ok (.lst [x,y]):=by
 unfold Ze z9 zd;rw[hf,hg];rfl
theorem VU (ns:List Int){t d p:T}{g xs:List T}{k w:Int}(h0:0<=k){D S:Nat}(hl:S<=lim)(hF:Fit D S (.tup xs))(hne:xs ≠ [])(H:∀v,Fit (D+2) (2*S+4) v->∃r,f_9 40 [t,p,v]= .ok r):
  ∃v r,Fit (D+2) (2*S+4) v/\f_9 40 [t,p,v]= .ok r/\zf (wD f_2 (f_9 40) (en9 (scr ns) k t d p (.tup xs) g w .un))= .ok r:=by
 have hxl:=JA xs;have hz:=hF.sz;simp only[siz]at hz;have hpos:0 < xs.length:=List.length_pos_iff.mpr hne;obtain⟨q,hq,q0,q1⟩:=zK ns (k+2) (xs.length:Int) (by omega) (by omega)
 have hqi:q=((q.toNat:Nat)):=by omega
 have hqx:xs[q.toNat]? =some (xs[q.toNat]'(by omega)):=ah (by omega)
 generalize xs[q.toNat]'(by omega)=x at hqx
 generalize q.toNat=i at hqi hqx;subst hqi;obtain⟨c1,c2⟩:=Kp (a:=scr ns) (t:=t) (d:=d) (p:=p) (g:=g) (k:=k) (w:=w) hqx (by omega)
 obtain⟨f1,f2⟩:=Kq hqx hF;have ec:wy (Z9 (ap1 (ZQ "tuple") (vB 5))) (zm neC (vB 5) (zG (zd))) (en9 (scr ns) k t d p (.tup xs) g w .un)= .ok true:=by
  cases xs with
  | nil=>exact(hne rfl).elim
  | cons _ _=>rfl
 have es:zp 8 (za 3 f_2 (z9 (vE 0) (z9 (zb zn (vE 1) (cE (.int 2))) (z9 (ap1 zT (vB 5)) (zd))))) (en9 (scr ns) k t d p (.tup xs) g w .un)= .nx (en9 (scr ns) k t d p (.tup xs) g w (.vl (.int (i)))):=by
  rw[Zt,zV,v0,bOk,ze,v1,bOk,zI,bOk,zZ,bOk,zY,show vB 5 _= .ok _ from rfl,bOk,ZH,bOk,hq];rfl
 have em:zb j2 (vE 7) (cE (.int 2)) (en9 (scr ns) k t d p (.tup xs) g w (.vl (.int (i:Int))))= .ok _:=rfl;have hm:w % 2=0\/w % 2=1:=by omega
 have go:∀v,zb ixT _ (zb _ _ _) (en9 (scr ns) k t d p _ g w (.vl (.int _)))= .ok v->Fit (D+2) (2*S+4) v->∃v r,Fit (D+2) (2*S+4) v/\f_9 40 [t,p,v]= .ok r/\zf (wD _ _ (en9 (scr ns) k t d p (.tup xs) g w .un))= .ok r:=λv hv fv=>by
  obtain⟨r,hr⟩:=H v fv;refine⟨v,r,fv,hr, ?_⟩;have e1:=Wq (i:= .non) (j:= .vl _) rfl hv hr;unfold wD;rw[zx,Zm,ec,Za,if_pos rfl,zx,es];dsimp only;rw[zN]at e1 ⊢;rw[ZA]at e1;rw[e1];rfl
 rcases hm with hm | hm
 ·exact go _ (by rw[ze,lst2 c1 c2,bOk,em,hm];rfl) f1
 ·exact go _ (by rw[ze,lst2 c1 c2,em,hm];rfl) f2
abbrev intE:En->R T:=zb jg (zb zn (vE 5) (cE (.int 1))) (zb Z0 (cE (.int 2)) (zb j2 (vE 7) (cE (.int 2))))
abbrev rowE:En->R T:=zG (z9 (cE (.str "row")) (z9 (zG (z9 (vE 5) (z9 (vE 5) (zd)))) (zd)))
theorem Qq (i:Int):Fit (D+2) (2*S+4) (.int i):=⟨by simp only[sOk],by simp only[dep];omega,by simp only[siz];omega⟩
theorem Qr (h:Fit D S u):Fit (D+2) (2*S+4) (.tup [.str "row",.tup [u,u]]):=by
 obtain⟨h1,h2,h3⟩:=h;refine⟨?_, ?_, ?_⟩
 ·simp only[sOk,jB,and_true];exact⟨by decide,h1,h1⟩
 ·simp only[dep,jA];omega
 ·simp only[siz,j8];omega
theorem VV (ht:wy (Z9 (ap1 (ZQ "tuple") (vB 5))) (zm neC (vB 5) (zG (zd))) (en9 a k t d p u g w .un)= .ok false)(hi:isT "int" u=false)
  (hr:f_9 40 [t,p,.tup [.str "row",.tup [u,u]]]= .ok r):zf (wD cp (f_9 40) (en9 a k t d p u g w .un))= .ok r:=by
 have e1:=Wq (f:=rowE) (a:=a) (b:= .int k) (d:=d) (g:= .lst g) (h:= .int w) (i:= .non) (j:= .un) rfl (WL zI (WL rfl rfl)) hr;have ei:Z9 (ap1 (ZQ "int") (vB 5)) (en9 a k t d p u g w .un)= .ok false:=by
  show tru (.bl _)=_;rw[hi];rfl
 unfold wD;rw[zx,Zm,ht,Za,if_neg ay];unfold nxS;dsimp only;rw[zx,Zm,ei,Za];exact e1
theorem VW (ht:isT "tuple" u=false)(hi:isT "int" u=true)(ha:zn u (.int 1)= .ok (.int i))
  (hr:f_9 40 [t,p,.int (i - 2*(w % 2))]= .ok r):zf (wD cp (f_9 40) (en9 a k t d p u g w .un))= .ok r:=by
 have e0:intE (en9 a k t d p u g w .un)= .ok (.int (i - 2*(w % 2))):=by
  show ((zn u _).bind λx=>(Z0 (.int 2) (.int _)).bind λy=>jg x y)=_;rw[ha];rfl
 have e1:=Wq (i:= .non) rfl e0 hr;have et:wy (Z9 (ap1 (ZQ "tuple") (vB 5))) (zm neC (vB 5) (zG (zd))) (en9 a k t d p u g w .un)= .ok false:=by
  show (tru (.bl _)).bind (λx=>if x=true then _ else R.ok _)=_
  rw[ht];rfl
 have ei:Z9 (ap1 (ZQ "int") (vB 5)) (en9 a k t d p u g w .un)= .ok true:=by
  show tru (.bl _)=_;rw[hi];rfl
 unfold wD;rw[zx,Zm,et,Za,if_neg ay];unfold nxS;dsimp only;rw[zx,Zm,ei,Za];rw[zN]at e1 ⊢;rw[ZA]at e1;rw[e1];rfl
theorem Kr (ns:List Int)(h0:0<=k)(hl:S<=lim)(hF:Fit D S u)(H:∀v,Fit (D+2) (2*S+4) v->∃r,f_9 40 [t,p,v]= .ok r):
  ∃v r,Fit (D+2) (2*S+4) v/\f_9 40 [t,p,v]= .ok r/\zf (wD f_2 (f_9 40) (en9 (scr ns) k t d p u g w .un))= .ok r:=by
 have row:wy _ _ (en9 (scr ns) k t d p u g w .un)= .ok _->isT _ u=false->∃v r,Fit _ _ v/\f_9 40 [t,p,v]= .ok r/\zf (wD f_2 _ _)= .ok r:=λe1 e2=>by
  obtain⟨r,hr⟩:=H _ (Qr hF);exact⟨_,r,Qr hF,hr,VV e1 e2 hr⟩
 have num:∀i,isT _ u=false->isT _ u=true->zn u _= .ok (.int i)->∃v r,Fit (D+2) (2*S+4) v/\f_9 40 [t,p,v]= .ok r/\zf (wD f_2 _ (en9 (scr ns) k t d p u g w .un))= .ok r:=λi e1 e2 e3=>by
  obtain⟨r,hr⟩:=H _ (Qq _);exact⟨_,r,Qq _,hr,VW e1 e2 e3 hr⟩
 cases u with
 | tup xs=>
  by_cases hx:xs=[]
  ·subst hx;exact row rfl rfl
  ·exact VU ns h0 hl hF hx H
 | int i=>exact num _ rfl rfl rfl
 | bl b=>exact num _ rfl rfl rfl
 | non=>exact row rfl rfl
 | str x=>exact row rfl rfl
 | lst x=>exact row rfl rfl
 | fz x=>exact row rfl rfl
theorem Qs (ns:List Int)(k:Int)(h0:0<=k)(hD:D<=40)(hS:S<=lim)(hF:Fit D S t):
  ∃r,gv [scr ns,.int k,t]= .ok r/\Fit (2*D+2) (3*S+4) r:=by
 obtain⟨ht,hd,hs⟩:=hF;have hs' :=ao hs hS;obtain⟨ps,hp,hp0,hpl,hpv⟩:=Qk 40 t (ao hd hD) hs';have hp:f_t 40 [t]= .ok (.lst (ps.map pth)):=hp;obtain⟨q,hq,q0,q1⟩:=zK ns k (ps.length:Int) h0 (by omega)
 obtain⟨x,ex,hx⟩:=ixl (xs:=ps.map pth) q0 (by rw[aa];exact q1)
 obtain⟨p,hpm,rfl⟩:=az.mp hx;obtain⟨u,hu⟩:=hpv p hpm;obtain⟨g1,g2,g3⟩:=Qp p t u hu;have hdu:=Kl u;have hUF:Fit D S u:=⟨g1 ht,by omega,by omega⟩
 have hput:∀v,f_9 40 [t,pth p,v]= .ok (Ug t p v):=λv=>z0H 40 p t u v (by omega) hs' hu
 have fin:∀v,Fit (D+2) (2*S+4) v->Fit (2*D+2) (3*S+4) (Ug t p v):=λv hv=>by
  obtain⟨a,b,c⟩:=Qo p t v ht hv.so;have:=hv.dp;have:=hv.sz;exact⟨a,by omega,by omega⟩
 obtain⟨w,hw,w0',w1⟩:=zK ns (k+1) 23 (by omega) (by omega)
 have e:gv [scr ns,.int k,t]=zf (z22 f_2 (f_t 40) gu (f_9 40) [.vl (scr ns),.vl (.int k),.vl t,.un,.un,.un,.un,.un,.un]):=rfl;have e1:zp 3 (za 1 (f_t 40) (z9 (vE 2) (zd))) [.vl (scr ns),.vl (.int k),.vl t,.un,.un,.un,.un,.un,.un]= .nx [.vl (scr ns),.vl (.int k),.vl t,.vl (.lst (ps.map pth)),.un,.un,.un,.un,.un]:=by
  rw[Zt,zH,v2,bOk,hp,Za];rfl
 have e2:zp 4 (zb ixT (vE 3) (za 3 f_2 (z9 (vE 0) (z9 (vE 1) (z9 (ap1 zT (vB 3)) (zd)))))) [.vl (scr ns),.vl (.int k),.vl t,.vl (.lst (ps.map pth)),.un,.un,.un,.un,.un]= .nx [.vl (scr ns),.vl (.int k),.vl t,.vl (.lst (ps.map pth)),.vl (pth p),.un,.un,.un,.un]:=by
  rw[Zt,ze,v3,bOk,zV,v0,bOk,v1,bOk,zY,w3,bOk,VL,bOk,aa,hq,bOk,ex,Za];rfl
 have e3:zp 5 (za 2 gu (z9 (vE 2) (z9 (vE 4) (zd)))) [.vl (scr ns),.vl (.int k),.vl t,.vl (.lst (ps.map pth)),.vl (pth p),.un,.un,.un,.un]= .nx [.vl (scr ns),.vl (.int k),.vl t,.vl (.lst (ps.map pth)),.vl (pth p),.vl u,.un,.un,.un]:=by
  rw[Zt,zu,v2,bOk,v4,bOk,z3G hu,Za];rfl
 rw[e,z22,zx,e1];dsimp only;rw[zx,e2];dsimp only;rw[zx,e3];dsimp only;rw[zx];have e4:zp 6 (Ze (z9 (cE (.int 0)) (z9 (cE (.int 1)) (z9 (Ym (cE (.int 21))) (z9 (cE (.int 21)) (z9 (cE (.int 3)) (z9 (cE (.int 4)) (z9 (cE (.bl true)) (z9 (cE .non) (z9 (cE (.str "a")) (z9 (cE (.str "abcd")) (z9 (cE (.str "A")) (z9 (cE (.str "")) (z9 (cE (.str "many")) (z9 (cE (.str "row")) (z9 (zG (zd)) (z9 (zG (z9 (vE 5) (zd))) (z9 (Ze (z9 (vE 5) (zd))) (z9 (zG (z9 (cE (.str "whole")) (z9 (cE (.int 1)) (z9 (cE (.int 0)) (zd))))) (zd)))))))))))))))))))) [.vl (scr ns),.vl (.int k),.vl t,.vl (.lst (ps.map pth)),.vl (pth p),.vl u,.un,.un,.un]= .nx [.vl _,.vl _,.vl t,.vl (.lst _),.vl _,.vl u,.vl (.lst (wf u)),.un,.un]:=rfl;rw[e4];dsimp only;have e5:zp 7 (za 3 f_2 (z9 (vE 0) (z9 (zb zn (vE 1) (cE (.int 1))) (z9 (zb zn (ap1 zT (vB 6)) (cE (.int 5))) (zd))))) [.vl (scr ns),.vl (.int k),.vl t,.vl (.lst (ps.map pth)),.vl (pth p),.vl u,.vl (.lst (wf u)),.un,.un]= .nx (en9 (scr ns) k t (.lst (ps.map pth)) (pth p) u (wf u) w .un):=by
  rw[Zt,zV,v0,bOk,ze,v1,bOk,zI,bOk,zZ,bOk];rw[show zb _ _ _ _= .ok (.int 23) from rfl,bOk,hw];rfl
 rw[zx,e5];dsimp only;rw[zx,Zm];have e6:zm ltC (vB 7) (ap1 zT (vB 6)) (en9 (scr ns) k t (.lst (ps.map pth)) (pth p) u (wf u) w .un)= .ok (decide (w < 18)):=rfl;rw[e6]
 by_cases h18:w < 18
 ·rw[decide_eq_true h18];obtain⟨v,ev,hv⟩:=ixl (xs:=wf u) w0' (by exact h18)
  have hfv:=Yc hUF v hv;have er:=Wq (f:=zb ixT (vE 6) (vE 7)) (a:=scr ns) (b:= .int k) (d:= .lst (ps.map pth)) (e:=u) (i:= .non) (j:= .un) rfl (show ixT _ _= .ok v from ev) (hput v);refine⟨_, ?_,fin v hfv⟩;rw[zN]at er ⊢;rw[ZA]at er;rw[er];rfl
 ·rw[decide_eq_false h18];obtain⟨v,r,hfv,hr,et⟩:=Kr ns h0 hS hUF λv _=>⟨_,hput v⟩;rw[hput v]at hr;cases hr;exact⟨_,et,fin v hfv⟩
theorem wU (ρ:En):nxS ρ= .nx ρ:=rfl
inductive Kd where
 | whole (lo hi:Int)
 | pick (cs:List (Str×Int))
 | row (ks:List Kd)
 | many (k:Kd) (lo hi:Nat)
noncomputable def Jt (c:Str×Int):T:= .tup [.str c.1,.int c.2]
mutual
noncomputable def Kd.t:Kd->T
 | .whole lo hi=> .tup [.str "whole",.int lo,.int hi]
 | .pick cs=> .tup [.str "pick",.tup (cs.map Jt)]
 | .row ks=> .tup [.str "row",.tup (Kd.ts ks)]
 | .many k lo hi=> .tup [.str "many",k.t,.int (lo:Int),.int (hi:Int)]
noncomputable def Kd.ts:List Kd->List T
 | []=>[]
 | k :: ks=>k.t :: Kd.ts ks
end
theorem Kd.ts_map:∀ks:List Kd,Kd.ts ks=ks.map Kd.t
 | []=>by simp only[Kd.ts,bO]
 | k :: ks=>by simp only[Kd.ts,av,Kd.ts_map ks]
def Kd.Ok:Nat->Kd->Prop
 | 0,_=>False
 | _+1,.whole lo hi=> -20<=lo/\lo<=hi/\hi<=20
 | _+1,.pick cs=>1<=cs.length/\cs.length<=4/\(∀c∈cs,zM (.str c.1)=true/\1<=c.2/\c.2<=20)/\Dst (cs.map (·.1))
 | d+1,.row ks=>1<=ks.length/\ks.length<=3/\∀k∈ks,Kd.Ok d k
 | d+1,.many k lo hi=>lo<=hi/\hi<=3/\Kd.Ok d k
theorem Qt (h:zr c=true):∃p:Str×Int,c=Jt p/\zM (.str p.1)=true/\1<=p.2/\p.2<=20:=by
 unfold zr at h;split at h
 ·rename_i w i;rw[ac,ac,decide_eq_true_eq,decide_eq_true_eq]at h;cases w with
  | str x=>exact⟨(x,i),rfl,h.1.1,h.1.2,h.2⟩
  | _=>cases h.1.1
 ·cases h
theorem Uh {α:Type}{P:T->Prop}{Q:α->Prop}{f:α->T}(H:∀t,P t->∃a,t=f a/\Q a):∀(ts:List T),(∀t∈ts,P t)->∃as:List α,ts=as.map f/\∀a∈as,Q a
 | [],_=>⟨[],rfl,λ_ h=>nomatch h⟩
 | t :: ts,h=>by
  obtain⟨a,rfl,ha⟩:=H t (h t a9);obtain⟨as,rfl,has⟩:=Uh H ts λu hu=>h u (a8 _ hu);exact⟨a :: as,rfl,λb hb=>by
   rcases ak.mp hb with rfl | hb
   ·exact ha
   ·exact has b hb⟩
theorem Ui:∀(d:Nat) (t:T),isK d t=true->∃k:Kd,t=k.t/\k.Ok d
 | 0,_,h=>by cases h
 | d+1,t,h=>by
  have h:Wl _ t=true:=h;unfold Wl at h;split at h
  ·rename_i hd r;split at h
   ·rename_i e;rw[Jn e];unfold Jm at h;split at h
    ·obtain⟨i,j,rfl,rfl⟩:=Jz h;have h:(decide _ && decide _ && decide _)=true:=h;rw[ac,ac,decide_eq_true_eq,decide_eq_true_eq,decide_eq_true_eq]at h;exact⟨.whole i j,by simp only[Kd.t],h.1.1,h.1.2,h.2⟩
    ·cases h
   ·split at h
    ·rename_i e;rw[Jn e];unfold uo at h;split at h
     ·unfold um at h;split at h
      ·rename_i cs;rw[ac,ac,ac,decide_eq_true_eq,decide_eq_true_eq,decide_eq_true_eq]at h;obtain⟨⟨⟨h1,h2⟩,h3⟩,h4⟩:=h;obtain⟨as,rfl,has⟩:=Uh (λt ht=>Qt ht) cs λc hc=>aJ.mp h3 c hc;rw[aa]at h1 h2;refine⟨.pick as,by simp only[Kd.t],h1,h2,has, ?_⟩
       have e1:(as.map Jt).map Zh=as.map (·.1):=by rw[aM];rfl
       rw[e1]at h4;have:=(wa _ []).mp (by rw[h4,aa];simp)
       exact λk w hw hm=>this k w hw (by simpa using hm)
      ·cases h
     ·cases h
    ·split at h
     ·rename_i e;rw[Jn e];unfold X5 at h;split at h
      ·unfold w4 at h;split at h
       ·rename_i cs;rw[ac,ac,decide_eq_true_eq,decide_eq_true_eq]at h;obtain⟨ks,rfl,hks⟩:=Uh (λt ht=>Ui d t ht) cs λc hc=>aJ.mp h.2 c hc;rw[aa]at h;exact⟨.row ks,by simp only[Kd.t,Kd.ts_map],h.1.1,h.1.2,hks⟩
       ·cases h
      ·cases h
     ·split at h
      ·rename_i e;rw[Jn e];unfold uq at h;split at h
       ·rename_i c a b;rw[ac]at h;obtain⟨h1,h2⟩:=h;obtain⟨i,j,rfl,rfl⟩:=Jz h1;obtain⟨k,rfl,hk⟩:=Ui d c h2;have h1:(decide _ && decide _ && decide _)=true:=h1;rw[ac,ac,decide_eq_true_eq,decide_eq_true_eq,decide_eq_true_eq]at h1;obtain⟨⟨a1,a2⟩,a3⟩:=h1;obtain⟨m,rfl⟩:=c6 a1;obtain⟨n,rfl⟩:=c6 (iz a1 a2);exact⟨.many k m n,by simp only[Kd.t],by omega,by omega,hk⟩
       ·cases h
      ·cases h
  ·cases h
noncomputable def Z2 (made:List (List T)):List (List T)->List (List T)
 | []=>made
 | ls :: r=>Z2 (made.flatMap λa=>ls.map λx=>a++[x]) r
abbrev Yd (ls:List (List T)):List T:=(Z2 [[]] ls).map T.tup
mutual
noncomputable def Kd.all:Kd->List T
 | .whole lo hi=>(aX (hi+1 - lo).toNat).map λ(i:Nat)=>T.int (lo+(i:Int))
 | .pick cs=>cs.map λc=>T.str c.1
 | .row ks=>Yd (Kd.alls ks)
 | .many k lo hi=>(aX (hi+1 - lo)).flatMap λi=>Yd (af (lo+i) k.all)
noncomputable def Kd.alls:List Kd->List (List T)
 | []=>[]
 | k :: ks=>k.all :: Kd.alls ks
end
theorem Kd.alls_map:∀ks:List Kd,Kd.alls ks=ks.map Kd.all
 | []=>by simp only[Kd.alls,bO]
 | k :: ks=>by simp only[Kd.alls,av,Kd.alls_map ks]
noncomputable def prd:List Nat->Nat
 | []=>1
 | n :: r=>n*prd r
theorem wg:∀{ns:List Nat},(∀n∈ns,1<=n)->1<=prd ns
 | [],_=>am _
 | n :: ns,h=>cG (h n a9) (wg λm hm=>h m (a8 _ hm))
theorem JB {α β:Type}(f:α->List β)(n:Nat):∀as:List α,(∀a∈as,(f a).length=n)->(as.flatMap f).length=as.length*n
 | [],_=>by simp
 | a :: as,h=>by
  rw[bp,ax,h a a9,JB f n as λb hb=>h b (a8 _ hb),ai,dz,bU,ip]
theorem wj:∀(ls:List (List T)) (made:List (List T)),(Z2 made ls).length=made.length*prd (ls.map (·.length))
 | [],made=>by simp[Z2,prd]
 | l :: ls,made=>by
  rw[Z2,wj ls,JB _ _ _ λa _=>aa ..,av,prd,d0]
abbrev z26:En->RS:=yT 3 (zz (Zb (vE 2)) (zq 0) (Z3) (zb zn (vE 1) (zG (z9 (vE 0) (zd)))) 1 [4])
theorem ya (hl:l.length<=bnd):∀(as:List (List T)) (acc:List T) (x:Sl),(∀a∈as,a.length<=1000)->acc.length+as.length*l.length<=bnd->
  ∃y,Zn (zq 4) z26 (as.map T.tup) [.vl L,.vl M,.vl (.lst l),.ow acc,x]= .nx [.vl L,.vl M,.vl (.lst l),.ow (acc++(as.flatMap λa=>l.map λx=>a++[x]).map T.tup),y]
 | [],acc,x,_,_=>⟨x,by simp[Zn]⟩
 | a :: as,acc,x,ha,hb=>by
  have ha1:=ha a a9;have hb1:bnd=16777216:=rfl;rw[ai,dz]at hb;have ec:zo _ _ (zb zn (vE 1) (zG (z9 (vE 0) (zd)))) 1 [4] [.vl L,.vl M,.vl (.lst l),.ow acc,.vl (.tup a)] l= .ok (l.map λx=>T.tup _):=
   zL l hl λx hx=>by
    exact wT (by rw[aB];omega)
  have eb:z26 [.vl L,.vl M,.vl (.lst l),.ow acc,.vl (.tup a)]= .nx [.vl L,.vl M,.vl (.lst l),.ow (acc++l.map λx=>T.tup (a++[x])),.vl (.tup a)]:=by
   show (((zo _ _ _ _ _ _ l).bind _).s _)=_;rw[ec,bOk];show (if _ then _ else _)=_
   rw[if_pos (by rw[aa];omega)]
   rfl
  obtain⟨y,ih⟩:=ya hl as (acc++l.map λx=>T.tup _) _ (λb hb=>ha b (a8 _ hb)) (by rw[ax,aa];omega)
  refine⟨y, ?_⟩;have e:Zn (zq 4) _ ((a :: as).map T.tup) [.vl L,.vl M,.vl (.lst l),.ow acc,x]=match z26 [.vl L,.vl M,.vl _,.ow acc,.vl _] with
   | .nx ρ2=>Zn _ _ _ ρ2
   | .ct ρ2=>Zn _ _ _ ρ2
   | .bk ρ2=> .nx ρ2
   | r=>r:=rfl
  rw[e,eb];dsimp only;rw[ih,bp,c9,aM,aU];rfl
abbrev VX:En->RS:=(zh (UI 3 (zd))
  (zh (ZK (Zb (vE 1)) (zq 4) z26)
  (mvS 1 3)))
theorem ux (m:Nat):∀(ls:List (List T)) (made:List (List T)) (k:Nat) (x y z:Sl),(∀a∈made,a.length<=k)->k+ls.length<=1000->(∀l∈ls,1<=l.length)->made.length*prd (ls.map (·.length))<=bnd->1<=made.length->
  ∃x' y' z',Zn (zq 2) VX (ls.map T.lst) [.vl L,.vl (.lst (made.map T.tup)),x,y,z]= .nx [.vl L,.vl (.lst ((Z2 made ls).map T.tup)),x',y',z']
 | [],made,k,x,y,z,_,_,_,_,_=>⟨x,y,z,by simp[Zn,Z2]⟩
 | l :: ls,made,k,x,y,z,hk,hkl,hpos,hb,hm=>by
  have hpr:=wg λn hn=>by
   obtain⟨l',hl',rfl⟩:=az.mp hn;exact hpos l' (a8 _ hl')
  rw[av,prd,← d0]at hb;have hb1:=ao (cN _ hpr) hb;have hll:=ao (Nat.le_mul_of_pos_left _ hm) hb1;rw[ai]at hkl;obtain⟨w,er⟩:=ya hll _ [] z (λa ha=>ao (hk a ha) (by omega)) (by rw[bi];omega)
  have es:VX [.vl L,.vl (.lst (made.map T.tup)),.vl (.lst l),y,z]= .nx [.vl L,.vl (.lst ((made.flatMap λa=>l.map λx=>a++[x]).map T.tup)),.vl (.lst l),.vl (.lst ((made.flatMap λa=>l.map λx=>a++[x]).map T.tup)),w]:=by
   have e0:UI 3 (zd) [.vl L,.vl (.lst (made.map T.tup)),.vl (.lst l),y,z]= .nx [.vl L,.vl _,.vl _,.ow [],z]:=rfl;have e1:ZK (Zb (vE 1)) _ _ [.vl L,.vl (.lst _),.vl _,.ow [],z]= .nx [.vl L,.vl _,.vl _,.ow ((made.flatMap λa=>l.map λx=>a++[x]).map _),w]:=er;unfold VX;rw[zx,e0];dsimp only;rw[zx,e1];rfl
  obtain⟨x',y',z',ih⟩:=ux m ls (made.flatMap λa=>l.map λx=>a++[x]) (k+1) _ (.vl (.lst ((made.flatMap λa=>l.map λx=>a++[x]).map _))) w (λa ha=>by
   obtain⟨b,hb,hx⟩:=cO.mp ha;obtain⟨u,_,rfl⟩:=az.mp hx;have:=hk b hb;rw[ax,aB];omega) (by omega) (λl' hl' =>hpos l' (a8 _ hl')) (by
    rw[JB _ _ _ λa _=>aa ..];exact hb) (by
    rw[JB _ _ _ λa _=>aa ..];exact cG hm (hpos l a9))
  refine⟨x',y',z', ?_⟩;have e:Zn (zq 2) _ ((l :: ls).map T.lst) [.vl L,.vl (.lst (made.map T.tup)),x,y,z]=match VX [.vl L,.vl _,.vl _,y,z] with
   | .nx ρ2=>Zn _ _ _ ρ2
   | .ct ρ2=>Zn _ _ _ ρ2
   | .bk ρ2=> .nx ρ2
   | r=>r:=rfl
  rw[e,es];exact ih
theorem Qu (ls:List (List T))(hl:ls.length<=1000)(hpos:∀l∈ls,1<=l.length)(hb:prd (ls.map (·.length))<=bnd):f_m [.lst (ls.map T.lst)]= .ok (.lst (Yd ls)):=by
 obtain⟨x',y',z',er⟩:=ux 0 ls [[]] 0 .un .un .un (λa ha=>by rw[aG.mp ha];exact am _) (by omega) hpos (by rw[aB,bU];exact hb) (am _)
 have e:f_m [.lst (ls.map T.lst)]=zf (b_m [.vl _,.un,.un,.un,.un]):=rfl;have e0:zp 1 (Ze (z9 (zG (zd)) (zd))) [.vl (.lst (ls.map T.lst)),.un,.un,.un,.un]= .nx [.vl _,.vl _,.un,.un,.un]:=rfl;have e1:ZK (Zb (vE 0)) _ _ [.vl (.lst _),.vl (.lst [.tup []]),.un,.un,.un]= .nx _:=er;rw[e,b_m,zx,e0];dsimp only;rw[zx,e1];rfl
theorem jk (n:Nat):∀m:Nat,prd (af m n)=n ^ m
 | 0=>rfl
 | m+1=>by rw[bM,prd,jk n m,fF,cR]
theorem JC (ls:List (List T)):(Yd ls).length=prd (ls.map (·.length)):=by
 rw[aa,wj,aB,bU]
noncomputable def pw (n lo hi:Nat):Nat:=((aX (hi+1 - lo)).map λi=>n ^ (lo+i)).sum
theorem jw (k:Kd)(lo hi:Nat):(Kd.many k lo hi).all.length=pw k.all.length lo hi:=by
 rw[Kd.all,List.length_flatMap,pw];congr 1
 refine ce λi _=> ?_;rw[JC,aV,jk]
theorem Jc (ks:List Kd):(Kd.row ks).all.length=prd (ks.map λk=>k.all.length):=by
 rw[Kd.all,JC,Kd.alls_map,aM];rfl
theorem jl (lo hi:Int):(Kd.whole lo hi).all.length=(hi+1 - lo).toNat:=by
 rw[Kd.all,aa,bo]
theorem Wr (cs:List (Str×Int)):(Kd.pick cs).all.length=cs.length:=by
 rw[Kd.all,aa]
theorem Ks (h:lo<=hi)(h3:hi<=3):(lo=0/\hi=0)\/(lo=0/\hi=1)\/(lo=0/\hi=2)\/(lo=0/\hi=3)\/(lo=1/\hi=1)\/(lo=1/\hi=2)\/(lo=1/\hi=3)\/(lo=2/\hi=2)\/(lo=2/\hi=3)\/(lo=3/\hi=3):=(by decide:∀hi lo:Fin 4,lo.1<=hi.1->(lo.1=0/\hi.1=0)\/(lo.1=0/\hi.1=1)\/(lo.1=0/\hi.1=2)\/(lo.1=0/\hi.1=3)\/(lo.1=1/\hi.1=1)\/(lo.1=1/\hi.1=2)\/(lo.1=1/\hi.1=3)\/(lo.1=2/\hi.1=2)\/(lo.1=2/\hi.1=3)\/(lo.1=3/\hi.1=3)) ⟨hi,iB h3⟩ ⟨lo,iB (ao h h3)⟩ h
noncomputable def iv (b:Bool):Nat:=if b then 1 else 0
theorem Kt (n:Nat)(h:lo<=hi)(h3:hi<=3):pw n lo hi=iv (lo == 0)+n*iv (decide (lo<=1) && decide (1<=hi))+n*n*iv (decide (lo<=2) && decide (2<=hi))+n*n*n*iv (hi == 3):=by
 rcases Ks h h3 with ⟨rfl,rfl⟩ | ⟨rfl,rfl⟩ | ⟨rfl,rfl⟩ | ⟨rfl,rfl⟩ | ⟨rfl,rfl⟩ | ⟨rfl,rfl⟩ | ⟨rfl,rfl⟩ | ⟨rfl,rfl⟩ | ⟨rfl,rfl⟩ | ⟨rfl,rfl⟩ <;>
  simp[pw,fH,iv,fF]
 all_goals omega
theorem z0I (hn:1<=n)(h:lo<=hi)(h3:hi<=3):1<=pw n lo hi:=by
 have h2:=cG hn hn;have h1:=cG h2 hn;rw[Kt n h h3];rcases Ks h h3 with ⟨rfl,rfl⟩ | ⟨rfl,rfl⟩ | ⟨rfl,rfl⟩ | ⟨rfl,rfl⟩ | ⟨rfl,rfl⟩ | ⟨rfl,rfl⟩ | ⟨rfl,rfl⟩ | ⟨rfl,rfl⟩ | ⟨rfl,rfl⟩ | ⟨rfl,rfl⟩ <;>
  simp[iv] <;> omega
theorem z3H (hn:n<=N)(h:lo<=hi)(h3:hi<=3):pw n lo hi<=1+N+N*N+N*N*N:=by
 have h2:=ba hn hn;have h1:=ba h2 hn;rw[Kt n h h3];rcases Ks h h3 with ⟨rfl,rfl⟩ | ⟨rfl,rfl⟩ | ⟨rfl,rfl⟩ | ⟨rfl,rfl⟩ | ⟨rfl,rfl⟩ | ⟨rfl,rfl⟩ | ⟨rfl,rfl⟩ | ⟨rfl,rfl⟩ | ⟨rfl,rfl⟩ | ⟨rfl,rfl⟩ <;>
  simp[iv] <;> omega
theorem Xb (hN:1<=N):∀(ns:List Nat),(∀n∈ns,n<=N)->prd ns<=N ^ ns.length
 | [],_=>am _
 | n :: ns,h=>by
  rw[prd,cR];exact ba (Xb hN ns λm hm=>h m (a8 _ hm)) (h n a9)
theorem ZS:∀(d:Nat) (k:Kd),k.Ok d->1<=k.all.length
 | 0,_,h=>h.elim
 | d+1,.whole lo hi,h=>by
  obtain⟨_,h2,_⟩:=h;rw[jl];omega
 | d+1,.pick cs,h=>by
  rw[Wr];exact h.1
 | d+1,.row ks,h=>by
  rw[Jc];refine wg λn hn=> ?_;obtain⟨k,hk,rfl⟩:=az.mp hn;exact ZS d k (h.2.2 k hk)
 | d+1,.many k lo hi,h=>by
  rw[jw];exact z0I (ZS d k h.2.2) h.1 h.2.1
noncomputable def mx:Nat->Nat
 | 0=>0
 | 1=>41
 | d+1=>1+mx d+mx d*mx d+mx d*mx d*mx d
theorem Xc (d:Nat):41<=mx (d+1):=by
 induction d with
 | zero=>exact am _
 | succ d ih=>
  show 41<=1+mx _+mx _*mx _+mx _*mx _*mx _;omega
theorem Qv (d:Nat)(n:Nat)(h:n<=41):n<=mx (d+1):=ao h (Xc d)
theorem Ku (hN:1<=N)(h:m<=3):N ^ m<=1+N+N*N+N*N*N:=by
 have:m=0\/m=1\/m=2\/m=3:=by omega
 rcases this with rfl | rfl | rfl | rfl <;> simp[fF] <;> omega
theorem jC:∀(d:Nat) (k:Kd),k.Ok d->k.all.length<=mx d
 | 0,_,h=>h.elim
 | d+1,.whole lo hi,h=>by
  obtain⟨h1,h2,h3⟩:=h;rw[jl];exact Qv d _ (by omega)
 | d+1,.pick cs,h=>by
  rw[Wr];exact Qv d _ (ao h.2.1 (by omega))
 | 1,.row ks,h=>by
  obtain⟨h1,h2,h3⟩:=h
  match ks,h1,h3 with
  | k :: _,_,h3=>exact(h3 k a9).elim
 | d+2,.row ks,h=>by
  obtain⟨h1,h2,h3⟩:=h;rw[Jc];have hp:=ao (by omega:1<=41) (Xc d)
  have:=Xb hp (ks.map λk=>k.all.length) λn hn=>by
   obtain⟨k,hk,rfl⟩:=az.mp hn;exact jC _ k (h3 k hk)
  rw[aa]at this;exact ao this (Ku hp h2)
 | 1,.many k lo hi,h=>h.2.2.elim
 | d+2,.many k lo hi,h=>by
  rw[jw];exact z3H (jC _ k h.2.2) h.1 h.2.1
theorem zc (h:f ρ= .nx ρ'):zh f g ρ=g ρ' :=by rw[zx,h]
theorem cs0:zm eqC (zb ixT (vE 0) (cE (.int 0))) (cE (.str w)) (.vl (.tup (.str x :: r)) :: ρ)= .ok (x == w):=by
 rw[zA,ze,v0,bOk,zI,bOk,at0,zI,bOk];rfl
theorem jS:zb ixT (vE 0) (cE (.int 1)) (.vl (.tup (a :: b :: r)) :: ρ)= .ok b:=by
 rw[ze,v0,bOk,zI,bOk,at1]
theorem WN:zb ixT (vE 0) (cE (.int 2)) (.vl (.tup (a :: b :: c :: r)) :: ρ)= .ok c:=by
 rw[ze,v0,bOk,zI,bOk,at2]
theorem Kv:zb ixT (vE 0) (cE (.int 3)) (.vl (.tup (a :: b :: c :: d :: r)) :: ρ)= .ok d:=by
 rw[ze,v0,bOk,zI,bOk,at3]
theorem Ye (h:f ρ= .ok (.int i)):zb zn f (cE (.int 1)) ρ= .ok (.int (i+1)):=by
 rw[ze,h,bOk,zI,bOk,zZ]
theorem Uj (hf:f ρ= .ok (.int i))(hg:g ρ= .ok (.int j))(h: -1000000 < i/\i < 1000000/\ -1000000 < j/\j < 1000000):Jr f g ρ= .ok (rng i (j - i).toNat):=by
 unfold Jr;rw[hf,hg];exact if_pos h
theorem Qw:∀(cs:List (Str×Int)) (x y:Sl),zJ (Z8 0 1) Z3 (vE 0) (cs.map Jt) [x,y]= .ok (cs.map λc=>T.str c.1)
 | [],_,_=>rfl
 | c :: cs,x,y=>by
  have e:zJ (Z8 0 1) Z3 (vE 0) ((c :: cs).map Jt) [x,y]=(zJ _ _ _ _ [.vl _,.vl _]).bind λvs=> .ok _:=rfl;rw[e,Qw cs];rfl
theorem uy {x:T}{m:Nat}(h:m<=3):Z0 (.lst [x]) (.int (m:Int))= .ok (.lst (af m [x]).flatten):=by
 unfold Z0;dsimp only;have c:0<=(m:Int)/\(m:Int) < 1000000/\[x].length*(m:Int).toNat<=bnd:=by
  have hb:3<=bnd:=by decide
  refine⟨by omega,by omega, ?_⟩
  rw[aB,bU];exact ao h hb
 rw[if_pos c,aY]
theorem jx {α:Type}(x:α):∀m:Nat,(af m [x]).flatten=af m x
 | 0=>rfl
 | m+1=>by rw[bM,eM,jx x m];rfl
abbrev Uk (ca cr:List T->R T):En->RS:=yT 1 (za 1 cr (z9 (zb Z0 (Ze (z9 (za 1 ca (z9 (zb ixT (vE 0) (cE (.int 1))) (zd))) (zd))) (vE 2)) (zd)))
theorem z0J (hf:f ρ= .ok x):Ze (z9 f zd) ρ= .ok (.lst [x]):=by
 unfold Ze z9 zd;rw[hf];rfl
theorem uz {ca:List T->R T}{k:Kd}{t:T}{lo:Nat}{ws:List T}(hw:ca [t]= .ok (.lst ws))(hpos:1<=ws.length){a b c:T}:∀(js:List Nat) (acc:List T) (x:Sl),(∀j∈js,lo+j<=3)->acc.length+(js.map λj=>ws.length ^ (lo+j)).sum<=bnd->
  ∃y,Zn (zq 2) (Uk ca f_m) (js.map λ(j:Nat)=>T.int ((lo:Int)+(j:Int))) [.vl (.tup [a,t,b,c]),.ow acc,x]= .nx [.vl (.tup [a,t,b,c]),.ow (acc++js.flatMap λj=>Yd (af (lo+j) ws)),y]
 | [],acc,x,_,_=>⟨x,by simp[Zn]⟩
 | j :: js,acc,x,hj,hb=>by
  have hj1:=hj j a9;rw[av,cJ]at hb;have er:f_m [.lst ((af (lo+j) ws).map _)]= .ok _:=Qu _ (by rw[aN];omega) (λl hl=>by rw[bx hl];exact hpos) (by rw[aV,jk];omega)
  have hlen:(Yd (af (lo+j) ws)).length=ws.length ^ (lo+j):=by rw[JC,aV,jk]
  have em:Z0 (.lst [.lst ws]) (.int ((lo)+(j)))= .ok (.lst ((af (lo+j) ws).map T.lst)):=by
   have e1:(lo:Int)+(j)=((lo+j:Nat)):=by omega
   rw[e1,uy (by omega),jx,aV]
  have eb:Uk ca f_m [.vl (.tup [a,t,b,c]),.ow acc,.vl (.int ((lo)+(j)))]= .nx [.vl (.tup [a,t,b,c]),.ow (acc++Yd (af (lo+j) ws)),.vl (.int ((lo)+(j)))]:=by
   have e1:za 1 f_m (z9 (zb Z0 (Ze (z9 (za 1 ca (z9 (zb ixT (vE 0) (cE (.int 1))) (zd))) (zd))) (vE 2)) (zd)) [.vl (.tup [a,t,b,c]),.ow acc,.vl (.int ((lo)+(j)))]= .ok (.lst (Yd (af (lo+j) ws))):=by
    have e0:za 1 ca (z9 (zb ixT (vE 0) (cE (.int 1))) (zd)) [.vl (.tup [a,t,b,c]),.ow acc,.vl (.int ((lo)+(j)))]= .ok (.lst ws):=by
     rw[zH,jS,bOk,hw]
    rw[zH,ze,z0J e0,bOk,v2,bOk,em,bOk,er]
   show ((za 1 _ _ _).s λt=>match t with | .lst us=>if acc.length+us.length<=bnd then RS.nx _ else .bad | _=> .bad)=_
   rw[e1];show (if _ then _ else _)=_
   rw[if_pos (by omega)]
   rfl
  obtain⟨y,ih⟩:=uz (k:=k) hw hpos js (acc++Yd (af (lo+j) ws)) _ (λi hi=>hj i (a8 _ hi)) (by rw[ax];omega)
  refine⟨y, ?_⟩;have e:Zn (zq 2) (Uk ca f_m) ((j :: js).map λ(j:Nat)=>T.int ((lo)+(j))) [.vl (.tup [a,t,b,c]),.ow acc,x]=match Uk ca _ [.vl _,.ow acc,.vl _] with
   | .nx ρ2=>Zn _ _ (js.map λ(j)=>T.int _) ρ2
   | .ct ρ2=>Zn _ _ (js.map λ(j)=>T.int _) ρ2
   | .bk ρ2=> .nx ρ2
   | r=>r:=rfl
  rw[e,eb];dsimp only;rw[ih,bp,aU]
theorem VY (h1:lo<=hi)(h2:hi<=3){r:RS}
  (el:Zn (zq 2) (Uk ca f_m) ((aX (hi+1 - lo)).map λ(j:Nat)=>T.int ((lo:Int)+(j:Int))) [.vl (.tup [a,t,.int (lo:Int),.int (hi:Int)]),.ow acc,x]=r):
  ZK (Jr (zb ixT (vE 0) (cE (.int 2))) (zb zn (zb ixT (vE 0) (cE (.int 3))) (cE (.int 1)))) (zq 2) (Uk ca f_m) [.vl (.tup [a,t,.int (lo:Int),.int (hi:Int)]),.ow acc,x]=r:=by
 have hn:((hi:Int)+1 - (lo)).toNat=hi+1 - lo:=by omega
 have hc: -1000000 < (lo:Int)/\(lo:Int) < 1000000/\ -1000000 < (hi:Int)+1/\(hi:Int)+1 < 1000000:=by omega
 have e:ZK (Jr (zb ixT (vE 0) (cE (.int 2))) (zb zn (zb ixT (vE 0) (cE (.int 3))) (cE (.int 1)))) (zq 2) (Uk ca f_m) [.vl (.tup [a,t,.int (lo),.int (hi)]),.ow acc,x]=(Jr _ _ _).s λts=>Zn _ _ ts _:=rfl;rw[e,Uj WN (Ye Kv) hc,hn];exact el
theorem z0K (e:L=pw n lo hi)(h:L<=1000000):([]:List T).length+((aX (hi+1 - lo)).map λj=>n ^ (lo+j)).sum<=bnd:=by
 have h' :pw n lo hi<=bnd:=ao (e ▸ h) (by decide)
 rw[bi,fE];exact h'
theorem Qx (d:Nat)(lo hi:Int)(h:(Kd.whole lo hi).Ok (d+1))(hl:(Kd.whole lo hi).all.length<=1000000)(H:∀k' :Kd,k'.Ok d->ca [k'.t]= .ok (.lst k'.all)):zf (b_4 ca f_m (en0 3 [(Kd.whole lo hi).t]))= .ok (.lst (Kd.whole lo hi).all):=by
 have e:zf (b_4 ca f_m (en0 3 [(Kd.whole lo hi).t]))=zf (b_4 ca _ [.vl _,.un,.un]):=rfl;rw[e,b_4,zx,Zm];obtain⟨h1,h2,h3⟩:=h;simp only[Kd.t];rw[zN,Zs,Js];unfold z1A;rw[Uj jS (Ye WN) ⟨by omega,by omega,by omega,by omega⟩]
 rfl
theorem VZ (d:Nat)(cs:List (Str×Int))(h:(Kd.pick cs).Ok (d+1))(hl:(Kd.pick cs).all.length<=1000000)(H:∀k' :Kd,k'.Ok d->ca [k'.t]= .ok (.lst k'.all)):zf (b_4 ca f_m (en0 3 [(Kd.pick cs).t]))= .ok (.lst (Kd.pick cs).all):=by
 have hb1:bnd=16777216:=rfl;have e:zf (b_4 ca f_m (en0 3 [(Kd.pick cs).t]))=zf (b_4 ca _ [.vl _,.un,.un]):=rfl;rw[e,b_4,zx,Zm];simp only[Kd.t];rw[cs0,Za,show (("pick":Str) == "whole")=false from rfl,if_neg ay,wU];dsimp only;rw[zx,Zm,zN,Zs,Js,Js,ZU,zB,Zg,jS];have hc:=h.2.1;have ec:zo (Z8 0 1) Z3 (vE 0) 2 [] [.vl (.tup [.str "pick",.tup (cs.map Jt)]),.un,.un] (cs.map Jt)= .ok (cs.map λc=>T.str c.1):=by
  unfold zo;rw[if_pos (by rw[aa];omega)]
  show quiet (zJ _ _ _ _ [.un,.un])=_;rw[Qw];rfl
 show zf (match ((((R.ok _).bind λts=>(zo _ _ _ 2 [] _ ts).bind λvs=> .ok _)).s λt=> .rt t) with | .nx ρ' =>_ | r=>r)=_
 rw[bOk,ec];rfl
theorem Kw (d:Nat)(ks:List Kd)(h:(Kd.row ks).Ok (d+1))(hl:(Kd.row ks).all.length<=1000000)(H:∀k' :Kd,k'.Ok d->ca [k'.t]= .ok (.lst k'.all)):zf (b_4 ca f_m (en0 3 [(Kd.row ks).t]))= .ok (.lst (Kd.row ks).all):=by
 have hb1:bnd=16777216:=rfl;have e:zf (b_4 ca f_m (en0 3 [(Kd.row ks).t]))=zf (b_4 ca _ [.vl _,.un,.un]):=rfl;rw[e,b_4,zx,Zm];obtain⟨h1,h2,h3⟩:=h;simp only[Kd.t];rw[cs0,Za,show (("row":Str) == "whole")=false from rfl,if_neg ay,wU];dsimp only;rw[zx,Zm,cs0,Za,show (("row":Str) == "pick")=false from rfl,if_neg ay,wU];dsimp only;rw[zx,Zm,zN,Zs,Js,Js,ZU,zH,Kd.ts_map];have ec:zo (zq 0) Z3 (za 1 ca (z9 (vE 0) (zd))) 1 [] [.vl (.tup [.str "row",.tup (ks.map Kd.t)]),.un,.un] (ks.map Kd.t)= .ok ((ks.map Kd.all).map T.lst):=by
  unfold zo;rw[if_pos (by rw[aa];omega)]
  show quiet (zJ _ _ _ _ [.un])=_;have:∀(ks:List Kd) (x:Sl),(∀k∈ks,k.Ok d)->zJ (zq 0) Z3 (za 1 ca (z9 (vE 0) (zd))) (ks.map Kd.t) [x]= .ok ((ks.map Kd.all).map T.lst):=by
   intro ks
   induction ks with
   | nil=>intro _ _;rfl
   | cons k ks ih=>
    intro x hk;have e1:zJ (zq 0) Z3 (za 1 ca (z9 (vE 0) (zd))) ((k :: ks).map _) [x]=(za 1 ca _ [.vl k.t]).bind λv=>(zJ _ _ _ _ [.vl k.t]).bind λvs=> .ok _:=rfl;rw[e1,zH,v0,bOk,H k (hk k a9),ih _ λk' hk' =>hk k' (a8 _ hk')];rfl
  rw[this ks .un h3];rfl
 have hrow:=Jc ks;have er:f_m [.lst ((ks.map Kd.all).map _)]= .ok _:=Qu _ (by rw[aa];omega) (λl hl=>by
  obtain⟨k,hk,rfl⟩:=az.mp hl;exact ZS d k (h3 k hk)) (by
  rw[aM];show prd (ks.map λk=>k.all.length)<=bnd;omega)
 show zf (match ((((R.ok _).bind λts=>(zo _ _ _ 1 [] _ ts).bind λvs=> .ok _).bind λx=>f_m [x]).s λt=> .rt t) with | .nx ρ' =>_ | r=>r)=_
 rw[bOk,ec,bOk,bOk,er,Kd.all,Kd.alls_map];rfl
theorem x6 {ca:List T->R T}(d:Nat)(k:Kd)(lo hi:Nat)(h:(Kd.many k lo hi).Ok (d+1))(hl:(Kd.many k lo hi).all.length<=1000000)(H:∀k' :Kd,k'.Ok d->ca [k'.t]= .ok (.lst k'.all)):zf (b_4 ca f_m (en0 3 [(Kd.many k lo hi).t]))= .ok (.lst (Kd.many k lo hi).all):=by
 have hb1:bnd=16777216:=rfl;have e:zf (b_4 ca f_m (en0 3 [(Kd.many k lo hi).t]))=zf (b_4 ca f_m [.vl (Kd.many k lo hi).t,.un,.un]):=rfl;rw[e,b_4,zx,Zm];obtain⟨h1,h2,h3⟩:=h;have hml:=jw k lo hi;simp only[Kd.t];rw[cs0,Za,show (("many":Str) == "whole")=false from rfl,if_neg ay,wU];dsimp only;rw[zx,Zm,cs0,Za,show (("many":Str) == "pick")=false from rfl,if_neg ay,wU];dsimp only;rw[zx,Zm,cs0,Za,show (("many":Str) == "row")=false from rfl,if_neg ay,wU];dsimp only;have e0:UI 1 (zd) [.vl (.tup [.str "many",k.t,.int (lo:Int),.int (hi:Int)]),.un,.un]= .nx [.vl (.tup [.str "many",k.t,.int (lo:Int),.int (hi:Int)]),.ow [],.un]:=rfl;rw[zx,e0];dsimp only;obtain⟨y,el⟩:=uz (k:=k) (lo:=lo) (H k h3) (ZS d k h3) (a:= .str "many") (b:= .int (lo:Int)) (c:= .int (hi:Int)) (aX (hi+1 - lo)) [] .un (λj hj=>by have:=aZ.mp hj;omega) (z0K hml hl)
 have e1:=VY (ca:=ca) (t:=k.t) h1 h2 el;rw[bP]at e1;rw[zc e1,Kd.all];rfl
theorem x8 (d:Nat)(k:Kd)(h:k.Ok (d+1))(hl:k.all.length<=1000000)(H:∀k' :Kd,k'.Ok d->ca [k'.t]= .ok (.lst k'.all)):zf (b_4 ca f_m (en0 3 [k.t]))= .ok (.lst k.all):=by
 cases k with
 | whole lo hi=>exact Qx d lo hi h hl H
 | pick cs=>exact VZ d cs h hl H
 | row ks=>exact Kw d ks h hl H
 | many k lo hi=>exact x6 d k lo hi h hl H
theorem Qy:∀(d n:Nat),d<=n->d<=3->∀k:Kd,k.Ok d->k.all.length<=1000000->S_4 n 0 [k.t]= .ok (.lst k.all)
 | 0,_,_,_,_,h,_=>h.elim
 | d+1,0,hn,_,_,_,_=>by omega
 | d+1,n+1,hn,hd,k,h,hl=>by
  have e:S_4 (n+1) 0 [k.t]=zf (b_4 (S_4 n 0) f_m (en0 3 [k.t])):=rfl;rw[e];refine x8 d k h hl λk' hk' =>Qy d n (by omega) (by omega) k' hk' ?_
  have h1:=jC d k' hk';have:mx d<=1000000:=by
   have:d=0\/d=1\/d=2:=by omega
   rcases this with rfl | rfl | rfl <;> decide
  omega
theorem in2:zm inC (zb ixT (vE 0) (cE (.int 0))) (zG (z9 (cE (.str a)) (z9 (cE (.str b)) (zd)))) (.vl (.tup (.str x :: r)) :: ρ)=inC (.str x) (.tup [.str a,.str b]):=by
 rw[zA,ze,v0,bOk,zI,bOk,at0,bOk,WL zI zI,bOk]
theorem jT (h:g ρ= .ok true):ifS g f1 f2 ρ=f1 ρ:=by rw[Zm,h,Za,if_pos rfl]
theorem if_f (h:g ρ= .ok false):ifS g f1 f2 ρ=f2 ρ:=by rw[Zm,h,Za,if_neg ay]
theorem zi (h:g ρ= .ok false):ifS g f1 nxS ρ= .nx ρ:=by rw[if_f h];rfl
theorem zE (h:f ρ= .ok t):zp i f ρ= .nx (ρ.set i (.vl t)):=by rw[Zt,h,Za]
theorem zg (h:f (frz ρ)= .ok t):zl f ρ= .rt t:=by rw[zN,h,Za]
theorem j6 {g:T->En->R En}(hg:g t ρ= .ok ρ1)(hb:fb ρ1= .nx ρ2):Zn g fb (t :: ts) ρ=Zn g fb ts ρ2:=by
 rw[Zn,hg];dsimp only;rw[hb]
theorem setg (i:Nat)(t:T)(ρ:En):zq i t ρ= .ok (ρ.set i (.vl t)):=rfl
theorem zw (h:f ρ= .rt t):zh f g ρ= .rt t:=by rw[zx,h]
theorem Qz {i j:Nat}(h:i < 2 ^ 60):Z0 (.int (i:Int)) (.int (j:Int))= .ok (.int ((i*j:Nat):Int)):=by
 rw[Qg _ _ (.inl ⟨by omega,by omega⟩),cW]
theorem z0L (h:n<=mx d)(hd:d<=3):n < 2 ^ 60:=by
 have:d=0\/d=1\/d=2\/d=3:=by omega
 have h3:mx 3 < 2 ^ 60:=by decide
 have h2:mx 2 < 2 ^ 60:=by decide
 have h1:mx 1 < 2 ^ 60:=by decide
 have h0:mx 0 < 2 ^ 60:=by decide
 rcases this with rfl | rfl | rfl | rfl <;> omega
theorem yb {a b:Sl}:∀(ns:List Nat) (m:Nat) (x y:Sl),(∀n∈ns,1<=n)->m*prd ns < 2 ^ 60->∃x',Zn (zq 3) (zp 2 (zb Z0 (vE 2) (vE 3))) (ns.map λ(n:Nat)=>T.int (n:Int)) [a,b,.vl (.int (m:Int)),x,y]= .nx [a,b,.vl (.int ((m*prd ns:Nat):Int)),x',y]
 | [],m,x,y,_,_=>⟨x,by simp[Zn,prd]⟩
 | n :: ns,m,x,y,hp,hb=>by
  have hpr:=wg λk hk=>hp k (a8 _ hk);have hn:=hp n a9;have hmm:m<=m*prd (n :: ns):=cN _ (cG hn hpr);have hb2:=bw hmm hb;rw[prd,← d0]at hb;obtain⟨x',ih⟩:=yb ns _ _ y (λk hk=>hp k (a8 _ hk)) hb;refine⟨x', ?_⟩;have es:zp 2 (zb Z0 (vE 2) (vE 3)) [a,b,.vl (.int (m)),.vl (.int (n)),y]= .nx [a,b,.vl (.int ((m*n):Int)),.vl (.int (n)),y]:=by
   rw[Zt,ze,v2,bOk,v3,bOk,Qz hb2];rfl
  have s3:zq 3 (T.int (n)) [a,b,.vl (.int (m)),x,y]= .ok _:=rfl;rw[av,j6 s3 es,prd,← d0];exact ih
theorem yc:∀(d:Nat) (lo hi:Int),(Kd.whole lo hi).Ok (d+1)->(Kd.whole lo hi).Ok 1
 | _,_,_,h=>h
theorem x9:∀(d:Nat) (cs:List (Str×Int)),(Kd.pick cs).Ok (d+1)->(Kd.pick cs).Ok 1
 | _,_,h=>h
theorem uA (k:Kd)(h:k.Ok 1)(ht:k.t= .tup (.str x :: r))(hx:inC (.str x) (.tup [.str "whole",.str "pick"])= .ok true):zf (b_i (f_4 8) cs (en0 5 [k.t]))= .ok (.int (k.all.length:Int)):=by
 have ha:f_4 8 _= .ok _:=Qy 1 8 (by omega) (by omega) k h (ao (jC 1 k h) (by decide))
 have e:zf (b_i (f_4 8) cs (en0 5 [k.t]))=zf (b_i _ cs [.vl k.t,.un,.un,.un,.un]):=rfl;have e1:zm inC (zb ixT (vE 0) (cE (.int 0))) (zG (z9 (cE (.str "whole")) (z9 (cE (.str "pick")) (zd)))) [.vl k.t,.un,.un,.un,.un]= .ok true:=by
  rw[ht,in2,hx]
 have e2:zl (ap1 zT (za 1 (f_4 8) (z9 (vE 0) (zd)))) [.vl k.t,.un,.un,.un,.un]= .rt (.int (k.all.length)):=by
  refine zg ?_;rw[Zs,zY,zH,v0,bOk,ha,bOk,VL]
 rw[e,b_i,zw (by rw[jT e1,e2])]
 rfl
theorem z3I (b:Bool):b2 b=(iv b:Int):=by cases b <;> rfl
theorem xa (hd:d+1<=3)(ks:List Kd)(h:(Kd.row ks).Ok (d+1))(H:∀k:Kd,k.Ok d->cs [k.t]= .ok (.int (k.all.length:Int))):zf (b_i (f_4 8) cs (en0 5 [(Kd.row ks).t]))= .ok (.int ((Kd.row ks).all.length:Int)):=by
 have hlt:=z0L (jC _ _ h) hd;rw[Jc]at hlt ⊢;obtain⟨h1,h2,h3⟩:=h;simp only[Kd.t,Kd.ts_map];have e:zf (b_i (f_4 8) cs (en0 5 [.tup [.str "row",.tup (ks.map Kd.t)]]))=zf (b_i _ cs [.vl _,.un,.un,.un,.un]):=rfl;have e1:zm inC (zb ixT (vE 0) (cE (.int 0))) (zG (z9 (cE (.str "whole")) (z9 (cE (.str "pick")) (zd)))) [.vl (.tup [.str "row",.tup (ks.map Kd.t)]),.un,.un,.un,.un]= .ok false:=by
  rfl
 have ec:zo (zq 0) Z3 (za 1 cs (z9 (vE 0) (zd))) 1 [] [.vl (.tup [.str "row",.tup (ks.map Kd.t)]),.un,.un,.un,.un] (ks.map Kd.t)= .ok ((ks.map λk=>k.all.length).map λ(n:Nat)=>T.int (n)):=by
  unfold zo;rw[if_pos (by rw[aa];exact ao h2 (by decide))]
  have:∀(ks:List Kd) (x:Sl),(∀k∈ks,k.Ok d)->zJ (zq 0) Z3 (za 1 cs (z9 (vE 0) (zd))) (ks.map Kd.t) [x]= .ok ((ks.map λk=>k.all.length).map λ(n:Nat)=>T.int (n)):=by
   intro ks
   induction ks with
   | nil=>intro _ _;rfl
   | cons k ks ih=>
    intro x hk;have e1:zJ (zq 0) Z3 (za 1 cs (z9 (vE 0) (zd))) ((k :: ks).map _) [x]=(za 1 cs _ [.vl k.t]).bind λv=>(zJ _ _ _ _ [.vl k.t]).bind λvs=> .ok _:=rfl;rw[e1,zH,v0,bOk,H k (hk k a9),ih _ λk' hk' =>hk k' (a8 _ hk')];rfl
  show quiet (zJ _ _ _ _ [.un])=_;rw[this ks .un h3];rfl
 have e2:ifE (zm eqC (zb ixT (vE 0) (cE (.int 0))) (cE (.str "row"))) (zz (Zb (zb ixT (vE 0) (cE (.int 1)))) (zq 0) (Z3) (za 1 cs (z9 (vE 0) (zd))) 1 []) (Ze (zd)) [.vl (.tup [.str "row",.tup (ks.map Kd.t)]),.un,.un,.un,.un]= .ok (.lst ((ks.map λk=>k.all.length).map λ(n:Nat)=>T.int (n))):=by
  unfold ifE;rw[cs0,bOk,show (("row":Str) == "row")=true from rfl,if_pos rfl,zB,Zg,jS];show ((R.ok _).bind _)=_;rw[bOk,ec,bOk]
 obtain⟨x',el⟩:=yb (a:= .vl _) (ks.map λk=>k.all.length) 1 .un .un (λn hn=>by
  obtain⟨k,hk,rfl⟩:=az.mp hn;exact ZS d k (h3 k hk)) (by rw[bU];exact hlt)
 rw[bU]at el;have e3:ZK (Zb (vE 1)) _ _ [.vl _,.vl (.lst ((ks.map λk=>k.all.length).map λ(n:Nat)=>T.int (n))),.vl (.int 1),.un,.un]=_:=el;rw[e,b_i,zc (zi e1),zc (zE e2)];have s1:([.vl (.tup [.str "row",.tup (ks.map Kd.t)]),.un,.un,.un,.un]:En).set 1 (.vl (.lst ((ks.map λk=>k.all.length).map λ(n:Nat)=>T.int (n))))=[.vl _,.vl (.lst ((ks.map λk=>k.all.length).map λ(n:Nat)=>T.int (n))),.un,.un,.un]:=rfl;rw[s1,zc (zE zI)];have s2:([.vl (.tup [.str "row",.tup (ks.map Kd.t)]),.vl (.lst ((ks.map λk=>k.all.length).map λ(n:Nat)=>T.int (n))),.un,.un,.un]:En).set 2 (.vl (.int 1))=[.vl _,.vl (.lst ((ks.map λk=>k.all.length).map λ(n)=>T.int _)),.vl _,.un,.un]:=rfl;rw[s2,zc e3];rfl
theorem z0M (hf:f ρ= .ok (.int i))(hg:g ρ= .ok (.int j)):chE leC leC f (cE (.int c)) g ρ= .ok (.bl (decide (i<=c) && decide (c<=j))):=by
 rw[Y2,hf,bOk,zI,bOk,Ja,hg];cases decide (i<=c) <;> rfl
theorem wV (a b:Nat):decide ((a:Int)<=(b:Int))=decide (a<=b):=by
 by_cases h:a<=b
 ·rw[decide_eq_true h];exact decide_eq_true (by omega)
 ·rw[decide_eq_false h];exact decide_eq_false (by omega)
theorem QA (a b:Nat):((a:Int) == (b:Int))=(a == b):=by
 by_cases h:a=b
 ·subst h;simp
 ·rw[beq_eq_false_iff_ne.mpr h,beq_eq_false_iff_ne];omega
theorem z27 (h:f ρ= .ok (.bl b)):ap1 qy f ρ= .ok (.int ((iv b:Nat):Int)):=by
 rw[zY,h];show R.ok _=_;rw[z3I]
theorem QB (hf:f ρ= .ok (.int (i:Int)))(hg:g ρ= .ok (.int (j:Int))):zb zn f g ρ= .ok (.int ((i+j:Nat):Int)):=by
 rw[ze,hf,bOk,hg,bOk,zZ,lg]
theorem Jd (h:i < 2 ^ 60)(hf:f ρ= .ok (.int (i:Int)))(hg:g ρ= .ok (.int (j:Int))):zb Z0 f g ρ= .ok (.int ((i*j:Nat):Int)):=by
 rw[ze,hf,bOk,hg,bOk,Qz h]
theorem Kx (h:n<=mx d)(hd:d+1<=3)(h0:1<=d):n*n*n < 2 ^ 60/\n*n < 2 ^ 60/\n < 2 ^ 60:=by
 have h1:n<=70644:=by
  have:d=1\/d=2:=by omega
  have h2:mx 2=70644:=by decide
  have h1:mx 1=41:=by decide
  rcases this with rfl | rfl <;> omega
 have h2:=ba h1 h1;have h3:=ba h2 h1;have h4:70644*70644*70644 < 2 ^ 60:=by decide
 have h5:70644*70644 < 2 ^ 60:=by decide
 have h6:70644 < 2 ^ 60:=by decide
 exact⟨bw h3 h4,bw h2 h5,bw h1 h6⟩
noncomputable abbrev mt (t:T)(lo hi:Nat):T:= .tup [.str "many",t,.int (lo:Int),.int (hi:Int)]
theorem v4' :vE 4 (a :: b :: c :: d :: .vl t :: ρ)= .ok t:=rfl
theorem QC {t:T}{a x:Sl}{lo hi n:Nat}(h3:n*n*n < 2 ^ 60)(h2:n*n < 2 ^ 60)(h1:n < 2 ^ 60):
  zh (zp 2 (zb zn (ap1 qy (ZE eqC (zb ixT (vE 0) (cE (.int 2))) (cE (.int 0)))) (zb Z0 (vE 4) (ap1 qy (chE leC leC (zb ixT (vE 0) (cE (.int 2))) (cE (.int 1)) (zb ixT (vE 0) (cE (.int 3))))))))
  (zh (zp 2 (zb zn (vE 2) (zb Z0 (zb Z0 (vE 4) (vE 4)) (ap1 qy (chE leC leC (zb ixT (vE 0) (cE (.int 2))) (cE (.int 2)) (zb ixT (vE 0) (cE (.int 3))))))))
  (zp 2 (zb zn (vE 2) (zb Z0 (zb Z0 (zb Z0 (vE 4) (vE 4)) (vE 4)) (ap1 qy (ZE eqC (zb ixT (vE 0) (cE (.int 3))) (cE (.int 3))))))))
  [.vl (mt t lo hi),a,.vl (.int 1),x,.vl (.int (n:Int))]= .nx [.vl (mt t lo hi),a,.vl (.int ((iv (lo == 0)+n*iv (decide (lo<=1) && decide (1<=hi))+n*n*iv (decide (lo<=2) && decide (2<=hi))+n*n*n*iv (hi == 3):Nat):Int)),x,.vl (.int (n:Int))]:=by
 have le1:∀{p q r s:Sl},ap1 _ (chE leC leC _ _ _) [.vl (mt t lo hi),p,q,r,s]= .ok (.int ((iv (decide (lo<=1) && decide (1<=hi))):Int)):=λ{p q r s}=>z27 (by
  rw[z0M WN Kv];rw[show decide ((lo:Int)<=1)=decide _ from wV lo 1,show decide ((1:Int)<=(hi))=decide _ from wV 1 hi])
 have le2:∀{p q r s:Sl},ap1 _ (chE leC leC _ _ _) [.vl (mt t lo hi),p,q,r,s]= .ok (.int ((iv (decide (lo<=2) && decide (2<=hi))):Int)):=λ{p q r s}=>z27 (by
  rw[z0M WN Kv];rw[show decide ((lo:Int)<=2)=decide _ from wV lo 2,show decide ((2:Int)<=(hi))=decide _ from wV 2 hi])
 have eq0:∀{p q r s:Sl},ap1 _ (ZE eqC (zb ixT _ _) (cE _)) [.vl (mt t lo hi),p,q,r,s]= .ok _:=λ{p q r s}=>z27 (by
  rw[Z7,WN,bOk,zI,bOk,eqI,bOk,show ((lo:Int) == 0)=(lo == 0) from QA lo 0])
 have eq3:∀{p q r s:Sl},ap1 _ (ZE eqC (zb ixT _ _) (cE _)) [.vl (mt t lo hi),p,q,r,s]= .ok _:=λ{p q r s}=>z27 (by
  rw[Z7,Kv,bOk,zI,bOk,eqI,bOk,show ((hi:Int) == 3)=(hi == 3) from QA hi 3])
 have a1:=zE (i:=2) (QB (eq0 (p:=a) (q:= .vl (.int 1)) (r:=x)) (Jd h1 v4' le1));have a1:zp 2 _ _= .nx [.vl _,a,.vl _,x,.vl _]:=a1;rw[zc a1];generalize iv _+n*iv _=m1;have a2:=zE (i:=2) (QB (v2 (t:= .int (m1)) (b:=a) (ρ:=[x,.vl _])) (Jd h2 (Jd h1 v4' v4') le2));rw[zc a2];generalize m1+n*n*iv _=m2;have a3:=zE (i:=2) (QB (v2 (t:= .int (m2)) (b:=a) (ρ:=[x,.vl _])) (Jd h3 (Jd h2 (Jd h1 v4' v4') v4') eq3));exact a3
theorem QD {cs:List T->R T}{d:Nat}(hd:d+1<=3)(k:Kd)(lo hi:Nat)(h:(Kd.many k lo hi).Ok (d+1))(H:∀k:Kd,k.Ok d->cs [k.t]= .ok (.int (k.all.length:Int))):zf (b_i (f_4 8) cs (en0 5 [(Kd.many k lo hi).t]))= .ok (.int ((Kd.many k lo hi).all.length:Int)):=by
 obtain⟨h1,h2,h3⟩:=h;have hd0:1<=d:=by
  cases d with
  | zero=>exact h3.elim
  | succ d=>omega
 obtain⟨c3,c2,c1⟩:=Kx (jC d k h3) hd hd0;rw[jw,Kt _ h1 h2];simp only[Kd.t];have hk:=H k h3;generalize k.all.length=n at*;generalize k.t=t at*;have e:zf (b_i (f_4 8) cs (en0 5 [mt t lo hi]))=zf (b_i _ cs [.vl _,.un,.un,.un,.un]):=rfl;have e1:zm inC (zb ixT (vE 0) (cE (.int 0))) (zG (z9 (cE (.str "whole")) (z9 (cE (.str "pick")) (zd)))) [.vl (mt t lo hi),.un,.un,.un,.un]= .ok false:=by
  rfl
 have e2:ifE (zm eqC (zb ixT (vE 0) (cE (.int 0))) (cE (.str "row"))) (zz (Zb (zb ixT (vE 0) (cE (.int 1)))) (zq 0) (Z3) (za 1 cs (z9 (vE 0) (zd))) 1 []) (Ze (zd)) [.vl (mt t lo hi),.un,.un,.un,.un]= .ok (.lst []):=by
  rfl
 have s1:([.vl (mt t lo hi),.un,.un,.un,.un]:En).set 1 (.vl (.lst []))=[.vl _,.vl _,.un,.un,.un]:=rfl;have s2:([.vl (mt t lo hi),.vl (.lst []),.un,.un,.un]:En).set 2 (.vl (.int 1))=[.vl _,.vl _,.vl _,.un,.un]:=rfl;have e3:ZK (Zb (vE 1)) (zq 3) (zp 2 (zb Z0 (vE 2) (vE 3))) [.vl (mt t lo hi),.vl (.lst []),.vl (.int 1),.un,.un]= .nx _:=rfl;have e4:zm eqC (zb ixT (vE 0) (cE (.int 0))) (cE (.str "many")) [.vl (mt t lo hi),.vl (.lst []),.vl (.int 1),.un,.un]= .ok true:=by
  rfl
 have e5:za 1 cs (z9 (zb ixT (vE 0) (cE (.int 1))) (zd)) [.vl (mt t lo hi),.vl (.lst []),.vl (.int 1),.un,.un]= .ok (.int (n)):=by
  rw[zH,jS,bOk,hk]
 have s5:([.vl (mt t lo hi),.vl (.lst []),.vl (.int 1),.un,.un]:En).set 4 (.vl (.int (n)))=[.vl _,.vl _,.vl _,.un,.vl _]:=rfl;have e6:=QC (t:=t) (a:= .vl (.lst [])) (x:= .un) (lo:=lo) (hi:=hi) c3 c2 c1;rw[e,b_i,zc (zi e1),zc (zE e2),s1,zc (zE zI),s2,zc e3];have e7:∀(P:En->RS),ifS _ (zh _ P) nxS _=P _:=λP=>by
  rw[jT e4,zc (zE e5),s5]
 rw[zc (Eq.trans (e7 _) e6)];rfl
theorem QE:∀(d n:Nat),d<=n->d<=3->∀k:Kd,k.Ok d->S_i n 0 [k.t]= .ok (.int (k.all.length:Int))
 | 0,_,_,_,_,h=>h.elim
 | d+1,0,hn,_,_,_=>by omega
 | d+1,n+1,hn,hd,k,h=>by
  have H:=λk' hk' =>QE d n (by omega) (by omega) k' hk'
  cases k with
  | whole lo hi=>exact uA _ (yc d lo hi h) (x:="whole") (r:=[.int lo,.int hi]) (by simp only[Kd.t]) rfl
  | pick cs=>exact uA _ (x9 d cs h) (x:="pick") (r:=[.tup (cs.map Jt)]) (by simp only[Kd.t]) rfl
  | row ks=>exact xa (by omega) ks h H
  | many k lo hi=>exact QD (by omega) k lo hi h H
theorem Ok.mono:∀(d:Nat) (k:Kd),k.Ok d->k.Ok (d+1)
 | 0,_,h=>h.elim
 | d+1,.whole _ _,h=>h
 | d+1,.pick _,h=>h
 | d+1,.row ks,h=>⟨h.1,h.2.1,λk hk=>Ok.mono d k (h.2.2 k hk)⟩
 | d+1,.many k _ _,h=>⟨h.1,h.2.1,Ok.mono d k h.2.2⟩
theorem Ky (j:Int):Z0 (.int 700) (.int j)= .ok (.int (700*j)):=Qg _ _ (.inl ⟨by decide,by decide⟩)
theorem z0N (ns:List Int)(d:Nat)(h1:1<=d)(h8:d<=8)(k:Int)(h0:0<=k):∃q:Kd,f_k 8 [scr ns,.int k,.int (d:Int)]= .ok q.t/\q.Ok d:=by
 obtain⟨t,ht,hi⟩:=Ub ns d 8 h8 h1 k h0;obtain⟨q,rfl,hq⟩:=Ui d t hi;exact⟨q,ht,hq⟩
abbrev smB:En->RS:=zh (ifS (zm leC (za 1 (f_i 8) (z9 (vE 3) (zd))) (vB 2)) (zl (vE 3)) (nxS))
  (zp 3 (za 3 (f_k 8) (z9 (vE 0) (z9 (zb zn (zb zn (vE 1) (cE (.int 500))) (zb Z0 (cE (.int 700)) (vE 4))) (z9 (cE (.int 2)) (zd))))))
abbrev en5 (ns:List Int)(a:Int)(m:Nat)(k:Kd)(x:Sl):En:=[.vl (scr ns),.vl (.int a),.vl (.int (m:Int)),.vl k.t,x]
theorem QF (hk:k.Ok 3):zm leC (za 1 (f_i 8) (z9 (vE 3) (zd))) (vB 2) (en5 ns a m k x)= .ok (decide (k.all.length<=m)):=by
 have e:f_i 8 _= .ok _:=QE 3 8 (by omega) (by omega) k hk
 rw[zA,zH,v3,bOk,e,bOk,w2,bOk,Ja,wV]
theorem Kz (ns:List Int)(ha:0<=a)(hk:k.Ok 3)(j:Nat):(k.all.length<=m/\smB (en5 ns a m k (.vl (.int (0+(j:Int)))))= .rt k.t)\/∃k' :Kd,k'.Ok 3/\smB (en5 ns a m k (.vl (.int (0+(j:Int)))))= .nx (en5 ns a m k' (.vl (.int (0+(j:Int))))):=by
 by_cases h:k.all.length<=m
 ·refine .inl ⟨h, ?_⟩;refine zw ?_;rw[jT (by rw[QF hk,decide_eq_true h])]
  exact zg rfl
 ·obtain⟨q,hq,ho⟩:=z0N ns 2 (by omega) (by omega) (a+500+700*(0+(j))) (by omega)
  refine .inr ⟨q,Ok.mono 2 q ho, ?_⟩;unfold smB;rw[zc (zi (by rw[QF hk,decide_eq_false h]))]
  have hq:f_k 8 [scr ns,.int _,.int 2]= .ok q.t:=hq;have e:za 3 (f_k 8) (z9 (vE 0) (z9 (zb zn (zb zn (vE 1) (cE (.int 500))) (zb Z0 (cE (.int 700)) (vE 4))) (z9 (cE (.int 2)) (zd)))) (en5 ns a m k (.vl (.int (0+(j)))))= .ok q.t:=by
   rw[zV,v0,bOk,ze,ze,v1,bOk,zI,bOk,zZ,bOk,ze,zI,bOk,v4,bOk,Ky,bOk,zZ,bOk,zI,bOk,hq]
  rw[zE e];rfl
theorem z0O {g:T->En->R En}(hg:g t ρ= .ok ρ1)(hb:fb ρ1= .rt r):Zn g fb (t :: ts) ρ= .rt r:=by
 rw[Zn,hg];dsimp only;rw[hb]
theorem QG (ns:List Int)(ha:0<=a):∀(js:List Nat) (k:Kd) (x:Sl),k.Ok 3->(∃k' :Kd,k'.Ok 3/\k'.all.length<=m/\Zn (zq 4) smB (js.map λ(j:Nat)=>T.int (0+(j:Int))) (en5 ns a m k x)= .rt k'.t)\/
  ∃(k' :Kd) (x' :Sl),k'.Ok 3/\Zn (zq 4) smB (js.map λ(j:Nat)=>T.int (0+(j:Int))) (en5 ns a m k x)= .nx (en5 ns a m k' x')
 | [],k,x,hk=> .inr ⟨k,x,hk,rfl⟩
 | j :: js,k,x,hk=>by
  have s3:zq 4 (T.int (0+(j))) (en5 ns a m k x)= .ok _:=rfl;rw[av];rcases Kz ns ha hk j with ⟨h1,h2⟩ | ⟨k',h1,h2⟩
  ·exact .inl ⟨k,hk,h1,z0O s3 h2⟩
  ·rw[j6 s3 h2];exact QG ns ha js k' _ h1
theorem xb (ns:List Int)(a:Int)(ha:0<=a)(m:Nat)(hm:4<=m):∃k:Kd,k.Ok 3/\k.all.length<=m/\z0n [scr ns,.int a,.int (m:Int)]= .ok k.t:=by
 obtain⟨q,hq,ho⟩:=z0N ns 3 (by omega) (by omega) a ha
 have hq:f_k 8 [scr ns,.int a,.int 3]= .ok q.t:=hq;have e:z0n [scr ns,.int a,.int (m)]=zf (z1H _ _ [.vl _,.vl _,.vl _,.un,.un]):=rfl;have e1:za 3 (f_k 8) (z9 (vE 0) (z9 (vE 1) (z9 (cE (.int 3)) (zd)))) [.vl (scr ns),.vl (.int a),.vl (.int (m)),.un,.un]= .ok q.t:=by
  rw[zV,v0,bOk,v1,bOk,zI,bOk,hq]
 have s1:([.vl _,.vl _,.vl _,.un,.un]:En).set 3 _=en5 ns a m q .un:=rfl;rw[e,z1H,zc (zE e1),s1];rcases QG ns ha _ q .un ho with ⟨k,h1,h2,h3⟩ | ⟨k,x,h1,h3⟩
 ·refine⟨k,h1,h2, ?_⟩;have e2:ZK (zX (cE (.int 3))) (zq 4) smB _= .rt k.t:=h3;rw[zw e2];rfl
 ·have e2:ZK (zX (cE (.int 3))) (zq 4) smB _= .nx _:=h3;rw[zc e2];have ec:zm leC _ _ (frz (en5 ns a m k x))= .ok _:=QF h1
  by_cases h:k.all.length<=m
  ·refine⟨k,h1,h, ?_⟩;rw[zg]
   ·rfl
   ·unfold ifE;rw[ec,decide_eq_true h];rfl
  ·refine⟨.whole (-1) 2,⟨by omega,by omega,by omega⟩,by exact hm, ?_⟩
   rw[zg]
   ·rfl
   ·unfold ifE;rw[ec,bOk,decide_eq_false h,if_neg ay];rfl
mutual
noncomputable def Kd.has:Kd->T->Bool
 | .whole lo hi=>λt=>inR lo hi t
 | .pick cs=>λt=>match t with | .str x=>cs.any λc=>c.1 == x | _=>false
 | .row ks=>λt=>match t with | .tup xs=>xs.length == ks.length && Kd.hass ks xs | _=>false
 | .many k lo hi=>λt=>match t with | .tup xs=>decide (lo<=xs.length) && decide (xs.length<=hi) && xs.all k.has | _=>false
noncomputable def Kd.hass:List Kd->List T->Bool
 | []=>λ_=>true
 | k :: ks=>λxs=>match xs with | []=>true | x :: xs=>k.has x && Kd.hass ks xs
end
theorem JD:∀(ks:List Kd) (xs:List T),Kd.hass ks xs=(ks.zip xs).all λq=>q.1.has q.2
 | [],_=>by simp[Kd.hass]
 | k :: ks,[]=>by simp[Kd.hass]
 | k :: ks,x :: xs=>by simp[Kd.hass,JD ks xs]
noncomputable def Yf:List (List T)->List T->Prop
 | [],[]=>True
 | l :: ls,x :: xs=>x∈l/\Yf ls xs
 | _,_=>False
theorem wk:∀(ls made:List (List T)) (xs:List T),xs∈Z2 made ls↔∃a∈made,∃b,Yf ls b/\xs=a++b
 | [],made,xs=>by
  rw[Z2];constructor
  ·exact λh=>⟨xs,h,[],trivial,by simp⟩
  ·rintro⟨a,ha,b,hb,rfl⟩
   cases b with
   | nil=>simpa using ha
   | cons=>exact hb.elim
 | l :: ls,made,xs=>by
  rw[Z2,wk ls];constructor
  ·rintro⟨a',ha',b,hb,rfl⟩
   obtain⟨a,ha,hx⟩:=cO.mp ha';obtain⟨x,hl,e⟩:=az.mp hx;exact⟨a,ha,x :: b,⟨hl,hb⟩,by rw[← e];simp⟩
  ·rintro⟨a,ha,b,hb,rfl⟩
   cases b with
   | nil=>exact hb.elim
   | cons x b=>exact⟨a++[x],cO.mpr ⟨a,ha,az.mpr ⟨x,hb.1,rfl⟩⟩,b,hb.2,by simp⟩
theorem Ws (ls:List (List T))(t:T):t∈Yd ls↔∃xs,Yf ls xs/\t= .tup xs:=by
 rw[az];constructor
 ·rintro⟨xs,h,rfl⟩
  obtain⟨a,ha,b,hb,rfl⟩:=(wk ls _ xs).mp h;rw[aG.mp ha];exact⟨b,hb,rfl⟩
 ·rintro⟨xs,h,rfl⟩
  exact⟨xs,(wk ls _ xs).mpr ⟨[],aG.mpr rfl,xs,h,rfl⟩,rfl⟩
theorem Wu (l:List T):∀(m:Nat) (xs:List T),Yf (af m l) xs↔xs.length=m/\∀x∈xs,x∈l
 | 0,[]=>by simp[Yf]
 | 0,x :: xs=>by simp[Yf]
 | m+1,[]=>by simp[Yf,bM]
 | m+1,x :: xs=>by
  show x∈l/\Yf _ xs↔_;rw[Wu l m xs];simp;constructor
  ·rintro⟨a,b,c⟩;exact⟨b,a,c⟩
  ·rintro⟨a,b,c⟩;exact⟨b,a,c⟩
theorem uB:∀(ks:List Kd),(∀k∈ks,∀x,x∈k.all↔k.has x=true)->∀xs,Yf (ks.map Kd.all) xs↔(xs.length == ks.length && Kd.hass ks xs)=true
 | [],_,[]=>by simp[Yf,Kd.hass]
 | [],_,x :: xs=>by simp[Yf]
 | k :: ks,h,[]=>by simp[Yf]
 | k :: ks,h,x :: xs=>by
  show x∈k.all/\Yf _ xs↔_;rw[uB ks (λk' hk' =>h k' (a8 _ hk')) xs,h k a9 x];simp[Kd.hass];constructor
  ·rintro⟨a,b,c⟩;exact⟨b,a,c⟩
  ·rintro⟨a,b,c⟩;exact⟨b,a,c⟩
mutual
theorem jm:∀(k:Kd) (x:T),x∈k.all↔k.has x=true
 | .whole lo hi,x=>by
  rw[Kd.all,Kd.has,az];constructor
  ·rintro⟨i,hi',rfl⟩
   rw[aZ]at hi';simp[inR];omega
  ·intro h;obtain⟨i,rfl⟩:=Qh h;simp[inR]at h;exact⟨(i - lo).toNat,by rw[aZ];omega,by congr 1;omega⟩
 | .pick cs,x=>by
  rw[Kd.all,Kd.has,az];constructor
  ·rintro⟨c,hc,rfl⟩
   simp only[dN];exact⟨c,hc,by simp⟩
  ·intro h;dsimp only at h;split at h
   ·rw[dN]at h;obtain⟨c,hc,e⟩:=h;exact⟨c,hc,by rw[eq_of_beq e]⟩
   ·cases h
 | .row ks,x=>by
  rw[Kd.all,Kd.has,Ws,Kd.alls_map];have:=uB ks (yd ks);constructor
  ·rintro⟨xs,h,rfl⟩
   exact(this xs).mp h
  ·intro h;dsimp only at h;split at h
   ·rename_i xs;exact⟨xs,(this xs).mpr h,rfl⟩
   ·cases h
 | .many k lo hi,x=>by
  rw[Kd.all,Kd.has,cO];constructor
  ·rintro⟨i,hi',h⟩
   rw[Ws]at h;obtain⟨xs,h,rfl⟩:=h;rw[Wu]at h;rw[aZ]at hi';simp only[ac,decide_eq_true_eq,aJ];exact⟨⟨by omega,by omega⟩,λy hy=>(jm k y).mp (h.2 y hy)⟩
  ·intro h;dsimp only at h;split at h
   ·rename_i xs;simp only[ac,decide_eq_true_eq,aJ]at h;refine⟨xs.length - lo,by rw[aZ];omega, ?_⟩
    rw[Ws];exact⟨xs,(Wu _ _ _).mpr ⟨by omega,λy hy=>(jm k y).mpr (h.2 y hy)⟩,rfl⟩
   ·cases h
theorem yd:∀(ks:List Kd),∀k∈ks,∀x,x∈k.all↔k.has x=true
 | [],_,h=>nomatch h
 | k :: ks,k',h=>by
  rcases ak.mp h with e | h
  ·intro x;rw[e];exact jm k x
  ·exact yd ks k' h
end
theorem wW:∀(qs:List (Kd×T)) (x y:Sl),(∀q∈qs,c [q.1.t,q.2]= .ok (.bl (q.1.has q.2)))->zJ (Z8 0 1) Z3 (za 2 c (z9 (vE 0) (z9 (vE 1) (zd)))) (qs.map λq=>T.tup [q.1.t,q.2]) [x,y]= .ok (qs.map λq=>T.bl (q.1.has q.2))
 | [],_,_,_=>rfl
 | q :: qs,x,y,h=>by
  have e:za 2 c (z9 (vE 0) (z9 (vE 1) (zd))) [.vl q.1.t,.vl q.2]= .ok (.bl (q.1.has q.2)):=by
   rw[zu,v0,bOk,v1,bOk,h q a9]
  have ih:=wW qs (.vl q.1.t) (.vl q.2) λr hr=>h r (a8 _ hr);have e0:zJ (Z8 0 1) Z3 (za 2 c (z9 (vE 0) (z9 (vE 1) (zd)))) ((q :: qs).map λq=>T.tup [q.1.t,q.2]) [x,y]=
   (za 2 c _ [.vl _,.vl q.2]).bind λv=>(zJ _ _ _ (qs.map λq=>T.tup _) [.vl _,.vl q.2]).bind λvs=> .ok _:=rfl
  rw[e0,e,bOk,ih,bOk,av]
theorem Wv {α:Type}(p:α->Bool):∀qs:List α,u7 (qs.map λq=>T.bl (p q))=some (qs.all p)
 | []=>rfl
 | q :: qs=>by
  have e:u7 ((q :: qs).map λq=>T.bl (p q))=match u7 (qs.map λq=>T.bl _) with | some j=>some _ | none=>none:=rfl
  rw[e,Wv p qs];rfl
theorem z0P (ks:List Kd)(xs:List T):vJ (ks.map Kd.t) xs=(ks.zip xs).map λq=>T.tup [q.1.t,q.2]:=by
 unfold vJ;rw[List.zip_map_left,aM];rfl
theorem ye (ks:List Kd)(xs:List T)(hs:J0 s= .ok (ks.map Kd.t))(hl:ks.length<=3)(H:∀q∈ks.zip xs,c [q.1.t,q.2]= .ok (.bl (q.1.has q.2))):
  zf (z1N c (en0 2 [s,.tup xs]))= .ok (.bl ((ks.zip xs).all λq=>q.1.has q.2)):=by
 have ez:xT (vE 0) (vE 1) [.vl s,.vl (.tup xs)]= .ok ((ks.zip xs).map λq=>T.tup [q.1.t,q.2]):=by
  show (J0 s).bind _=_;rw[hs,← z0P];rfl
 have hb:((ks.zip xs).map λq=>T.tup [q.1.t,q.2]).length<=bnd:=by
  rw[aa,dQ];exact ao (Nat.min_le_left _ _) (ao hl (by decide))
 have ec:zo (Z8 0 1) Z3 (za 2 c (z9 (vE 0) (z9 (vE 1) (zd)))) 2 [] [.vl s,.vl (.tup xs)] ((ks.zip xs).map λq=>T.tup [q.1.t,q.2])= .ok ((ks.zip xs).map λq=>T.bl (q.1.has q.2)):=by
  unfold zo;rw[if_pos hb];show quiet (zJ _ _ _ _ [.un,.un])=_;rw[wW _ _ _ H];rfl
 rw[z1N,zg]
 ·rfl
 ·show ap1 _ _ [.vl s,.vl _]=_;rw[zY,zB,ez,bOk,ec,bOk];show (match u7 ((ks.zip xs).map λq=>T.bl _) with | some k=>_ | none=>_)=_
  rw[Wv]
theorem yf (cs:List (Str×Int))(h:cs.length<=4):f_w [(Kd.pick cs).t]= .ok (.lst (cs.map λc=>T.str c.1)):=by
 have e:f_w [(Kd.pick cs).t]=zf (b_w [.vl (.tup [.str "pick",.tup (cs.map Jt)])]):=by rfl
 have hb:(cs.map Jt).length<=bnd:=by rw[aa];exact ao h (by decide)
 have ec:zo _ _ (zb ixT (vE 0) (cE (.int 0))) 1 [] [.vl (.tup [.str "pick",.tup (cs.map Jt)])] _= .ok ((cs.map Jt).map λc=>match c with | .tup (w :: _)=>w | _=>c):=
  zL _ hb λt ht=>by
   obtain⟨c,_,rfl⟩:=az.mp ht;rfl
 rw[e,b_w,zg]
 ·rfl
 ·show zz _ _ _ _ _ _ [.vl _]=_;show ((zo _ _ _ _ _ _ _).bind _)=_;rw[ec,aM];rfl
theorem yg (t:T):∀cs:List (Str×Int),JL (λy=>eqF 30 y t) (cs.map λc=>T.str c.1)=some ((Kd.pick cs).has t)
 | []=>by cases t <;> rfl
 | c :: cs=>by
  have ih:=yg t cs;have e:JL (λy=>eqF 30 y t) ((c :: cs).map λc=>T.str c.1)=match eqF 30 _ t with
   | none=>none
   | some b=>match JL (λy=>eqF 30 y t) (cs.map λc=>T.str c.1) with
    | none=>none
    | some d=>some _:=rfl
  rw[e,ih];cases t <;> rfl
abbrev en2 (a b:T):En:=[.vl a,.vl b]
theorem Yq (h:(x == w)=false):ifS (zm eqC (zb ixT (vE 0) (cE (.int 0))) (cE (.str w))) f nxS (en2 (.tup (.str x :: r)) b)= .nx (en2 (.tup (.str x :: r)) b):=
 zi (by rw[cs0,h])
theorem z0Q:ifS (zm eqC (zb ixT (vE 0) (cE (.int 0))) (cE (.str x))) f nxS (en2 (.tup (.str x :: r)) b)=f (en2 (.tup (.str x :: r)) b):=
 jT (by rw[cs0,beq_self_eq_true])
theorem QH (lo hi:Int)(x:T):zf (b_f f_d f_h f_w cp (en0 2 [(Kd.whole lo hi).t,x]))= .ok (.bl ((Kd.whole lo hi).has x)):=by
 have e:en0 2 [(Kd.whole lo hi).t,x]=en2 (.tup [.str "whole",.int lo,.int hi]) x:=by rfl
 rw[e,b_f,zw]
 ·rfl
 ·rw[z0Q,zg];show ZJ _ _ (en2 _ x)=_;rw[j5,zH,v1,bOk,Wk];cases x with
  | int i=>
   rw[Y2,jS,bOk,w1,bOk,Ja,bOk,WN,bOk,Ja];show _=R.ok (T.bl (decide _ && decide _));cases decide (lo<=i) <;> rfl
  | _=>rfl
theorem xf (cs:List (Str×Int))(h4:cs.length<=4)(x:T):zf (b_f f_d f_h f_w cp (en0 2 [(Kd.pick cs).t,x]))= .ok (.bl ((Kd.pick cs).has x)):=by
 have e:en0 2 [(Kd.pick cs).t,x]=en2 (.tup [.str "pick",.tup (cs.map Jt)]) x:=by rfl
 have hw:=yf cs h4;rw[Kd.t]at hw;rw[e,b_f,zc (Yq (by decide)),zw]
 ·rfl
 ·rw[z0Q,zg];show ZE _ _ _ (en2 _ x)=_;rw[Z7,w1,bOk,zH,v0,bOk,hw];show ((match JL (λy=>eqF 30 y x) (cs.map λ(c:Str×Int)=>T.str c.1) with | some b=>R.ok b | none=> .bad).bind _)=_
  rw[yg];rfl
theorem KA (ks:List Kd)(h3:ks.length<=3)(x:T)(H:∀xs,x= .tup xs->cp [.tup (ks.map Kd.t),x]= .ok (.bl ((ks.zip xs).all λq=>q.1.has q.2))):zf (b_f f_d f_h f_w cp (en0 2 [(Kd.row ks).t,x]))= .ok (.bl ((Kd.row ks).has x)):=by
 have e:en0 2 [(Kd.row ks).t,x]=en2 (.tup [.str "row",.tup (ks.map Kd.t)]) x:=by rw[Kd.t,Kd.ts_map];rfl
 rw[e,b_f,zc (Yq (by decide)),zc (Yq (by decide)),zw]
 ·rfl
 ·rw[z0Q,zg];show ZJ _ _ (en2 _ x)=_;have el:ap1 zT (zb ixT (vE 0) (cE (.int 1))) (en2 (.tup [.str "row",.tup (ks.map Kd.t)]) x)= .ok (.int (ks.length)):=by
   rw[zY,jS,bOk,ZH,aa]
  rw[j5,zV,v1,bOk,el,bOk,bOk,ZF,Zl,zu,jS,bOk,v1,bOk];cases x with
  | tup xs=>
   rw[H xs rfl];show (if (decide _ && decide _)=true then _ else _)=R.ok (T.bl (xs.length == ks.length && Kd.hass ks xs))
   rw[JD]
   by_cases h:xs.length=ks.length
   ·simp[h]
   ·rw[if_neg (by simp;omega)]
    simp[h]
  | _=>rfl
theorem QI (k:Kd):∀xs:List T,((af xs.length k).zip xs).all (λq=>q.1.has q.2)=xs.all k.has
 | []=>rfl
 | x :: xs=>by
  rw[ai,bM,eI,bR,bR,QI k xs]
theorem xg (k:Kd)(lo hi:Nat)(h3:hi<=3)(x:T)(H:∀xs,x= .tup xs->xs.length<=3->cp [.lst ((af xs.length k).map Kd.t),x]= .ok (.bl (((af xs.length k).zip xs).all λq=>q.1.has q.2))):zf (b_f f_d f_h f_w cp (en0 2 [(Kd.many k lo hi).t,x]))= .ok (.bl ((Kd.many k lo hi).has x)):=by
 have e:en0 2 [(Kd.many k lo hi).t,x]=en2 (.tup [.str "many",k.t,.int (lo),.int (hi)]) x:=by rfl
 rw[e,b_f,zc (Yq (by decide)),zc (Yq (by decide)),zc (Yq (by decide)),zg]
 ·rfl
 ·show ZJ _ _ (en2 _ x)=_;rw[j5,zV,v1,bOk,WN,bOk,Kv,bOk,ZF,Zl];cases x with
  | tup xs=>
   show (if (decide _ && decide _)=true then _ else _)=R.ok (T.bl (decide _ && decide _ && xs.all _))
   cases hh:(decide (lo<=xs.length) && decide (xs.length<=hi)) with
   | false=>rfl
   | true=>
    rw[ac,decide_eq_true_eq,decide_eq_true_eq]at hh;have hx:xs.length<=3:=by omega
    have em:zb Z0 (Ze (z9 (zb ixT (vE 0) (cE (.int 1))) (zd))) (ap1 zT (vB 1)) (en2 (.tup [.str "many",k.t,.int (lo),.int (hi)]) (.tup xs))= .ok (.lst ((af xs.length k).map Kd.t)):=by
     rw[ze,z0J jS,bOk,zY,w1,bOk,ZH,bOk,uy hx,jx,aV]
    rw[zu,em,bOk,v1,bOk,H xs rfl hx,QI];rfl
  | _=>rfl
theorem Xd:∀(d n:Nat),2*d<=n->∀(k:Kd) (x:T),k.Ok d->S_f n 0 [k.t,x]= .ok (.bl (k.has x))
 | 0,_,_,_,_,h=>h.elim
 | d+1,n+2,hn,k,x,h=>by
  have ih:=Xd d n (by omega)
  have e:S_f (n+2) 0 [k.t,x]=zf (b_f f_d f_h f_w (S_f (n+1) 1) (en0 2 [k.t,x])):=by rw[S_f]
  have e1:∀s y,S_f (n+1) 1 [s,y]=zf _:=λs y=>by rw[S_f];intro h;cases h
  cases k with
  | whole lo hi=>exact QH lo hi x
  | pick cs=>exact xf cs h.2.1 x
  | row ks=>
   refine KA ks h.2.1 x λxs hx=> ?_;rw[e1,hx,ye ks xs rfl h.2.1 λq hq=>ih q.1 q.2 (h.2.2 q.1 (c8 hq).1)]
  | many k lo hi=>
   refine xg k lo hi h.2.1 x λxs hx h3=> ?_;rw[e1,hx,ye _ xs rfl (by rw[aN];exact h3) λq hq=>ih q.1 q.2 (by
    rw[bx (c8 hq).1];exact h.2.2)]
theorem uC:∀(d:Nat) (k:Kd),k.Ok d->isK d k.t=true
 | 0,_,h=>h.elim
 | d+1,.whole lo hi,h=>by
  have e:isK (d+1) (Kd.whole lo hi).t=(decide (-20<=lo) && decide (lo<=hi) && decide (hi<=20)):=by rfl
  obtain⟨h1,h2,h3⟩:=h;rw[e];simp;omega
 | d+1,.pick cs,h=>by
  have e:isK (d+1) (Kd.pick cs).t=(decide (1<=(cs.map Jt).length) && decide ((cs.map Jt).length<=4) && (cs.map Jt).all zr && decide ((dd [] ((cs.map Jt).map Zh)).length=(cs.map Jt).length)):=by rfl
  obtain⟨h1,h2,h3,h4⟩:=h;have e1:(cs.map Jt).map Zh=cs.map (·.1):=by rw[aM];rfl
  have e2:=(wa _ []).mpr λk w hw=>by simpa using h4 k w hw
  rw[e,e1,e2,aa];simp only[ac,decide_eq_true_eq,aJ];refine⟨⟨⟨h1,h2⟩,λc hc=> ?_⟩,by simp⟩
  obtain⟨p,hp,rfl⟩:=az.mp hc;obtain⟨a,b,c⟩:=h3 p hp;show (zM _ && decide _ && decide _)=true;rw[a];simp;omega
 | d+1,.row ks,h=>by
  have e:isK (d+1) (Kd.row ks).t=(decide (1<=(ks.map Kd.t).length) && decide ((ks.map Kd.t).length<=3) && (ks.map Kd.t).all (isK d)):=by rw[Kd.t,Kd.ts_map];rfl
  obtain⟨h1,h2,h3⟩:=h;rw[e,aa];simp only[ac,decide_eq_true_eq,aJ];refine⟨⟨h1,h2⟩,λc hc=> ?_⟩;obtain⟨k,hk,rfl⟩:=az.mp hc;exact uC d k (h3 k hk)
 | d+1,.many k lo hi,h=>by
  have e:isK (d+1) (Kd.many k lo hi).t=((decide ((0:Int)<=(lo:Int)) && decide ((lo:Int)<=(hi)) && decide ((hi:Int)<=3)) && isK d k.t):=by rfl
  obtain⟨h1,h2,h3⟩:=h;rw[e,uC d k h3];simp;omega
theorem Ww:∀(ks:List Kd) (xs:List T),xs.length=ks.length->Kd.hass ks xs=true->∀x∈xs,∃k∈ks,k.has x=true
 | [],[],_,_,_,h=>nomatch h
 | k :: ks,[],h,_,_,_=>by cases h
 | [],x :: xs,h,_,_,_=>by cases h
 | k :: ks,x :: xs,hl,h,y,hy=>by
  rw[Kd.hass]at h;rw[ac]at h;rcases ak.mp hy with rfl | hy
  ·exact⟨k,a9,h.1⟩
  ·obtain⟨k',hk,hh⟩:=Ww ks xs (by simpa using hl) h.2 y hy
   exact⟨k',a8 _ hk,hh⟩
theorem jn (t:T)(ht:sOk t):f_z [t]=if isK 3 t=true then .ok .non else .ex 0:=by
 have e:f_z [t]=zf (b_z _ [.vl t]):=rfl;have ec:jz (Z9 (za 1 f_1 (z9 (vE 0) (zd)))) [.vl t]= .ok (!isK 3 t):=by
  rw[Jk,ZV,zH,v0,bOk,Y4 t ht,bOk,Zo,bOk]
 rw[e,b_z,Zm,ec];cases isK 3 t <;> rfl
theorem Ul (k:Kd)(hk:k.Ok 3)(x:T):z0q [k.t,x]= .ok (.bl (k.has x)):=by
 have hi:=uC 3 k hk;have e:z0q [k.t,x]=zf (z1O _ _ (en2 k.t x)):=rfl;have e1:wA (za 1 f_z (z9 (vE 0) (zd))) (en2 k.t x)= .nx (en2 k.t x):=by
  show (za 1 _ _ _).s _=_;rw[zH,v0,bOk,jn _ (jR 3 _ hi).so,hi,if_pos rfl,Za]
 have hh:f_f 20 _= .ok _:=Xd 3 20 (by omega) k x hk
 rw[e,z1O,zc e1,zg]
 ·rfl
 ·show za 2 _ _ (en2 k.t x)=_;rw[zu,v0,bOk,v1,bOk,hh]
theorem yh (h:f ρ= .ex c):zh f g ρ= .ex c:=by rw[zx,h]
theorem yi {α β:Type}(f:α->List β)(m:Nat):∀(as:List α) (i j:Nat),(∀a∈as,(f a).length=m)->j < m->(as.flatMap f)[i*m+j]? =(as[i]?).bind λa=>(f a)[j]?
 | [],i,j,_,_=>by simp
 | a :: as,0,j,h,hj=>by
  have ha:=h a a9;rw[bp,Nat.zero_mul,fE,aR (by omega)]
  rfl
 | a :: as,i+1,j,h,hj=>by
  have ha:=h a a9;have e:(i+1)*m=i*m+m:=by rw[dz,bU]
  rw[bp,aO (by omega),ha,e,show i*m+m+j - m=i*m+j by omega,yi f m as i j (λb hb=>h b (a8 _ hb)) hj]
  rfl
theorem uD {α β:Type}(f:α->List β):∀(as:List α) (q j:Nat) (a:α),as[q]? =some a->j < (f a).length->(as.flatMap f)[((as.take q).map λb=>(f b).length).sum+j]? =(f a)[j]?
 | [],q,j,a,h,_=>by simp at h
 | b :: as,0,j,a,h,hj=>by
  have e:=by simpa using h
  subst e;rw[bp,List.take_zero,bO,List.sum_nil,fE,aR hj]
 | b :: as,q+1,j,a,h,hj=>by
  rw[bp,List.take_succ_cons,av,cJ,Nat.add_assoc,aO (by omega),Nat.add_sub_cancel_left]
  exact uD f as q j a (by simpa using h) hj
theorem wX:∀(ls made:List (List T)) (l:List T),Z2 made (ls++[l])=(Z2 made ls).flatMap λa=>l.map λx=>a++[x]
 | [],made,l=>rfl
 | _ :: ls,made,l=>by
  rw[cu,Z2,Z2,wX ls]
theorem xh {ls:List (List T)}(h:(Z2 [[]] ls)[i]? =some xs)(hx:l[j]? =some x):(Z2 [[]] (ls++[l]))[i*l.length+j]? =some (xs++[x]):=by
 have hj:=(au.mp hx).1;rw[wX,yi _ _ _ i j (λa _=>aa ..) hj,h];show (l.map λx=>xs++[x])[j]? =_;rw[aA,hx];rfl
theorem yj:∀(ns:List Nat) (n:Nat),prd (ns++[n])=prd ns*n
 | [],n=>by simp[prd]
 | m :: ns,n=>by rw[cu,prd,prd,yj ns n,d0]
theorem wY (ls:List (List T)):(Z2 [[]] ls).length=prd (ls.map (·.length)):=by rw[wj,aB,bU]
theorem yk {α:Type}{xs:List α}(h:i < xs.length):∃x,xs[i]? =some x:=⟨_,ah h⟩
theorem z0R {xs:List T}{j:Nat}{v:T}(h:xs[j]? =some v):atT xs (j:Int)= .ok v:=by unfold atT;rw[Zw h]
noncomputable def shr (c lo q:Nat):Nat:=((aX q).map λi=>c ^ (lo+i)).sum
theorem xi (c lo q:Nat):shr c lo (q+1)=shr c lo q+c ^ (lo+q):=by
 unfold shr;rw[fH,c9];simp
theorem KC (hq:q < hi+1 - lo)(h:(Z2 [[]] (af (lo+q) k.all))[j]? =some xs):(Kd.many k lo hi).all[shr k.all.length lo q+j]? =some (.tup xs):=by
 have hj:=(au.mp h).1;have e:=uD (λi=>Yd (af _ _)) _ q j q (by rw[di hq]) (by rw[aa];exact hj)
 have e2:(((aX (hi+1 - lo)).take q).map λb=>(Yd (af (lo+b) k.all)).length).sum=shr k.all.length lo q:=by
  rw[List.take_range,cY (fq hq),shr];congr 1
  refine ce λi _=> ?_;rw[JC,aV,jk]
 rw[e2]at e;rw[Kd.all,e];rw[aA,h];rfl
abbrev cpB (c:List T->R T):En->RS:=zp 1 (zb Z0 (vE 1) (za 1 c (z9 (vE 2) (zd))))
theorem QJ:∀(ks:List Kd) (m:Nat) (x:Sl),(∀k∈ks,c [k.t]= .ok (.int (k.all.length:Int))/\1<=k.all.length)->m*prd (ks.map λk=>k.all.length) < 2 ^ 60->
  ∃y,Zn (zq 2) (cpB c) (ks.map Kd.t) [S,.vl (.int (m:Int)),x]= .nx [S,.vl (.int ((m*prd (ks.map λk=>k.all.length):Nat):Int)),y]
 | [],m,x,_,_=>⟨x,by simp[Zn,prd]⟩
 | k :: ks,m,x,H,hb=>by
  obtain⟨hc,h1⟩:=H k a9;have hp:=wg λn hn=>by
   obtain⟨k',hk',rfl⟩:=az.mp hn;exact(H k' (a8 _ hk')).2
  rw[av,prd,← d0]at hb;have hm:m < 2 ^ 60:=by
   have h2:m<=m*k.all.length:=cN _ h1;have h3:m*k.all.length<=m*k.all.length*prd (ks.map λk=>k.all.length):=cN _ hp;omega
  have eb:cpB c [S,.vl (.int (m)),.vl k.t]= .nx [S,.vl (.int ((m*k.all.length:Nat))),.vl k.t]:=by
   rw[cpB,zE]
   ·rfl
   ·rw[ze,v1,bOk,zH,v2,bOk,hc,bOk,Qz hm]
  obtain⟨y,ih⟩:=QJ (S:=S) ks _ _ (λk' hk' =>H k' (a8 _ hk')) hb;refine⟨y, ?_⟩;rw[av,j6 rfl eb,ih,av,prd,d0]
theorem wl (ks:List Kd)(hs:jP s= .ok (ks.map Kd.t))(H:∀k∈ks,c [k.t]= .ok (.int (k.all.length:Int))/\1<=k.all.length)(hb:prd (ks.map λk=>k.all.length) < 2 ^ 60):
  zf (z0r c (en0 3 [s]))= .ok (.int ((prd (ks.map λk=>k.all.length):Nat):Int)):=by
 obtain⟨y,e⟩:=QJ ks 1 .un H (by rw[bU];exact hb)
 rw[bU]at e;have e0:zp 1 (cE (.int 1)) [.vl s,.un,.un]= .nx [.vl s,.vl _,.un]:=rfl;have e1:ZK (Zb (vE 0)) (zq 2) (cpB c) [.vl s,.vl (.int 1),.un]= .nx [.vl s,.vl (.int ((prd (ks.map λk=>k.all.length)):Int)),y]:=by
  show ((jP s).s λts=>Zn _ _ ts _)=_;rw[hs];exact e
 show zf (z0r c [.vl s,.un,.un])=_;rw[z0r,zc e0,zc e1];rfl
theorem QK {α:Type}(g:α->Nat):∀l:List α,ZN (l.map λa=>T.int ((g a:Nat):Int))=some (l.map λa=>((g a:Nat):Int))
 | []=>rfl
 | a :: l=>by
  show (match ZN (l.map λa=>T.int _) with | some l=>some _ | none=>none)=_
  rw[QK g l];rfl
theorem yl {α:Type}(g:α->Nat):∀l:List α,(l.map λa=>((g a:Nat):Int)).sum=(((l.map g).sum:Nat):Int)
 | []=>rfl
 | a :: l=>by rw[av,cJ,av,cJ,yl g l];omega
theorem z0S {α:Type}(g:α->Nat)(l:List α):kT (.lst (l.map λa=>T.int ((g a:Nat):Int)))= .ok (.int (((l.map g).sum:Nat):Int)):=by
 unfold kT;dsimp only;rw[QK,← yl]
theorem jV (k:Kd)(m:Nat):((af m k).map λk=>k.all.length)=af m k.all.length:=by rw[aV]
theorem QL (h4:lo+q<=4)(H:∀m,m<=3->c [.lst (af m t)]= .ok (.int ((n ^ m:Nat):Int))):
  zf (b_y c (en0 2 [mt t lo hi,.int ((lo+q:Nat):Int)]))= .ok (.int ((shr n lo q:Nat):Int)):=by
 have er:Jr (zb ixT (vE 0) (cE (.int 2))) (vE 1) [.vl (mt t lo hi),.vl (.int ((lo+q:Nat)))]= .ok (rng (lo) q):=by
  rw[Uj rfl rfl ⟨by omega,by omega,by omega,by omega⟩]
  congr 2;omega
 have ec:zo _ _ (za 1 c (z9 (zb _ _ _) _)) 1 [0] [.vl _,.vl (.int ((lo+q:Nat)))] _= .ok ((rng (lo) q).map λx=>match x with | .int i=>T.int ((n ^ i.toNat:Nat)) | y=>y):=
  zL _ (by unfold rng;rw[aa,bo];have:bnd=16777216:=rfl;omega) λx hx=>by
   obtain⟨i,hi',rfl⟩:=az.mp hx;have hi2:=aZ.mp hi';show za 1 c _ [.vl _,.vl _]=_;have e1:zb Z0 (Ze (z9 (zb ixT (vE 1) (cE (.int 1))) (zd))) (vE 0) [.vl (.int ((lo)+(i))),.vl (mt t lo hi)]= .ok (.lst (af (lo+i) t)):=by
    have e0:zb ixT (vE 1) (cE (.int 1)) [.vl (.int ((lo)+(i))),.vl (mt t lo hi)]= .ok t:=rfl;rw[ze,z0J e0,bOk,v0,bOk,show (lo:Int)+(i)=((lo+i:Nat)) by omega,uy (by omega),jx]
   rw[zH,e1,bOk,H _ (by omega)]
   show _=R.ok (T.int _);rw[show ((lo:Int)+(i)).toNat=lo+i by omega]
 rw[b_y,zg]
 ·rfl
 ·show ap1 _ _ [.vl _,.vl _]=_;rw[zY,zB,er,bOk,ec,bOk,bOk];have e2:((rng (lo) q).map λx=>match x with | .int i=>T.int ((n ^ i.toNat:Nat)) | y=>y)=(aX q).map λi=>T.int ((n ^ (lo+i):Nat)):=by
   unfold rng;rw[aM];refine ce λi _=> ?_;show T.int _=_;rw[show ((lo:Int)+(i)).toNat=lo+i by omega]
  rw[e2,z0S (λi=>n ^ (lo+i))];rfl
theorem Xe (h:n<=mx d)(hd:d<=2)(hm:m<=3):n ^ m < 2 ^ 60:=by
 have h2:mx d<=70644:=by
  have:d=0\/d=1\/d=2:=by omega
  rcases this with rfl | rfl | rfl <;> decide
 have h3:=ao (Nat.pow_le_pow_left (ao h h2) m) (bQ (by omega) hm)
 omega
theorem ym:∀(d n:Nat),3*d<=n->d<=3->∀k:Kd,k.Ok d->S_3 n 0 [k.t]= .ok (.int (k.all.length:Int))
 | 0,_,_,_,_,h=>h.elim
 | d+1,n+3,hn,hd,k,h=>by
  have ih:=ym d n (by omega) (by omega)
  have ih1:=ym d (n+1) (by omega) (by omega)
  have e:S_3 (n+3) 0 [k.t]=zf (b_3 _ _ [.vl k.t]):=rfl;have e2:∀s u,S_3 (n+2) 2 [s,u]=zf _:=λs u=>rfl;rw[e,b_3];cases k with
  | whole lo hi=>
   obtain⟨h1,h2,h3⟩:=h;rw[jl];simp only[Kd.t];rw[zw (t:= .int _)]
   ·rfl
   ·rw[jT (by rw[cs0,beq_self_eq_true]),zg]
    show R.ok _=_;congr 2;omega
  | pick cs=>
   rw[Wr];simp only[Kd.t];rw[zc (zi (by rfl)),zw]
   ·rfl
   ·rw[jT (by rw[cs0,beq_self_eq_true]),zg]
    show R.ok _=_;rw[aa]
  | row ks=>
   obtain⟨h1,h2,h3⟩:=h;rw[Jc];simp only[Kd.t];rw[Kd.ts_map,zc (zi (by rfl)),zc (zi (by rfl)),zw]
   ·rfl
   ·rw[jT (by rw[cs0,beq_self_eq_true]),zg]
    have hl:=jC (d+1) (.row ks) ⟨h1,h2,h3⟩;rw[Jc]at hl;exact wl ks rfl (λk hk=>⟨ih1 k (h3 k hk),ZS d k (h3 k hk)⟩) (z0L hl hd)
  | many k lo hi=>
   obtain⟨h1,h2,h3⟩:=h;rw[jw];simp only[Kd.t];rw[zc (zi (by rfl)),zc (zi (by rfl)),zc (zi (by rfl)),zg]
   ·rfl
   ·show za 2 _ _ [.vl _]=_;rw[zu,v0,bOk,Ye Kv,bOk,e2,show (hi:Int)+1=((lo+(hi+1 - lo):Nat)) by omega]
    refine QL (by omega) λm hm=> ?_
    have hp:prd ((af m k).map λk=>k.all.length)=k.all.length ^ m:=by rw[jV,jk]
    rw[← hp];refine wl _ (by rw[aV];rfl) (λk' hk' => ?_) (by rw[hp];exact Xe (jC d k h3) (by omega) hm)
    rw[bx hk'];exact⟨ih k h3,ZS d k h3⟩
theorem j3 {d:Nat}(hd:d<=3){k:Kd}(h:k.Ok d):f_3 20 [k.t]= .ok (.int (k.all.length:Int)):=ym d 20 (by omega) hd k h
theorem yn {d:Nat}(hd:d<=2){k:Kd}(h:k.Ok d){lo hi q:Nat}(h4:lo+q<=4):f_y 20 [mt k.t lo hi,.int ((lo+q:Nat):Int)]= .ok (.int ((shr k.all.length lo q:Nat):Int)):=by
 have e:f_y 20 [mt k.t lo hi,.int ((lo+q:Nat))]=zf (b_y (S_3 19 1) (en0 2 [mt k.t lo hi,.int ((lo+q):Int)])):=rfl;rw[e];refine QL h4 λm hm=> ?_;have hp:prd ((af m k).map λk=>k.all.length)=k.all.length ^ m:=by rw[jV,jk]
 rw[← hp];refine wl _ (by rw[aV];rfl) (λk' hk' => ?_) (by rw[hp];exact Xe (jC d k h) hd hm)
 rw[bx hk'];exact⟨ym d 18 (by omega) (by omega) k h,ZS d k h⟩
abbrev paB (cc cw:List T->R T):En->RS:=zh (zp 5 (za 1 cc (z9 (vE 4) (zd))))
  (zh (Vb 2 (za 2 cw (z9 (vE 4) (z9 (zb j2 (vE 3) (vE 5)) (zd)))))
  (zp 3 (zb W9 (vE 3) (vE 5))))
structure AtOk (cc cw:List T->R T) (k:Kd):Prop where
 cnt:cc [k.t]= .ok (.int (k.all.length:Int))
 at_:∀(i:Nat) x,k.all[i]? =some x->cw [k.t,.int (i:Int)]= .ok x
 pos:1<=k.all.length
 le:k.all.length < 1000000
theorem v5' :vE 5 (a :: b :: c :: d :: e :: .vl t :: ρ)= .ok t:=rfl
theorem QM {n c:Nat}(h:1<=c):j2 (.int (n:Int)) (.int (c:Int))= .ok (.int ((n % c:Nat):Int)):=by
 unfold j2;dsimp only;rw[if_pos (by omega)];rfl
theorem KD {n c:Nat}(h:1<=c)(h' :c < 1000000):W9 (.int (n:Int)) (.int (c:Int))= .ok (.int ((n / c:Nat):Int)):=by
 unfold W9;dsimp only;rw[if_pos (by omega)];rfl
theorem z0T (hi:ρ[i]? =some (.ow ts))(hl:ts.length < bnd)(h:f ρ= .ok t):Vb i f ρ= .nx (ρ.set i (.ow (ts++[t]))):=by
 unfold Vb;rw[hi];dsimp only;rw[h,Za,if_pos hl]
theorem QN {cc cw:List T->R T}{S N:Sl}:∀(rs:List Kd) (acc:List T) (n:Nat) (x y:Sl),(∀k∈rs,AtOk cc cw k)->n < prd (rs.map λk=>k.all.length)->acc.length+rs.length<=1000->
  ∃xs r x' y',(Z2 [[]] (rs.reverse.map Kd.all))[n]? =some xs/\Zn (zq 4) (paB cc cw) (rs.map Kd.t) [S,N,.ow acc,.vl (.int (n:Int)),x,y]= .nx [S,N,.ow (acc++xs.reverse),r,x',y']
 | [],acc,n,x,y,_,hn,_=>⟨[],.vl (.int (n)),x,y,by
   have:=by simp[prd]at hn;exact hn
   subst this;rfl,by simp[Zn]⟩
 | k :: rs,acc,n,x,y,H,hn,hl=>by
  obtain⟨hc,hw,h1,hle⟩:=H k a9;rw[ai]at hl;have hb:bnd=16777216:=rfl;have hmod:n % k.all.length < k.all.length:=ie _ h1;obtain⟨v,hv⟩:=yk hmod;have hdiv:=Nat.div_lt_of_lt_mul hn;obtain⟨xs,r,x',y',e1,e2⟩:=QN rs (acc++[v]) _ _ _ (λk' hk' =>H k' (a8 _ hk')) hdiv (by rw[ax,aB];omega)
  have b1:zp 5 (za 1 cc (z9 (vE 4) (zd))) [S,N,.ow acc,.vl (.int (n)),.vl k.t,y]= .nx [S,N,.ow acc,.vl (.int (n)),.vl k.t,.vl (.int (k.all.length))]:=by
   rw[zE]
   ·rfl
   ·rw[zH,v4,bOk,hc]
  have b2:Vb 2 (za 2 cw (z9 (vE 4) (z9 (zb j2 (vE 3) (vE 5)) (zd)))) [S,N,.ow acc,.vl (.int (n)),.vl k.t,.vl (.int (k.all.length))]= .nx [S,N,.ow (acc++[v]),.vl (.int (n)),.vl k.t,.vl (.int (k.all.length))]:=by
   rw[z0T rfl (by omega)]
   ·rfl
   ·rw[zu,v4,bOk,ze,v3,bOk,v5',bOk,QM h1,bOk,hw _ v hv]
  have b3:zp 3 (zb W9 (vE 3) (vE 5)) [S,N,.ow (acc++[v]),.vl (.int (n)),.vl k.t,.vl (.int (k.all.length))]= .nx [S,N,.ow (acc++[v]),.vl (.int ((n / k.all.length:Nat))),.vl k.t,.vl (.int (k.all.length))]:=by
   rw[zE]
   ·rfl
   ·rw[ze,v3,bOk,v5',bOk,KD h1 hle]
  have eb:paB cc cw [S,N,.ow acc,.vl (.int (n)),.vl k.t,y]= .nx [S,N,.ow (acc++[v]),.vl (.int ((n / k.all.length:Nat))),.vl k.t,.vl (.int (k.all.length))]:=by
   rw[paB,zc b1,zc b2,b3]
  refine⟨xs++[v],r,x',y', ?_, ?_⟩
  ·have:=xh e1 hv;rw[cR,Nat.div_add_mod]at this;rw[cF,c9];exact this
  ·rw[av,j6 rfl eb,e2];simp
theorem QO:∀ns:List Nat,prd ns.reverse=prd ns
 | []=>rfl
 | n :: ns=>by rw[cF,yj,QO ns,prd,cR]
theorem wm {cc cw:List T->R T}{s:T}(ks:List Kd)(hs:J0 s= .ok (ks.map Kd.t))(hl:ks.length<=3)(H:∀k∈ks,AtOk cc cw k){n:Nat}{xs:List T}(hx:(Z2 [[]] (ks.map Kd.all))[n]? =some xs):
  zf (z0v cc cw (en0 6 [s,.int (n:Int)]))= .ok (.tup xs):=by
 have hn:=(au.mp hx).1;rw[wY,aM]at hn;have hr:(ks.reverse.map λk=>k.all.length)=(ks.map λk=>k.all.length).reverse:=by rw[iV]
 obtain⟨ys,r,x',y',e1,e2⟩:=QN _ [] n .un .un (λk hk=>H k (List.mem_reverse.mp hk)) (by rw[hr,QO];exact hn) (by rw[cf,bi];omega)
 rw[fW,hx]at e1;cases e1;have e0:UI 2 (zd) [.vl s,.vl (.int (n)),.un,.un,.un,.un]= .nx [.vl s,.vl _,.ow [],.un,.un,.un]:=rfl;have e3:zp 3 (vE 1) [.vl s,.vl (.int (n)),.ow [],.un,.un,.un]= .nx [.vl s,.vl _,.ow [],.vl _,.un,.un]:=rfl;have e4:ZK (z3i (vE 0)) (zq 4) (paB cc cw) [.vl s,.vl (.int (n)),.ow [],.vl (.int (n)),.un,.un]= .nx [.vl s,.vl (.int (n)),.ow xs.reverse,r,x',y']:=by
  show (((J0 s).bind λxs=>R.ok _).s λts=>Zn _ _ ts _)=_;rw[hs,bOk,← iV];exact e2
 have hlen:xs.reverse.length<=bnd:=by
  have:∀(ls made:List _) (m:Nat),(∀a∈made,a.length<=m)->∀a∈Z2 made ls,a.length<=m+ls.length:=by
   intro ls
   induction ls with
   | nil=>intro made m h a ha;exact h a ha
   | cons l ls ih=>
    intro made m h a ha;have:=ih (made.flatMap λa=>l.map λx=>a++[x]) (m+1) (λb hb=>by
     obtain⟨c,hc,hb⟩:=cO.mp hb;obtain⟨z,_,rfl⟩:=az.mp hb;have:=h c hc;rw[ax,aB];omega) a ha
    rw[ai];omega
  have h1:=this _ _ 0 (λa ha=>by rw[aG.mp ha];exact am _) xs (cB hx)
  rw[aa]at h1;rw[cf];have hb:bnd=16777216:=rfl;omega
 show zf (z0v cc cw [.vl s,.vl _,.un,.un,.un,.un])=_;rw[z0v,zc e0,zc e3,zc e4,zg]
 ·rfl
 ·show Vy (.lst _)=_;unfold Vy;dsimp only;rw[if_pos hlen,fW]
abbrev mtT:En->R Bool:=zm leC (za 2 (f_y 20) (z9 (vE 0) (z9 (zb zn (vE 2) (cE (.int 1))) (zd)))) (vB 1)
abbrev mtB:En->RS:=zp 2 (zb zn (vE 2) (cE (.int 1)))
theorem w1n:vB 1 (a :: .vl t :: ρ)= .ok t:=rfl
theorem QP {d:Nat}(hd:d<=2){k:Kd}(h:k.Ok d){lo hi n:Nat}(h1:lo<=hi)(h3:hi<=3)(hn:n < shr k.all.length lo (hi+1 - lo)):∀(f q:Nat),q<=hi - lo->hi - lo - q < f->shr k.all.length lo q<=n->
  ∃q',q' <=hi - lo/\shr k.all.length lo q' <=n/\n < shr k.all.length lo (q' +1)/\Zy mtT mtB f [.vl (mt k.t lo hi),.vl (.int (n:Int)),.vl (.int ((lo+q:Nat):Int))]= .nx [.vl (mt k.t lo hi),.vl (.int (n:Int)),.vl (.int ((lo+q' :Nat):Int))]
 | 0,q,_,hf,_=>by omega
 | f+1,q,hq,hf,hs=>by
  have et:mtT [.vl (mt k.t lo hi),.vl (.int (n)),.vl (.int ((lo+q:Nat)))]= .ok (decide (shr k.all.length lo (q+1)<=n)):=by
   rw[mtT,zA,zu,v0,bOk,Ye v2,bOk,show ((lo+q:Nat):Int)+1=((lo+(q+1):Nat)) by omega,yn hd h (by omega),bOk,w1n,bOk,Ja,wV]
  have eu:Zy mtT mtB (f+1) [.vl (mt k.t lo hi),.vl (.int (n)),.vl (.int ((lo+q:Nat)))]=(mtT _).s λk' =>if k' =true then match mtB [.vl _,.vl _,.vl (.int _)] with
    | .nx ρ2=>Zy mtT mtB f ρ2
    | .ct ρ2=>Zy mtT mtB f ρ2
    | .bk ρ2=> .nx ρ2
    | r=>r
   else .nx _:=rfl
  rw[eu,et,Za]
  by_cases hc:shr k.all.length lo (q+1)<=n
  ·rw[if_pos (decide_eq_true hc)];have hq2:q+1<=hi - lo:=by
    rcases Nat.lt_or_ge q _ with z | z
    ·exact z
    ·have:q=hi - lo:=by omega
     rw[this,show hi - lo+1=hi+1 - lo by omega]at hc
     omega
   have eb:mtB [.vl (mt k.t lo hi),.vl (.int (n)),.vl (.int ((lo+q:Nat)))]= .nx [.vl (mt k.t lo hi),.vl (.int (n)),.vl (.int ((lo+(q+1):Nat)))]:=by
    rw[mtB,zE]
    ·rfl
    ·rw[Ye v2,show ((lo+q:Nat):Int)+1=((lo+(q+1):Nat)) by omega]
   exact QP hd h h1 h3 hn f _ hq2 (by omega) hc
  ·rw[if_neg (by simpa using hc)]
   exact⟨q,hq,hs,by omega,rfl⟩
theorem z0U {i j:Nat}(h:j<=i):jg (.int (i:Int)) (.int (j:Int))= .ok (.int ((i - j:Nat):Int)):=by
 rw[Zi];congr 2;omega
theorem Yg {d:Nat}(hd:d<=2){k:Kd}(h:k.Ok d){cp:List T->R T}{lo hi n:Nat}(h1:lo<=hi)(h3:hi<=3)(hn:n < shr k.all.length lo (hi+1 - lo))
  (H:∀(m:Nat),m<=3->∀(j:Nat) (xs:List T),(Z2 [[]] (af m k.all))[j]? =some xs->cp [.lst (af m k.t),.int (j:Int)]= .ok (.tup xs)):
  ∃x,(Kd.many k lo hi).all[n]? =some x/\zf (z0u (f_y 20) cp (en0 3 [mt k.t lo hi,.int (n:Int)]))= .ok x:=by
 obtain⟨q,hq,hs,hs',e⟩:=QP hd h h1 h3 hn 8 0 (by omega) (by omega) (by unfold shr;simp)
 rw[xi]at hs';have hj:n - shr k.all.length lo q < (Z2 [[]] (af (lo+q) k.all)).length:=by
  rw[wY,aV,jk];omega
 obtain⟨xs,hx⟩:=yk hj;have ha:=KC (hi:=hi) (by omega) hx
 rw[show shr _ lo q+(n - shr _ lo q)=n by omega]at ha
 refine⟨_,ha, ?_⟩;have e0:zp 2 (zb ixT (vE 0) (cE (.int 2))) [.vl (mt k.t lo hi),.vl (.int (n:Int)),.un]= .nx [.vl _,.vl _,.vl (.int ((lo+0:Nat)))]:=rfl;show zf (z0u _ cp [.vl _,.vl _,.un])=_;rw[z0u,zc e0,zc e,zg]
 ·rfl
 ·show za 2 cp _ [.vl _,.vl _,.vl _]=_;have em:zb Z0 (Ze (z9 (zb ixT (vE 0) (cE (.int 1))) (zd))) (vE 2) [.vl (mt k.t lo hi),.vl (.int (n)),.vl (.int ((lo+q:Nat)))]= .ok (.lst (af (lo+q) k.t)):=by
   rw[ze,z0J jS,bOk,v2,bOk,uy (by omega),jx]
  rw[zu,em,bOk,ze,v1,bOk,zu,v0,bOk,v2,bOk,yn hd h (by omega),bOk,z0U hs,bOk,H _ (by omega) _ xs hx]
theorem QR {d:Nat}(hd:d<=2){k:Kd}(h:k.Ok d):k.all.length < 1000000:=by
 have h1:=jC d k h;have h2:mx d<=70644:=by
  have:d=0\/d=1\/d=2:=by omega
  rcases this with rfl | rfl | rfl <;> decide
 omega
theorem jG:∀(d n:Nat),3*d<=n->d<=3->∀k:Kd,k.Ok d->∀(i:Nat) (x:T),k.all[i]? =some x->S_j n 0 [k.t,.int (i:Int)]= .ok x
 | 0,_,_,_,_,h=>h.elim
 | d+1,n+3,hn,hd,k,h=>by
  intro i x hx;have ih:=jG d n (by omega) (by omega)
  have ih1:=jG d (n+1) (by omega) (by omega)
  have e:S_j (n+3) 0 [k.t,.int (i:Int)]=zf (b_j f_w _ _ (en2 k.t (.int (i:Int)))):=rfl;have hi' :=(au.mp hx).1;rw[e,b_j];cases k with
  | whole lo hi=>
   rw[Kd.all,aA]at hx;rw[jl]at hi';rw[di hi']at hx;cases hx;rw[zw]
   ·rfl
   ·rfl
  | pick cs=>
   have hw:=yf cs h.2.1;simp only[Kd.t]at hw ⊢;rw[zc (Yq (by decide)),zw]
   ·rfl
   ·rw[z0Q,zg];show zb ixT _ _ (en2 _ _)=_;rw[ze,zH,v0,bOk,hw,v1];exact z0R hx
  | row ks=>
   obtain⟨h1,h2,h3⟩:=h;rw[Kd.all,Kd.alls_map,aA]at hx;cases hr:(Z2 _ _)[i]? with
   | none=>rw[hr]at hx;cases hx
   | some xs=>
    rw[hr]at hx;cases hx;simp only[Kd.t];rw[Kd.ts_map,zc (Yq (by decide)),zc (Yq (by decide)),zw]
    ·rfl
    ·rw[z0Q,zg];refine wm ks rfl h2 (λk hk=>⟨j3 (by omega) (h3 k hk),ih1 k (h3 k hk),ZS d k (h3 k hk),QR (by omega) (h3 k hk)⟩) hr
  | many k lo hi=>
   obtain⟨h1,h2,h3⟩:=h;rw[jw]at hi';obtain⟨x',hx',hv⟩:=Yg (cp:=S_j (n+1) 2) (by omega) h3 h1 h2 hi' (λm hm j xs hr=>by
    refine wm _ (by rw[aV];rfl) (by rw[aN];exact hm) (λk' hk' => ?_) (by rw[aV];exact hr)
    rw[bx hk'];exact⟨j3 (by omega) h3,ih k h3,ZS d k h3,QR (by omega) h3⟩)
   rw[hx]at hx';cases hx';simp only[Kd.t];rw[zc (Yq (by decide)),zc (Yq (by decide)),zc (Yq (by decide)),zg]
   ·rfl
   ·show za 2 _ _ (en2 _ _)=_;rw[zu,v0,bOk,v1,bOk];exact hv
theorem z0V {k:Kd}(h:k.Ok 3){i:Nat}{x:T}(hx:k.all[i]? =some x):f_j 20 [k.t,.int (i:Int)]= .ok x:=jG 3 20 (by omega) (by omega) k h i x hx
theorem wZ:∀(ls made:List (List T)) (m:Nat),(∀a∈made,a.length=m)->∀a∈Z2 made ls,a.length=m+ls.length
 | [],made,m,h,a,ha=>h a ha
 | l :: ls,made,m,h,a,ha=>by
  have:=wZ ls (made.flatMap λa=>l.map λx=>a++[x]) (m+1) (λb hb=>by
   obtain⟨c,hc,hb⟩:=cO.mp hb;obtain⟨z,_,rfl⟩:=az.mp hb;rw[ax,aB,h c hc]) a ha
  rw[ai];omega
noncomputable def Pl:Nat->T->Prop
 | 0,_=>False
 | n+1,.tup xs=>∀x∈xs,Pl n x
 | n+1,.lst xs=>∀x∈xs,Pl n x
 | _+1,.fz _=>False
 | _+1,_=>True
theorem JE {f:T->T->Option Bool}:∀(xs ys:List T),(∀x∈xs,∀y,∃b,f x y=some b)->∃b,eqL f xs ys=some b
 | [],[],_=>⟨_,rfl⟩
 | [],_ :: _,_=>⟨_,rfl⟩
 | _ :: _,[],_=>⟨_,rfl⟩
 | x :: xs,y :: ys,h=>by
  obtain⟨b,hb⟩:=h x a9 y;obtain⟨c,hc⟩:=JE xs ys λz hz=>h z (a8 _ hz);exact⟨b && c,by unfold eqL;rw[hb,hc]⟩
theorem Zr {f:T->T->Option Bool}:∀(xs:List T),(∀x∈xs,f x x=some true)->eqL f xs xs=some true
 | [],_=>rfl
 | x :: xs,h=>by
  unfold eqL;rw[h x a9,Zr xs λz hz=>h z (a8 _ hz)];rfl
theorem JF:∀(n:Nat) (y x:T),Pl n y->∃b,eqF n y x=some b
 | 0,_,_,h=>h.elim
 | n+1,y,x,h=>by
  cases y with
  | tup xs=>
   cases x with
   | tup ys=>exact JE xs ys λz hz u=>JF n z u (h z hz)
   | _=>exact⟨false,by rw[eqF] <;> intros <;> first | rfl | contradiction | (intro z)⟩
  | lst xs=>
   cases x with
   | lst ys=>exact JE xs ys λz hz u=>JF n z u (h z hz)
   | fz ys=>exact JE xs ys λz hz u=>JF n z u (h z hz)
   | _=>exact⟨false,by rw[eqF] <;> intros <;> first | rfl | contradiction | (intro z)⟩
  | fz xs=>exact h.elim
  | non=>cases x <;> exact⟨_,rfl⟩
  | bl b=>cases x <;> exact⟨_,rfl⟩
  | int i=>cases x <;> exact⟨_,rfl⟩
  | str i=>cases x <;> exact⟨_,rfl⟩
theorem Zd:∀(n:Nat) (y:T),Pl n y->eqF n y y=some true
 | 0,_,h=>h.elim
 | n+1,y,h=>by
  cases y with
  | tup xs=>exact Zr xs λz hz=>Zd n z ((h) z hz)
  | lst xs=>exact Zr xs λz hz=>Zd n z ((h) z hz)
  | fz xs=>exact h.elim
  | non=>rfl
  | bl b=>show some _=_;simp
  | int i=>show some _=_;simp
  | str i=>show some _=_;simp
theorem Pl.up:∀(n:Nat) (y:T),Pl n y->Pl (n+1) y
 | 0,_,h=>h.elim
 | n+1,y,h=>by
  cases y with
  | tup xs=>exact λz hz=>Pl.up n z ((h) z hz)
  | lst xs=>exact λz hz=>Pl.up n z ((h) z hz)
  | fz xs=>exact h.elim
  | _=>exact trivial
theorem Pl.le (hm:n<=m)(h:Pl n y):Pl m y:=by
 obtain⟨j,rfl⟩:∃j,m=n+j:=⟨m - n,by omega⟩
 clear hm
 induction j with
 | zero=>exact h
 | succ j ih=>exact Pl.up _ _ ih
theorem Wx (h:Pl 30 t):neC t t= .ok false:=by unfold neC;rw[Zd 30 t h];rfl
theorem uE {f:T->Option Bool}:∀(ts:List T),(∀t∈ts,∃b,f t=some b)->∃b,JL f ts=some b/\(b=false->∀t∈ts,f t=some false)
 | [],_=>⟨false,rfl,λ_ _ h=>nomatch h⟩
 | t :: ts,h=>by
  obtain⟨b,hb⟩:=h t a9;obtain⟨c,hc,h'⟩:=uE ts λu hu=>h u (a8 _ hu);refine⟨b || c,by unfold JL;rw[hb,hc],λe u hu=> ?_⟩
  rw[Bool.or_eq_false_iff]at e;rcases ak.mp hu with rfl | hu
  ·rw[hb,e.1]
  ·exact h' e.2 u hu
theorem QS {k:Kd}(hk:k.Ok 3):f_z [k.t]= .ok .non:=by
 have hi:=uC 3 k hk;rw[jn _ (jR 3 _ hi).so,if_pos hi]
theorem wn (h:f ρ= .ok t):wA f ρ= .nx ρ:=by unfold wA;rw[h,Za]
theorem Um (h:f ρ= .ex c):wA f ρ= .ex c:=by unfold wA;rw[h];rfl
theorem KG (ht:sOk t)(hi:isK 3 t=false):f_z [t]= .ex 0:=by
 rw[jn _ ht,hi];rfl
theorem Wy {k:Kd}(hk:k.Ok 3)(x:T):z1Q [k.t,x]=if k.has x=true then .ok .non else .ex 1:=by
 show zf (z1P _ (en2 k.t x))=_;have ec:jz (Z9 (za 2 z0q (z9 (vE 0) (z9 (vE 1) (zd))))) (en2 k.t x)= .ok (!k.has x):=by
  rw[Jk,ZV,zu,v0,bOk,v1,bOk,Ul k hk x,bOk,Zo,bOk]
 rw[z1P,Zm,ec];cases k.has x <;> rfl
theorem all_map (k:Kd):((rng 0 k.all.length).map λt=>match t with | .int i=>(k.all[i.toNat]?).getD .non | y=>y)=k.all:=by
 unfold rng;rw[aM];refine dG λi=> ?_;rw[aA]
 by_cases hi:i < k.all.length
 ·rw[di hi];show some ((k.all[((0:Int)+(i)).toNat]?).getD _)=_;rw[show ((0:Int)+(i)).toNat=i by omega]
  obtain⟨x,hx⟩:=yk hi;rw[hx];rfl
 ·rw[aS (by simpa using hi),aS (by omega)];rfl
theorem QT (hf:f ρ= .ok (.int j))(h: -1000000 < j/\j < 1000000):zX f ρ= .ok (rng 0 j.toNat):=by
 unfold zX;rw[hf];exact if_pos h
theorem xj:gtC (.int i) (.int j)= .ok (decide (j < i)):=rfl
theorem Wz {k:Kd}(hk:k.Ok 3)(h5:k.all.length<=500):gr [k.t]= .ok (.lst k.all):=by
 show zf (X4 _ _ _ [.vl k.t,.un])=_;have e1:zp 1 (za 1 (f_3 20) (z9 (vE 0) (zd))) [.vl k.t,.un]= .nx (en2 k.t (.int (k.all.length))):=by
  rw[zE]
  ·rfl
  ·rw[zH,v0,bOk,j3 (by omega) hk]
 have e2:zm gtC (vB 1) (cE (.int 500)) (en2 k.t (.int (k.all.length)))= .ok false:=by
  rw[zA,w1,bOk,zI,bOk,xj,decide_eq_false (by omega)]
 have er:zX (vE 1) (en2 k.t (.int (k.all.length)))= .ok (rng 0 k.all.length):=by
  rw[QT rfl ⟨by omega,by omega⟩,aY]
 have ec:zo _ _ (za 2 (f_j 20) (z9 (vE 1) (z9 (vE 0) _))) 1 [0] (en2 k.t (.int (k.all.length))) (rng 0 k.all.length)= .ok ((rng 0 _).map λt=>match t with | .int i=>(k.all[i.toNat]?).getD .non | y=>y):=
  zL _ (by unfold rng;rw[aa,bo];have:bnd=16777216:=rfl;omega) λt ht=>by
   obtain⟨i,hi,rfl⟩:=az.mp ht;obtain⟨x,hx⟩:=yk (aZ.mp hi);show za 2 _ _ (en2 _ k.t)=R.ok ((k.all[((0:Int)+(i)).toNat]?).getD _);rw[show ((0:Int)+(i))=(i) by omega,zu,v1,bOk,v0,bOk,z0V hk hx,aY,hx]
   rfl
 have e3:z1C (zX (vE 1)) (zq 0) (Z3) (za 2 (f_j 20) (z9 (vE 1) (z9 (vE 0) (zd)))) 1 [0] (en2 k.t (.int (k.all.length)))= .rf k.all:=by
  show ((zX _ (en2 k.t _)).s λts=>(zo _ _ _ _ _ (en2 k.t _) ts).s λvs=>RS.rf vs)=_;rw[er,Za,ec,Za,all_map]
 rw[X4,zc (wn (by rw[zH,v0,bOk,QS hk])),zc e1,zc (zi e2),e3]
 rfl
theorem wE {k:Kd}(hk:k.Ok 3)(h5:500 < k.all.length):gr [k.t]= .ex 3:=by
 show zf (X4 _ _ _ [.vl k.t,.un])=_;have e1:zp 1 (za 1 (f_3 20) (z9 (vE 0) (zd))) [.vl k.t,.un]= .nx (en2 k.t (.int (k.all.length))):=by
  rw[zE]
  ·rfl
  ·rw[zH,v0,bOk,j3 (by omega) hk]
 have e2:zm gtC (vB 1) (cE (.int 500)) (en2 k.t (.int (k.all.length)))= .ok true:=by
  rw[zA,w1,bOk,zI,bOk,xj,decide_eq_true (by omega)]
 rw[X4,zc (wn (by rw[zH,v0,bOk,QS hk])),zc e1,yh]
 ·rfl
 ·rw[jT e2];rfl
theorem WA (ht:sOk t)(hi:isK 3 t=false):gr [t]= .ex 0:=by
 show zf (X4 _ _ _ [.vl t,.un])=_;rw[X4,yh (Um (by rw[zH,v0,bOk,KG ht hi]))]
 rfl
abbrev en6 (w t x:T)(a:T):En:=[.vl w,.vl t,.vl x,.vl .non,.vl a,.un]
theorem z0W:f_l 0= .ok (.str "no kind"):=by rfl
theorem z3J:f_l 3= .ok (.str "too many"):=by rfl
theorem Xf (b:Bool)(h:(i == j)=b):zm eqC (vB 0) (cE (.int j)) (en6 (.int i) t x a)= .ok b:=by
 show R.ok _=_;rw[h]
theorem z0X (h:f ρ= .ex c):zp i f ρ= .ex c:=by rw[Zt,h];rfl
theorem set4 (h:f (en6 w t x .non)= .ok v):zp 4 f (en6 w t x .non)= .nx (en6 w t x v):=by rw[zE h];rfl
theorem z3K (h:g ρ= .ok true):ifE g f f' ρ=f ρ:=by unfold ifE;rw[h];rfl
theorem z3L (h:g ρ= .ok false):ifE g f f' ρ=f' ρ:=by unfold ifE;rw[h];rfl
theorem lst3 (hf:f ρ= .ok x)(hg:g ρ= .ok y)(hh:h ρ= .ok z):Ze (z9 f (z9 g (z9 h zd))) ρ= .ok (.lst [x,y,z]):=by
 unfold Ze z9 zd;rw[hf,hg,hh];rfl
inductive W:Nat->T->Prop where
 | int (d:Nat) (i:Int):W d (.int i)
 | str (d:Nat) (s:Str):W d (.str s)
 | tup {d:Nat} {xs:List T} (h:xs.length<=3) (r:∀x∈xs,W d x):W (d+1) (.tup xs)
theorem z3M:∀(d:Nat) (k:Kd) (x:T),k.Ok (d+1)->k.has x=true->W d x
 | d,.whole lo hi,x,_,h=>by
  cases x <;> first | exact .int _ _ | (simp[Kd.has,inR]at h)
 | d,.pick cs,x,_,h=>by
  cases x <;> first | exact .str _ _ | (simp[Kd.has]at h)
 | 0,.row ks,x,hk,h=>by
  obtain⟨h1,h3,hk⟩:=hk
  match ks,h1,hk with
  | k :: _,_,hk=>exact(hk k a9).elim
 | 0,.many k lo hi,x,hk,h=>hk.2.2.elim
 | d+1,.row ks,x,hk,h=>by
  obtain⟨h1,h3,hk⟩:=hk;cases x with
  | tup xs=>
   rw[Kd.has]at h;simp only[ac,beq_iff_eq]at h;obtain⟨hl,hh⟩:=h;refine .tup (by omega) λx hx=> ?_
   obtain⟨k,hm,hx'⟩:=Ww ks xs hl hh x hx;exact z3M d k x (hk k hm) hx'
  | _=>simp[Kd.has]at h
 | d+1,.many k lo hi,x,hk,h=>by
  obtain⟨h1,h3,hk⟩:=hk;cases x with
  | tup xs=>
   rw[Kd.has]at h;simp only[ac,decide_eq_true_eq,aJ]at h;obtain⟨⟨hl,hl'⟩,hh⟩:=h;refine .tup (by omega) λx hx=> ?_
   exact z3M d k x hk (hh x hx)
  | _=>simp[Kd.has]at h
mutual
noncomputable def lv:T->List T
 | .tup xs=>lvs xs
 | .non=>[.non]
 | .bl b=>[.bl b]
 | .int b=>[.int b]
 | .str b=>[.str b]
 | .lst b=>[.lst b]
 | .fz b=>[.fz b]
noncomputable def lvs:List T->List T
 | []=>[]
 | x :: xs=>lv x++lvs xs
end
theorem z0Y (xs:List T):lv (.tup xs)=lvs xs:=by rw[lv]
theorem WB (x:T)(xs:List T):lvs (x :: xs)=lv x++lvs xs:=by rw[lvs]
theorem QU:lvs []=[]:=by rw[lvs]
theorem QV:∀xs:List T,(∀x∈xs,(lv x).length<=n)->(lvs xs).length<=xs.length*n
 | [],_=>by exact br _
 | x :: xs,h=>by
  rw[WB,ax,ai,fx];have h1:=h x a9;have h2:=QV xs λy hy=>h y (a8 _ hy);omega
theorem pow3 (d:Nat):1<=3 ^ d:=Nat.one_le_pow _ _ (by omega)
theorem QW (h:W d x):(lv x).length<=3 ^ d:=by
 induction h with
 | int d i=>exact pow3 d
 | str d i=>exact pow3 d
 | @tup d xs h r ih=>
  rw[z0Y];have:=QV xs ih;have h3:=d8 (3 ^ d) h;omega
inductive Lf:T->Prop where
 | int (i:Int):Lf (.int i)
 | str (i:Str):Lf (.str i)
theorem Xg:∀(xs:List T),(∀x∈xs,∀y∈lv x,Lf y)->∀y∈lvs xs,Lf y
 | [],_,y,hy=>by cases hy
 | x :: xs,h,y,hy=>by
  rcases dr.mp hy with hy | hy
  ·exact h x a9 y hy
  ·exact Xg xs (λz hz=>h z (a8 _ hz)) y hy
theorem z3N (h:W d x):∀y∈lv x,Lf y:=by
 induction h with
 | int d i=>intro y hy;rw[aG.mp hy];exact .int _
 | str d i=>intro y hy;rw[aG.mp hy];exact .str _
 | @tup d xs h r ih=>intro y hy;exact Xg xs ih y hy
theorem z0Z (hi:ρ[i]? =some (.ow ts))(h:f ρ= .ok (.lst us))(hl:ts.length+us.length<=bnd):yT i f ρ= .nx (ρ.set i (.ow (ts++us))):=by
 unfold yT;rw[hi];dsimp only;rw[h,Za];dsimp only;rw[if_pos hl]
abbrev loB (c:List T->R T):En->RS:=yT 1 (za 1 c (z9 (vE 2) (zd)))
theorem QX (hn:n<=1000):∀(xs:List T) (acc:List T) (x:Sl),(∀x∈xs,c [x]= .ok (.lst (lv x))/\(lv x).length<=n)->acc.length+xs.length*n<=1000000->
  ∃x',Zn (zq 2) (loB c) xs [a,.ow acc,x]= .nx [a,.ow (acc++lvs xs),x']
 | [],acc,x,_,_=>⟨x,by rw[QU,bJ];rfl⟩
 | y :: xs,acc,x,H,hb=>by
  obtain⟨e,hl⟩:=H y a9;rw[ai,fx]at hb;have hB:bnd=16777216:=rfl;obtain⟨x',h⟩:=QX hn xs (acc++lv y) _ (λz hz=>H z (a8 _ hz)) (by rw[ax];omega)
  refine⟨x', ?_⟩;have s2:zq 2 y [a,.ow acc,x]= .ok _:=rfl;have b2:loB c [a,.ow acc,.vl y]= .nx [a,.ow (acc++lv y),.vl y]:=by
   have z:za 1 c (z9 (vE 2) (zd)) [a,.ow acc,.vl y]= .ok (.lst (lv y)):=by rw[zH,v2,bOk,e]
   exact z0Z rfl z (by omega)
  rw[j6 s2 b2,h,WB,aU]
theorem Xh:jz (Z9 (ap1 (ZQ "tuple") (vB 0))) (.vl x :: r)= .ok (!(match x with | .tup _=>true | _=>false)):=by
 all_goals (cases x <;> rfl)
theorem wo:∀(n d:Nat),d < n->d<=3->∀x:T,W d x->S_r n 0 [x]= .ok (.lst (lv x))
 | 0,d,h,_,_,_=>absurd h (fJ _)
 | n+1,d,h,h3,x,hx=>by
  show zf (b_r _ [.vl x,.un,.un])=_;rw[b_r];cases hx with
  | int d i=>
   rfl
  | str d i=>
   rfl
  | @tup d xs hl r=>
   have hp:3 ^ d<=27:=bQ (by omega) (show d<=3 by omega)
   obtain⟨x',el⟩:=QX (by omega) xs [] .un (λy hy=>⟨wo n d (by omega) (by omega) y (r y hy),QW (r y hy)⟩) (by have:=ba hl hp;simp;omega)
   have e1:UI 1 zd [.vl (.tup xs),.un,.un]= .nx [.vl _,.ow [],.un]:=rfl;have e2:ZK (Zb (vE 0)) (zq 2) (loB (S_r n 0)) [.vl (.tup xs),.ow [],.un]= .nx [.vl (.tup xs),.ow ([]++lvs xs),x']:=by
    exact el
   rw[zc (zi Xh),zc e1,zc e2,bP];rfl
abbrev llB (c:List T->R T):En->RS:=zp 1 (zb zn (vE 1) (za 1 c (z9 (vE 2) (zd))))
theorem Xi (h:xs.length+ys.length<=1000000):zn (.lst xs) (.lst ys)= .ok (.lst (xs++ys)):=by
 unfold zn;dsimp only;rw[if_pos (by have hB:bnd=16777216:=rfl;omega)]
theorem QY (hn:n<=1000):∀(xs:List T) (acc:List T) (x:Sl),(∀x∈xs,c [x]= .ok (.lst (lv x))/\(lv x).length<=n)->acc.length+xs.length*n<=1000000->
  ∃x',Zn (zq 2) (llB c) xs [a,.vl (.lst acc),x]= .nx [a,.vl (.lst (acc++lvs xs)),x']
 | [],acc,x,_,_=>⟨x,by rw[QU,bJ];rfl⟩
 | y :: xs,acc,x,H,hb=>by
  obtain⟨e,hl⟩:=H y a9;rw[ai,fx]at hb;obtain⟨x',h⟩:=QY hn xs (acc++lv y) _ (λz hz=>H z (a8 _ hz)) (by rw[ax];omega)
  refine⟨x', ?_⟩;have s2:zq 2 y [a,.vl (.lst acc),x]= .ok _:=rfl;have b2:llB c [a,.vl (.lst acc),.vl y]= .nx [a,.vl (.lst (acc++lv y)),.vl y]:=by
   have z:zb zn (vE 1) (za 1 c (z9 (vE 2) (zd))) [a,.vl (.lst acc),.vl y]= .ok (.lst (acc++lv y)):=by rw[ze,v1,bOk,zH,v2,bOk,e,bOk,Xi (by omega)]
   exact zE z
  rw[j6 s2 b2,h,WB,aU]
theorem yo:∀(n d:Nat),d < n->d<=3->∀x:T,W d x->S_u n 0 [x]= .ok (.lst (lv x))
 | 0,d,h,_,_,_=>absurd h (fJ _)
 | n+1,d,h,h3,x,hx=>by
  show zf (b_u _ [.vl x,.un,.un])=_;rw[b_u];cases hx with
  | int d i=>
   rfl
  | str d i=>
   rfl
  | @tup d xs hl r=>
   have hp:3 ^ d<=27:=bQ (by omega) (show d<=3 by omega)
   obtain⟨x',el⟩:=QY (by omega) xs [] .un (λy hy=>⟨yo n d (by omega) (by omega) y (r y hy),QW (r y hy)⟩) (by have:=ba hl hp;simp;omega)
   have e1:zp 1 (Ze zd) [.vl (.tup xs),.un,.un]= .nx [.vl _,.vl _,.un]:=rfl;have e2:ZK (Zb (vE 0)) (zq 2) (llB (S_u n 0)) [.vl (.tup xs),.vl (.lst []),.un]= .nx [.vl (.tup xs),.vl (.lst ([]++lvs xs)),x']:=by
    exact el
   rw[zc (zi Xh),zc e1,zc e2,bP];rfl
theorem ZD {p:T->Bool}{js:List Nat}(ts:List T)(hl:ts.length<=bnd)(H:∀t∈ts,ft ((JO k js ρ).set 0 (.vl t))= .ok (p t)/\fe ((JO k js ρ).set 0 (.vl t))= .ok t):zo (zq 0) ft fe k js ρ ts= .ok (ts.filter p):=by
 unfold zo;rw[if_pos hl,zR (h:=id) ts _ λt ht=>⟨(H t ht).1,λ_=>(H t ht).2⟩,eO];rfl
noncomputable def ZT:List T->List Int
 | []=>[]
 | .int i :: r=>i :: ZT r
 | .non :: r=>ZT r
 | .bl _ :: r=>ZT r
 | .str _ :: r=>ZT r
 | .tup _ :: r=>ZT r
 | .lst _ :: r=>ZT r
 | .fz _ :: r=>ZT r
theorem wp:∀ts:List T,ts.filter isW=(ZT ts).map T.int
 | []=>rfl
 | t :: ts=>by
  have ih:=wp ts;rw[bW,ih];cases t <;> rfl
theorem Uo:∀is:List Int,ZN (is.map T.int)=some is
 | []=>rfl
 | i :: is=>by
  have e:ZN ((i :: is).map T.int)=match ZN _ with | some l=>some _ | none=>none:=rfl
  rw[e,Uo is]
theorem WC:∀ts:List T,(ZT ts).length<=ts.length
 | []=>am _
 | t :: ts=>by
  have ih:=WC ts;cases t <;> simp only[ZT,ai] <;> omega
theorem w9 (hd:d<=2)(h:W d x):(lv x).length<=9:=ao (QW h) (bQ (by omega) hd)
theorem Yh (hd:d<=2)(h:W d x):z1Y [x]= .ok (.lst ((ZT (lv x)).map T.int)):=by
 show zf _=_;have hl:=w9 hd h;have ec:zo _ (Z9 (za 1 f_d (z9 (vE 0) _))) (vE 0) 1 [] [.vl x] (lv x)= .ok _:=
  ZD _ (by have hB:bnd=16777216:=rfl;omega) λt _=>⟨by
   show Z9 _ [.vl t]=_;rw[ZV,zH,v0,bOk,Wk,bOk,Zo],rfl⟩
 rw[z3s,zg]
 ·rfl
 ·show zz _ _ _ _ _ _ [.vl x]=_;have hv:f_r 8 [x]= .ok _:=wo 8 d (by omega) (by omega) x h
  rw[zB,Zg,zH,v0,bOk,hv];show ((zo _ _ _ _ _ _ _).bind _)=_;rw[ec,bOk,wp]
noncomputable def asc (is:List Int):Bool:=(is.zip (is.drop 1)).all λq=>decide (q.1<=q.2)
theorem QZ:∀(qs:List (Int×Int)) (x y:Sl),zJ (Z8 0 1) Z3 (ZE leC (vB 0) (vB 1)) (qs.map λq=>T.tup [.int q.1,.int q.2]) [x,y]= .ok (qs.map λq=>T.bl (decide (q.1<=q.2)))
 | [],_,_=>rfl
 | q :: qs,x,y=>by
  have ih:=QZ qs (.vl (.int q.1)) (.vl (.int q.2));have e0:zJ (Z8 0 1) Z3 (ZE leC (vB 0) (vB 1)) ((q :: qs).map λq=>T.tup [.int q.1,.int q.2]) [x,y]=
   (R.ok (T.bl _)).bind λv=>(zJ _ _ _ (qs.map λq=>T.tup [.int q.1,.int q.2]) [.vl _,.vl _]).bind λvs=> .ok _:=rfl
  rw[e0,bOk,ih,bOk,av]
theorem KH (xs:List T):cut xs (some ((1:Nat):Int)) none=xs.drop 1:=by
 unfold cut;rw[HT.sIx_nat,HT.sIx_none]
 by_cases h:1<=xs.length
 ·rw[cY h,dI (by rw[cq];omega)]
 ·have:xs=[]:=e_.mp (by omega)
  subst this;rfl
theorem v6 (is:List Int)(hl:is.length<=100):z3u [.lst (is.map T.int)]= .ok (.bl (asc is)):=by
 show zf _=_;have hz:xT (vE 0) (slE (vE 0) (zU (cE (.int 1))) (noO)) [.vl (.lst (is.map T.int))]= .ok ((is.zip (is.drop 1)).map λq=>T.tup [.int q.1,.int q.2]):=by
  show R.ok (vJ _ (cut _ (some ((1:Nat))) _))=_;rw[KH,← List.map_drop];unfold vJ;rw[List.zip_map,aM];rfl
 have ec:zo (Z8 0 1) Z3 (ZE leC (vB 0) (vB 1)) 2 [] [.vl (.lst (is.map T.int))] ((is.zip (is.drop 1)).map λq=>T.tup [.int q.1,.int q.2])= .ok ((is.zip (is.drop 1)).map λq=>T.bl (decide (q.1<=q.2))):=by
  unfold zo;rw[if_pos (by rw[aa,dQ];have hB:bnd=16777216:=rfl;omega)]
  show quiet (zJ _ _ _ _ [.un,.un])=_;rw[QZ];rfl
 rw[z3t,zg]
 ·rfl
 ·show ap1 _ _ [.vl _]=_;rw[zY,zB,hz,bOk,ec,bOk];show (match u7 _ with | some k=>R.ok _ | none=> .bad)=_
  rw[Wv (λq=>decide _)];rfl
theorem Zu (x y:Int)(r:List Int):asc (x :: y :: r)=(decide (x<=y) && asc (y :: r)):=by
 unfold asc;rw[g_,d7,eI,bR,g_,d7]
theorem v7 (x:Int):∀l:List Int,asc l=true->asc (UQ x l)=true/\∀y,(∀z∈l,y<=z)->y<=x->∀z∈UQ x l,y<=z
 | [],_=>⟨rfl,λy _ h z hz=>by rw[aG.mp hz];exact h⟩
 | [a],_=>by
  rw[UQ];split
  ·rename_i h;exact⟨by rw[Zu,decide_eq_true h];rfl,λy h1 h2 z hz=>by
    rcases ak.mp hz with rfl | hz
    ·exact h2
    ·exact h1 z hz⟩
  ·rw[UQ];exact⟨by rw[Zu,decide_eq_true (by omega)];rfl,λy h1 h2 z hz=>by
    rcases ak.mp hz with rfl | hz
    ·exact h1 _ a9
    ·rw[aG.mp hz];exact h2⟩
 | a :: b :: r,h=>by
  rw[Zu,ac,decide_eq_true_eq]at h;obtain⟨ih1,ih2⟩:=v7 x _ h.2;rw[UQ];split
  ·rename_i hx;exact⟨by rw[Zu,decide_eq_true hx,Zu,decide_eq_true h.1,h.2];rfl,λy h1 h2 z hz=>by
    rcases ak.mp hz with rfl | hz
    ·exact h2
    ·exact h1 z hz⟩
  ·refine⟨?_,λy h1 h2 z hz=>by
    rcases ak.mp hz with rfl | hz
    ·exact h1 _ a9
    ·exact ih2 y (λw hw=>h1 w (a8 _ hw)) h2 z hz⟩
   rw[UQ]at ih1 ⊢;split
   ·rename_i hb;rw[if_pos hb]at ih1;rw[Zu,decide_eq_true (by omega),ih1];rfl
   ·rename_i hb;rw[if_neg hb]at ih1;rw[Zu,decide_eq_true h.1,ih1];rfl
theorem v8:∀l:List Int,asc (qL l)=true
 | []=>rfl
 | x :: l=>by rw[qL];exact(v7 x _ (v8 l)).1
theorem v9:∀l:List Int,asc l=true->qL l=l
 | [],_=>rfl
 | [x],_=>rfl
 | x :: y :: r,h=>by
  rw[Zu,ac,decide_eq_true_eq]at h;rw[qL,v9 _ h.2,UQ,if_pos h.1]
theorem yq:∀xs ys:List Int,∃b,eqL (eqF n) (xs.map T.int) (ys.map T.int)=some b/\(b=true↔xs=ys)
 | [],[]=>⟨true,rfl,by simp⟩
 | [],y :: ys=>⟨false,rfl,by simp⟩
 | x :: xs,[]=>⟨false,rfl,by simp⟩
 | x :: xs,y :: ys=>by
  obtain⟨b,e,h⟩:=yq xs ys;have e0:eqL _ ((x :: xs).map T.int) ((y :: ys).map T.int)=match eqF n _ _ with
   | none=>none
   | some b=>match eqL _ _ _ with
    | none=>none
    | some c=>some _:=rfl
  have e1:eqF n (.int x) (.int y)=some (x == y):=by cases n <;> rfl
  refine⟨(x == y) && b,by rw[e0,e1,e], ?_⟩
  rw[ac,beq_iff_eq,h,List.cons.injEq]
theorem va (is:List Int):eqC (.lst (is.map T.int)) (.lst ((qL is).map T.int))= .ok (asc is):=by
 obtain⟨b,e,h⟩:=yq is _;have e0:eqF 30 (.lst _) (.lst _)=some b:=e;unfold eqC;rw[e0];show R.ok b=_;congr 1
 cases hb:b with
 | true=>
  have:=h.mp hb;rw[this];exact(v8 is).symm
 | false=>
  cases ha:asc is with
  | false=>rfl
  | true=>rw[hb]at h;exact absurd (h.mpr (v9 is ha).symm) ay
theorem Q5 (is:List Int)(hl:is.length<=60):Vz (.lst (is.map T.int))= .ok (.lst ((qL is).map T.int)):=by
 unfold Vz;dsimp only;rw[Uo];dsimp only;rw[if_pos (by rw[aa];omega)]
theorem z10 (is:List Int):kT (.lst (is.map T.int))= .ok (.int is.sum):=by
 unfold kT;dsimp only;rw[Uo]
def inB (xs:List T)(x:T):Bool:=(JL (λy=>eqF 30 y x) xs).getD false
theorem z11 (x:T)(h:∀y∈xs,Pl 30 y):JL (λy=>eqF 30 y x) xs=some (inB xs x):=by
 obtain⟨b,e,_⟩:=uE xs λt ht=>JF 30 t x (h t ht);unfold inB;rw[e];rfl
theorem W.pl (h:W d x):Pl (d+1) x:=by
 induction h with
 | int d i=>exact trivial
 | str d i=>exact trivial
 | @tup d xs h r ih=>exact ih
theorem W.pl30 (h:W d x)(hd:d<=2):Pl 30 x:=h.pl.le (by omega)
noncomputable def Zf:T->List T
 | .tup xs=>xs
 | .non=>[.non]
 | .bl b=>[.bl b]
 | .int b=>[.int b]
 | .str b=>[.str b]
 | .lst b=>[.lst b]
 | .fz b=>[.fz b]
theorem KI (h:W d x):z1Z [x]= .ok (.tup (Zf x)):=by cases h <;> rfl
theorem uF (h:W d x):(Zf x).length<=3:=by
 cases h with
 | int=>exact(by decide:1<=3)
 | str=>exact(by decide:1<=3)
 | tup h _=>exact h
theorem yr (h:W d x)(hd:d<=2):∀y∈Zf x,Pl 30 y:=by
 cases h with
 | int=>intro y hy;rw[aG.mp hy];exact trivial
 | str=>intro y hy;rw[aG.mp hy];exact trivial
 | @tup d xs h r=>intro y hy;exact(r y hy).pl30 (by omega)
def un (ps:List T):Bool:= !(ps.zipIdx.any λp=>inB (ps.take p.2) p.1)
theorem uG {xs:List T}{k:Nat}:slT (.tup xs) none (some (k:Int))= .ok (.tup (xs.take k)):=by
 show R.ok _=_;have:cut xs none (some (k))=xs.take k:=by
  unfold cut;rw[HT.sIx_none,HT.sIx_nat];simp only[d7,iA];rw[fP];omega
 rw[this]
theorem vb {ps:List T}(h:∀y∈ps,Pl 30 y)(k:Nat)(x:T):inC x (.tup (ps.take k))= .ok (inB (ps.take k) x):=by
 show (match JL (λy=>eqF 30 y x) _ with | some b=>R.ok b | none=> .bad)=_
 rw[z11 x λy hy=>h y (List.mem_of_mem_take hy)]
abbrev ulE:En->R T:=ZE inC (vB 1) (slE (vE 2) (noO) (zU (vE 0)))
theorem vc {ps:List T}(h:∀y∈ps,Pl 30 y):∀(qs:List (T×Nat)) (x y:Sl),zJ (Z8 0 1) Z3 ulE (qs.map λp=>T.tup [.int (p.2:Nat),p.1]) [x,y,.vl (.tup ps)]= .ok (qs.map λp=>T.bl (inB (ps.take p.2) p.1))
 | [],_,_=>rfl
 | q :: qs,x,y=>by
  have ih:=vc h qs (.vl (.int (q.2))) (.vl q.1);have e:ulE [.vl (.int (q.2)),.vl q.1,.vl (.tup ps)]= .ok (.bl (inB (ps.take q.2) q.1)):=by
   have e2:slE (vE 2) noO (zU (vE 0)) [.vl (.int (q.2)),.vl q.1,.vl (.tup ps)]=slT (.tup ps) _ _:=rfl;unfold ulE;rw[Z7,w1,bOk,e2,uG,bOk,vb h,bOk]
  have e0:zJ (Z8 0 1) Z3 ulE ((q :: qs).map λp=>T.tup [.int (p.2),p.1]) [x,y,.vl (.tup ps)]=
   (ulE [.vl _,.vl q.1,.vl _]).bind λv=>(zJ _ _ ulE (qs.map λp=>T.tup _) [.vl _,.vl q.1,.vl _]).bind λvs=> .ok _:=rfl
  rw[e0,e,bOk,ih,bOk,av]
theorem uH {α:Type}(p:α->Bool):∀qs:List α,wB (qs.map λq=>T.bl (p q))=some (qs.any p)
 | []=>rfl
 | q :: qs=>by
  have e:wB ((q :: qs).map λq=>T.bl (p q))=match wB (qs.map λq=>T.bl _) with | some j=>some _ | none=>none:=rfl
  rw[e,uH p qs];rfl
theorem vd (h:∀y∈ps,Pl 30 y)(hl:ps.length<=100):z3w [.tup ps]= .ok (.bl (un ps)):=by
 show zf _=_;have ec:zo (Z8 0 1) Z3 ulE 2 [0] [.vl (.tup ps)] (jQ ps)= .ok (ps.zipIdx.map λp=>T.bl (inB (ps.take p.2) p.1)):=by
  unfold zo;rw[if_pos (by unfold jQ;rw[aa,ic];have hB:bnd=16777216:=rfl;omega)]
  show quiet (zJ _ _ _ _ [.un,.un,.vl _])=_;unfold jQ;rw[vc h];rfl
 rw[z3v,zg]
 ·rfl
 ·have e1:zz (US (vE 0)) (Z8 0 1) Z3 ulE 2 [0] [.vl (.tup ps)]= .ok (.lst (ps.zipIdx.map λp=>T.bl (inB (ps.take p.2) p.1))):=by
   show ((R.ok _).bind _)=_;rw[bOk,ec,bOk]
  have e2:ap1 z3k (zz (US (vE 0)) (Z8 0 1) Z3 ulE 2 [0]) [.vl (.tup ps)]= .ok (.bl (ps.zipIdx.any λp=>inB (ps.take p.2) p.1)):=by
   rw[zY,e1];show (match wB _ with | some k=>R.ok _ | none=> .bad)=_
   rw[uH (λp:T×Nat=>inB _ p.1)]
  show qb _ [.vl _]=_;unfold qb;rw[e2];rfl
theorem xk {ps:List T}(h:∀y∈ps,Pl 30 y)(hl:ps.length<=100){a b c:Sl}{ρ:En}:∃r,zo (zq 0) (zm inC (zb ixT (vE 1) (vE 0)) (slE (vE 1) (noO) (zU (vE 0)))) (vE 0) 1 [3] (a :: b :: c :: .vl (.tup ps) :: ρ) (rng 0 ps.length)= .ok r/\r.isEmpty=un ps:=by
 let p:T->Bool:=λt=>match t with
  | .int i=>match ps[i.toNat]? with | some w=>inB (ps.take i.toNat) w | none=>false
  | _=>false
 refine⟨(rng 0 _).filter p,ZD _ (by unfold rng;rw[aa,bo];have hB:bnd=16777216:=rfl;omega) λt ht=> ?_, ?_⟩
 ·obtain⟨k,hk,rfl⟩:=az.mp ht;have hk' :=aZ.mp hk;refine⟨?_,rfl⟩;show zm inC _ _ [.vl _,.vl _]=_;rw[show (0:Int)+(k)=(k) by omega]
  have e1:ixT (.tup ps) (.int k)= .ok ps[k]:=by
   show atT ps k=_;unfold atT;rw[Zw (ah hk')]
  have e2:slE (vE 1) noO (zU (vE 0)) [.vl (.int (k)),.vl (.tup ps)]=slT (.tup ps) _ _:=rfl;rw[zA,ze,v1,bOk,v0,bOk,e1,bOk,e2,uG,bOk,vb h];show _=R.ok (match ps[((k:Int)).toNat]? with | some w=>inB _ w | none=>false)
  rw[aY,ah hk']
 ·rw[fK,iS,fD];unfold un;rw[iC,ij];constructor
  ·intro H q hq;obtain⟨x,k⟩:=q;have hk:=List.mem_zipIdx' hq;have:=H _ (by exact az.mpr ⟨k,aZ.mpr hk.1,rfl⟩)
   intro hb;apply this
   show (match ps[((0:Int)+(k)).toNat]? with | some w=>inB _ w | none=>false)=true
   rw[show ((0:Int)+(k)).toNat=k by omega,ah hk.1,← hk.2]
   exact hb
  ·intro H t ht hb;obtain⟨k,hk,rfl⟩:=az.mp ht;have hk' :=aZ.mp hk;have hb:(match ps[((0:Int)+(k)).toNat]? with | some w=>inB _ w | none=>false)=true:=hb
   rw[show ((0:Int)+(k)).toNat=k by omega,ah hk']at hb
   exact H _ (List.mk_mem_zipIdx_iff_getElem?.mpr (ah hk')) hb
noncomputable def vO (w:Str):T->Bool
 | .str x=>x == w
 | _=>false
theorem z12 (w:Str)(n:Nat):∀t:T,eqF n t (.str w)=some (vO w t)
 | .str x=>by cases n <;> rfl
 | .non=>by cases n <;> rfl
 | .bl _=>by cases n <;> rfl
 | .int _=>by cases n <;> rfl
 | .tup _=>by cases n <;> rfl
 | .lst _=>by cases n <;> rfl
 | .fz _=>by cases n <;> rfl
theorem ve (w:Str):∀ts:List T,JL (λy=>eqF 30 y (.str w)) ts=some (ts.any (vO w))
 | []=>rfl
 | t :: ts=>by
  have e:JL (λy=>eqF 30 y (.str w)) (t :: ts)=match eqF 30 t _ with
   | none=>none
   | some b=>match JL (λy=>eqF 30 y _) ts with
    | none=>none
    | some d=>some _:=rfl
  rw[e,z12,ve w ts];rfl
theorem KJ (w:Str)(ts:List T):(ts.filter (vO w)).isEmpty= !(ts.any (vO w)):=by
 induction ts with
 | nil=>rfl
 | cons t ts ih=>
  rw[bW,eP];cases vO w t with
  | true=>rfl
  | false=>rw[if_neg ay,ih,Bool.false_or]
inductive Ru where
 | sum (a b:Int) | size (a b:Int) | word (w:Str) | rising | unlike | no (r:Ru) | all (r s:Ru) | some (r s:Ru)
def Ru.t:Ru->T
 | .sum a b=> .tup [.str "sum",.int a,.int b]
 | .size a b=> .tup [.str "size",.int a,.int b]
 | .word w=> .tup [.str "word",.str w]
 | .rising=> .tup [.str "rising"]
 | .unlike=> .tup [.str "unlike"]
 | .no r=> .tup [.str "no",r.t]
 | .all r s=> .tup [.str "all",r.t,s.t]
 | .some r s=> .tup [.str "some",r.t,s.t]
inductive ZY:Nat->Ru->Prop where
 | sum {d:Nat} {a b:Int} (ha: -50<=a/\a<=50) (hb: -50<=b/\b<=50):ZY (d+1) (.sum a b)
 | size {d:Nat} {a b:Int} (ha: -50<=a/\a<=50) (hb: -50<=b/\b<=50):ZY (d+1) (.size a b)
 | word {d:Nat} {w:Str} (h:zM (.str w)=true):ZY (d+1) (.word w)
 | rising {d:Nat}:ZY (d+1) .rising
 | unlike {d:Nat}:ZY (d+1) .unlike
 | no {d:Nat} {r:Ru} (h:ZY d r):ZY (d+1) (.no r)
 | all {d:Nat} {r s:Ru} (h:ZY d r) (h' :ZY d s):ZY (d+1) (.all r s)
 | some {d:Nat} {r s:Ru} (h:ZY d r) (h' :ZY d s):ZY (d+1) (.some r s)
theorem ZY.up (h:ZY d r):ZY (d+1) r:=by
 induction h with
 | sum ha hb=>exact .sum ha hb
 | size ha hb=>exact .size ha hb
 | word h=>exact .word h
 | rising=>exact .rising
 | unlike=>exact .unlike
 | no h ih=>exact .no ih
 | all h h' ih ih' =>exact .all ih ih'
 | some h h' ih ih' =>exact .some ih ih'
def kp:Ru->T->Bool
 | .sum a b,x=>decide (a<=(ZT (lv x)).sum) && decide ((ZT (lv x)).sum<=b)
 | .size a b,x=>decide (a<=((Zf x).length:Int)) && decide (((Zf x).length:Int)<=b)
 | .word w,x=>(lv x).any (vO w)
 | .rising,x=>asc (ZT (lv x))
 | .unlike,x=>un (Zf x)
 | .no r,x=> !kp r x
 | .all r s,x=>kp r x && kp s x
 | .some r s,x=>kp r x || kp s x
theorem JG (h: -50<=i/\i<=50):z1W [.int i]= .ok (.bl true):=by
 show zf _=_;rw[z3r,zg]
 ·rfl
 ·show ZJ _ _ [.vl _]=_;rw[j5,zH,v0,bOk,Y2,Qd,zI,bOk];rw[bOk,w0,bOk,Ja,decide_eq_true h.1,bOk,bOk,Ja,decide_eq_true h.2];rfl
theorem Zx (b:Bool)(h:(x == w)=b):zm eqC (zb ixT (vE 0) (cE (.int 0))) (cE (.str w)) (.vl (.tup (.str x :: r)) :: ρ)= .ok b:=by rw[cs0,h]
theorem Yr (h:f ρ= .ok false)(h' :g ρ= .ok b):orT f g ρ= .ok b:=by rw[U7,h,bOk,if_neg ay,h']
theorem or_t (h:f ρ= .ok true):orT f g ρ= .ok true:=by rw[U7,h,bOk,if_pos rfl]
theorem wF (h:f ρ= .ok (.bl true))(h' :g ρ=r):ZJ f g ρ=r:=by rw[j5,h,Zl,if_pos rfl,h']
theorem Xj (h:((xs.length:Int) == n)=true):ZE eqC (ap1 zT (vB 0)) (cE (.int n)) (.vl (.tup xs) :: ρ)= .ok (.bl true):=by
 rw[Z7,zY,w0,bOk,ZH,bOk,zI,bOk,eqI,h,bOk]
theorem jo:orT (zm eqC (vB 1) (cE (.int 0))) (orT (jz (Z9 (ap1 (ZQ "tuple") (vB 0)))) (zm eqC (ap1 zT (vB 0)) (cE (.int 0)))) (en2 (.tup (x :: xs)) (.int ((d+1:Nat):Int)))= .ok false:=by
 refine Yr ?_ (Yr ?_ ?_)
 ·rw[zA,w1,bOk,zI,bOk,eqI,beq_eq_false_iff_ne.mpr (by omega)]
 ·rfl
 ·rw[zA,zY,w0,bOk,ZH,bOk,zI,bOk,eqI,beq_eq_false_iff_ne.mpr (by rw[ai];omega)]
theorem xl (h:zM (.str w)=true):VJ (.str w):=by
 have h:(decide _ && decide _ && w.cps.toList.all _)=true:=h;simp only[ac,decide_eq_true_eq]at h;exact ao h.1.2 (by decide)
theorem Je:∀(n d:Nat),d<=n->∀r:Ru,ZY d r->S_v n 0 [r.t,.int (d:Int)]= .ok (.bl true)
 | 0,d,h,r,hr=>by
  have:d=0:=by omega
  subst this;cases hr
 | n+1,d,h,r,hr=>by
  show zf (b_v f_6 (S_v n 0) z1W (en2 r.t (.int (d:Int))))=_;rw[b_v];cases hr with
  | @sum d a b ha hb=>
   rw[Ru.t,zc (zi jo),zw (t:= .bl true)]
   ·rfl
   ·exact zg (wF (Xj rfl) (wF (by show za 1 _ _ (en2 _ _)=_;rw[zH,jS,bOk,JG ha]) (by show za 1 _ _ (en2 _ _)=_;rw[zH,WN,bOk,JG hb])))
  | @size d a b ha hb=>
   rw[Ru.t,zc (zi jo),zw (t:= .bl true)]
   ·rfl
   ·exact zg (wF (Xj rfl) (wF (by show za 1 _ _ (en2 _ _)=_;rw[zH,jS,bOk,JG ha]) (by show za 1 _ _ (en2 _ _)=_;rw[zH,WN,bOk,JG hb])))
  | @word d w hw=>
   rw[Ru.t,zc (zi jo),zc (zi (Yr (Zx false (by decide)) (Zx false (by decide)))),zw (t:= .bl true)]
   ·rfl
   ·exact zg (wF (Xj rfl) (by show za 1 _ _ (en2 _ _)=_;rw[zH,jS,bOk,Qb _ (xl hw),hw]))
  | rising=>
   rw[Ru.t,zc (zi jo),zc (zi (Yr (Zx false (by decide)) (Zx false (by decide)))),zc (zi (Zx false (by decide))),zw (t:= .bl true)]
   ·rfl
   ·rw[jT (or_t (Zx true (by decide)))]
    exact zg (Xj rfl)
  | unlike=>
   rw[Ru.t,zc (zi jo),zc (zi (Yr (Zx false (by decide)) (Zx false (by decide)))),zc (zi (Zx false (by decide))),zw (t:= .bl true)]
   ·rfl
   ·rw[jT (Yr (Zx false (by decide)) (Zx true (by decide)))]
    exact zg (Xj rfl)
  | @no d r hr=>
   have ih:=Je n d (by omega) r hr
   rw[Ru.t,zc (zi jo),zc (zi (Yr (Zx false (by decide)) (Zx false (by decide)))),zc (zi (Zx false (by decide))),zc (zi (Yr (Zx false (by decide)) (Zx false (by decide)))),zw (t:= .bl true)]
   ·rfl
   ·rw[jT (Zx true (by decide))]
    exact zg (wF (Xj rfl) (by show za 2 _ _ (en2 _ _)=_;rw[zu,jS,bOk,ze,v1,bOk,zI,bOk,Zi,bOk,show ((d+1:Nat)) - 1=(d:Int) by omega,ih]))
  | @all d r s hr hs=>
   have ih:=Je n d (by omega) r hr
   have ih' :=Je n d (by omega) s hs
   rw[Ru.t,zc (zi jo),zc (zi (Yr (Zx false (by decide)) (Zx false (by decide)))),zc (zi (Zx false (by decide))),zc (zi (Yr (Zx false (by decide)) (Zx false (by decide)))),zc (zi (Zx false (by decide))),zw (t:= .bl true)]
   ·rfl
   ·exact zg (wF (Xj rfl) (wF (by show za 2 _ _ (en2 _ _)=_;rw[zu,jS,bOk,ze,v1,bOk,zI,bOk,Zi,bOk,show ((d+1:Nat):Int) - 1=(d) by omega,ih]) (by show za 2 _ _ (en2 _ _)=_;rw[zu,WN,bOk,ze,v1,bOk,zI,bOk,Zi,bOk,show ((d+1:Nat):Int) - 1=(d) by omega,ih'])))
  | @some d r s hr hs=>
   have ih:=Je n d (by omega) r hr
   have ih' :=Je n d (by omega) s hs
   rw[Ru.t,zc (zi jo),zc (zi (Yr (Zx _ (by decide)) (Zx _ (by decide)))),zc (zi (Zx _ (by decide))),zc (zi (Yr (Zx _ (by decide)) (Zx _ (by decide)))),zc (zi (Zx _ (by decide))),zw]
   ·rfl
   ·exact zg (wF (Xj rfl) (wF (by show za 2 _ _ (en2 _ _)=_;rw[zu,jS,bOk,ze,v1,bOk,zI,bOk,Zi,bOk,show ((d+1:Nat):Int) - 1=(d) by omega,ih]) (by show za 2 _ _ (en2 _ _)=_;rw[zu,WN,bOk,ze,v1,bOk,zI,bOk,Zi,bOk,show ((d+1:Nat):Int) - 1=(d) by omega,ih'])))
theorem z13 (hf:f ρ= .ok (.int i))(hg:g ρ= .ok (.int j))(hh:h ρ= .ok (.int k)):chE leC leC f g h ρ= .ok (.bl (decide (i<=j) && decide (j<=k))):=by
 rw[Y2,hf,bOk,hg,bOk,Ja,bOk];cases decide (i<=j) with
 | true=>rw[if_pos rfl,hh,bOk,Ja,bOk,cI]
 | false=>rw[if_neg ay,Bool.false_and]
theorem vf (hd:d<=2)(h:W d x)(b:Bool)(hr:(match r with | .no _=>False | .all _ _=>False | .some _ _=>False | _=>True)):z0w [r.t,x]= .ok (.bl (kp r x)):=by
 have hn:=Yh hd h;have hp:=KI h;have hv:f_r 8 [x]= .ok (.lst (lv x)):=wo 8 d (by omega) (by omega) x h
 have hi:=ao (WC _) (w9 hd h);show zf (z20 z1Z (f_r 8) z1Y _ _ (en2 r.t x))=_;rw[z20];cases r with
 | sum a b=>
  rw[zw]
  ·rfl
  ·refine zg ?_;show chE _ _ _ _ _ (en2 _ x)=_;exact z13 jS (by rw[zY,zH,v1,bOk,hn,bOk,z10]) WN
 | size a b=>
  rw[Ru.t,zc (zi (Zx _ (by decide))),zw]
  ·rfl
  ·rw[jT (Zx _ (by decide))]
   refine zg ?_;show chE _ _ _ _ _ (en2 _ x)=_;exact z13 jS (by rw[zY,zH,v1,bOk,hp,bOk,ZH]) WN
 | word w=>
  rw[Ru.t,zc (zi (Zx false (by decide))),zc (zi (Zx false (by decide))),zw]
  ·rfl
  ·rw[jT (Zx true (by decide))]
   refine zg ?_;show ZE _ _ _ (en2 _ x)=_;rw[Z7,jS,bOk,zH,v1,bOk,hv];show ((match JL (λy=>eqF 30 y (.str w)) (lv x) with | some b=>R.ok b | none=> .bad).bind _)=_
   rw[ve];rfl
 | rising=>
  rw[Ru.t,zc (zi (Zx false (by decide))),zc (zi (Zx _ (by decide))),zc (zi (Zx _ (by decide))),zw (t:= .bl (kp _ x))]
  ·rfl
  ·rw[jT (Zx true (by decide))]
   refine zg ?_;show za 1 _ _ (en2 _ x)=_;rw[zH,zH,v1,bOk,hn,bOk,v6 _ (by omega)]
   rfl
 | unlike=>
  rw[Ru.t,zc (zi (Zx false (by decide))),zc (zi (Zx _ (by decide))),zc (zi (Zx false (by decide))),zc (zi (Zx _ (by decide))),zg]
  ·rfl
  ·show za 1 _ _ (en2 _ x)=_;rw[zH,zH,v1,bOk,hp,bOk,vd (yr h hd) (ao (uF h) (by omega))]
   rfl
 | no=>exact hr.elim
 | all=>exact hr.elim
 | some=>exact hr.elim
theorem vg (h:f ρ= .ok (.bl b)):qb f ρ= .ok (.bl (!b)):=by unfold qb;rw[h];rfl
theorem WD (h:f ρ= .ok (.bl a))(h' :g ρ= .ok (.bl b)):ZJ f g ρ= .ok (.bl (a && b)):=by
 rw[j5,h,h'];cases a <;> rfl
theorem Xk (h:f ρ= .ok (.bl a))(h' :g ρ= .ok (.bl b)):orE f g ρ= .ok (.bl (a || b)):=by
 unfold orE;rw[h];cases a with
 | true=>rfl
 | false=>exact h'
theorem Jf (he:e<=2)(hx:W e x):∀(n d:Nat),d<=n->∀r:Ru,ZY d r->S_o n 0 [r.t,x]= .ok (.bl (kp r x))
 | 0,d,h,r,hr=>by
  have:d=0:=by omega
  subst this;cases hr
 | n+1,d,h,r,hr=>by
  show zf (b_o (S_o n 0) z0w (en2 r.t x))=_;rw[b_o];have fin:∀(r:Ru) (s:Str) (q:List T),r.t= .tup (.str s :: q)->(s == "no")=false->(s == "all")=false->(s == "some")=false->(match r with | .no _=>False | .all _ _=>False | .some _ _=>False | _=>True)->
    zf (zh (ifS (zm eqC (zb ixT (vE 0) (cE (.int 0))) (cE (.str "no"))) (zl (qb (za 2 (S_o n 0) (z9 (zb ixT (vE 0) (cE (.int 1))) (z9 (vE 1) (zd)))))) (nxS))
  (zh (ifS (zm eqC (zb ixT (vE 0) (cE (.int 0))) (cE (.str "all"))) (zl (ZJ (za 2 (S_o n 0) (z9 (zb ixT (vE 0) (cE (.int 1))) (z9 (vE 1) (zd)))) (za 2 (S_o n 0) (z9 (zb ixT (vE 0) (cE (.int 2))) (z9 (vE 1) (zd)))))) (nxS))
  (zh (ifS (zm eqC (zb ixT (vE 0) (cE (.int 0))) (cE (.str "some"))) (zl (orE (za 2 (S_o n 0) (z9 (zb ixT (vE 0) (cE (.int 1))) (z9 (vE 1) (zd)))) (za 2 (S_o n 0) (z9 (zb ixT (vE 0) (cE (.int 2))) (z9 (vE 1) (zd)))))) (nxS))
  (zl (za 2 z0w (z9 (vE 0) (z9 (vE 1) (zd))))))) (en2 r.t x))= .ok (.bl (kp r x)):=by
   intro r s q e h1 h2 h3 hm;have hs:=vf he hx true hm;rw[e]at hs ⊢;rw[zc (zi (Zx _ h1)),zc (zi (Zx false h2)),zc (zi (Zx _ h3)),zg]
   ·rfl
   ·show za 2 _ _ (en2 _ x)=_;rw[zu,v0,bOk,v1,bOk,hs]
  cases hr with
  | @sum d a b ha hb=>exact fin (.sum a b) "sum" _ rfl (by decide) (by decide) (by decide) trivial
  | @size d a b ha hb=>exact fin _ "size" _ rfl (by decide) (by decide) (by decide) trivial
  | @word d w hw=>exact fin _ _ _ rfl (by decide) (by decide) (by decide) trivial
  | rising=>exact fin .rising _ _ rfl (by decide) (by decide) (by decide) trivial
  | unlike=>exact fin .unlike _ _ rfl (by decide) (by decide) (by decide) trivial
  | @no d r hr=>
   have ih:=Jf he hx n d (by omega) r hr
   rw[Ru.t,zw]
   ·rfl
   ·exact zg (vg (by show za 2 _ _ (en2 _ x)=_;rw[zu,jS,bOk,v1,bOk,ih]))
  | @all d r s hr hs=>
   have ih:=Jf he hx n d (by omega) r hr
   have ih' :=Jf he hx n d (by omega) s hs
   rw[Ru.t,zc (zi (Zx _ (by decide))),zw]
   ·rfl
   ·exact zg (WD (by show za 2 _ _ (en2 _ x)=_;rw[zu,jS,bOk,v1,bOk,ih]) (by show za 2 _ _ (en2 _ x)=_;rw[zu,WN,bOk,v1,bOk,ih']))
  | @some d r s hr hs=>
   have ih:=Jf he hx n d (by omega) r hr
   have ih' :=Jf he hx n d (by omega) s hs
   rw[Ru.t,zc (zi (Zx _ (by decide))),zc (zi (Zx _ (by decide))),zw]
   ·rfl
   ·exact zg (Xk (by show za 2 _ _ (en2 _ x)=_;rw[zu,jS,bOk,v1,bOk,ih]) (by show za 2 _ _ (en2 _ x)=_;rw[zu,WN,bOk,v1,bOk,ih']))
abbrev lk (r x a b:T):En:=[.vl r,.vl x,.vl a,.vl b,.un,.un,.un]
theorem lk0 (c:Bool)(h:(x == w)=c):zm eqC (zb ixT (vE 0) (cE (.int 0))) (cE (.str w)) (lk (.tup (.str x :: r)) y a b)= .ok c:=Zx c h
theorem yt:∀(is:List Int) (m:Int) (y:Sl),∃y',Zn (zq 5) (zp 4 (zb zn (vE 4) (vE 5))) (is.map T.int) [.vl r,.vl x,.vl a,.vl b,.vl (.int m),y,z]= .nx [.vl r,.vl x,.vl a,.vl b,.vl (.int (m+is.sum)),y',z]
 | [],m,y=>⟨y,by rw[List.sum_nil,Int.add_zero];rfl⟩
 | i :: is,m,y=>by
  obtain⟨y',h⟩:=yt (r:=r) (x:=x) (a:=a) (b:=b) (z:=z) is (m+i) (.vl (.int i));refine⟨y', ?_⟩;have s2:zq 5 (.int i) [.vl r,.vl x,.vl a,.vl b,.vl (.int m),y,z]= .ok [.vl r,.vl x,.vl a,.vl b,.vl (.int m),.vl (.int i),z]:=rfl;have b2:zp 4 (zb zn (vE 4) (vE 5)) [.vl r,.vl x,.vl a,.vl b,.vl (.int m),.vl (.int i),z]= .nx [.vl r,.vl x,.vl a,.vl b,.vl (.int (m+i)),.vl (.int i),z]:=rfl;rw[av,j6 s2 b2,h,cJ,Int.add_assoc]
theorem z3O (hf:f ρ= .ok (.int i))(hg:g ρ= .ok (.int j)):ZE leC f g ρ= .ok (.bl (decide (i<=j))):=by rw[Z7,hf,bOk,hg,bOk,Ja,bOk]
theorem ge_E (hf:f ρ= .ok (.int i))(hg:g ρ= .ok (.int j)):ZE geC f g ρ= .ok (.bl (decide (j<=i))):=by
 rw[Z7,hf,bOk,hg,bOk];rfl
theorem uI:frz (lk r x a b)=lk r x a b:=rfl
theorem jy (he:e<=2)(hx:W e x):∀(n d:Nat),d<=n->∀r:Ru,ZY d r->S_e n 0 [r.t,x]= .ok (.bl (kp r x))
 | 0,d,h,r,hr=>by
  have:d=0:=by omega
  subst this;cases hr
 | n+1,d,h,r,hr=>by
  show zf (b_e (f_u 8) (S_e n 0) [.vl r.t,.vl x,.un,.un,.un,.un,.un])=_;have hv:f_u 8 [x]= .ok (.lst (lv x)):=yo 8 e (by omega) (by omega) x hx
  have hl:=w9 he hx;have hB:bnd=16777216:=rfl;have hi:(ZT (lv x)).length<=9:=ao (WC _) hl;have e1:zp 2 (zz (Zb (za 1 (f_u 8) (z9 (vE 1) (zd)))) (zq 0) (Z9 (ap1 (ZQ "int") (vB 0))) (vE 0) 1 []) [.vl r.t,.vl x,.un,.un,.un,.un,.un]= .nx [.vl r.t,.vl x,.vl (.lst ((ZT (lv x)).map T.int)),.un,.un,.un,.un]:=by
   have ec:zo (zq 0) (Z9 (ap1 (ZQ "int") (vB 0))) (vE 0) 1 [] [.vl r.t,.vl x,.un,.un,.un,.un,.un] (lv x)= .ok ((lv x).filter isW):=
    ZD _ (by omega) λt ht=>⟨by cases z3N hx t ht <;> rfl,rfl⟩
   rw[zE (t:= .lst ((ZT (lv x)).map T.int))]
   ·rfl
   ·rw[zB,Zg,zH,v1,bOk,hv,bOk];show ((zo _ _ _ _ _ _ (lv x)).bind _)=_;rw[ec,bOk,wp]
  have e2:zp 3 (ifE (Z9 (ap1 (ZQ "tuple") (vB 1))) (vE 1) (zG (z9 (vE 1) (zd)))) [.vl r.t,.vl x,.vl (.lst ((ZT (lv x)).map T.int)),.un,.un,.un,.un]= .nx (lk r.t x (.lst ((ZT (lv x)).map T.int)) (.tup (Zf x))):=by
   cases hx <;> rfl
  rw[b_e,zc e1,zc e2];cases hr with
  | @sum d a b ha hb=>
   obtain⟨y',el⟩:=yt (r:=(Ru.sum a b).t) (x:=x) (a:= .lst ((ZT (lv x)).map T.int)) (b:= .tup (Zf x)) (z:= .un) (ZT (lv x)) 0 .un;rw[dW]at el;have e3:zp 4 (cE (.int 0)) (lk (Ru.sum a b).t x (.lst ((ZT (lv x)).map T.int)) (.tup (Zf x)))= .nx [.vl (Ru.sum a b).t,.vl x,.vl (.lst ((ZT (lv x)).map T.int)),.vl (.tup (Zf x)),.vl (.int 0),.un,.un]:=rfl;have e4:ZK (Zb (vE 2)) (zq 5) (zp 4 (zb zn (vE 4) (vE 5))) [.vl (Ru.sum a b).t,.vl x,.vl (.lst ((ZT (lv x)).map T.int)),.vl (.tup (Zf x)),.vl (.int 0),.un,.un]= .nx [.vl (Ru.sum a b).t,.vl x,.vl (.lst ((ZT (lv x)).map T.int)),.vl (.tup (Zf x)),.vl (.int (ZT (lv x)).sum),y',.un]:=by
    unfold ZK;rw[Zg,v2,bOk];exact el
   rw[zw (t:= .bl (kp (.sum a b) x))]
   ·rfl
   ·rw[jT (by rw[Ru.t];exact lk0 true (by decide)),zc e3,zc e4,zg (t:= .bl (kp (.sum a b) x))]
    show ZJ _ _ [.vl (Ru.sum a b).t,.vl x,.vl (.lst ((ZT (lv x)).map T.int)),.vl (.tup (Zf x)),.vl (.int (ZT (lv x)).sum),wK y',.un]=_;rw[Ru.t];exact WD (z3O jS rfl) (z3O rfl WN)
  | @size d a b ha hb=>
   rw[Ru.t,zc (zi (lk0 false (by decide))),zw (t:= .bl (kp (.size a b) x))]
   ·rfl
   ·rw[jT (lk0 true (by decide)),zg (t:= .bl (kp (.size a b) x))]
    rw[uI];exact WD (ge_E (i:=((Zf x).length:Int)) rfl jS) (z3O (i:=((Zf x).length:Int)) rfl WN)
  | @word d w hw=>
   rw[Ru.t,zc (zi (lk0 false (by decide))),zc (zi (lk0 false (by decide))),zw (t:= .bl (kp (.word w) x))]
   ·rfl
   ·rw[jT (lk0 true (by decide)),zg (t:= .bl (kp (.word w) x))]
    rw[uI];have ec:zo (zq 0) (zm eqC (vB 0) (zb ixT (vE 1) (cE (.int 1)))) (vE 0) 1 [0] (lk (.tup [.str "word",.str w]) x (.lst ((ZT (lv x)).map T.int)) (.tup (Zf x))) (lv x)= .ok ((lv x).filter (vO w)):=
     ZD _ (by omega) λt ht=>⟨by
      show zm eqC (vB 0) (zb ixT (vE 1) (cE (.int 1))) [.vl t,.vl (.tup [.str "word",.str w])]=_;rw[zA,w0,bOk,ze,v1,bOk,zI,bOk,at1,bOk];unfold eqC;rw[z12],rfl⟩
    rw[Z7,zB,Zg,zH,v1,bOk,hv,bOk];show (((zo _ _ _ _ _ _ (lv x)).bind _).bind _)=_;rw[ec,bOk,bOk,show Ze zd (lk (.tup [.str "word",.str w]) x (.lst ((ZT (lv x)).map T.int)) (.tup (Zf x)))= .ok (.lst []) from rfl,bOk];have en:neC (.lst ((lv x).filter (vO w))) (.lst [])= .ok (!((lv x).filter (vO w)).isEmpty):=by cases (lv x).filter (vO w) <;> rfl
    rw[en,bOk,KJ,Bool.not_not];rfl
  | rising=>
   rw[Ru.t,zc (zi (lk0 false (by decide))),zc (zi (lk0 false (by decide))),zc (zi (lk0 false (by decide))),zw (t:= .bl (kp .rising x))]
   ·rfl
   ·rw[jT (lk0 true (by decide)),zg (t:= .bl (kp .rising x))]
    rw[uI,Z7,zY,w2,bOk,bOk,Q5 _ (by omega),bOk,va,bOk]
    rfl
  | unlike=>
   rw[Ru.t,zc (zi (lk0 false (by decide))),zc (zi (lk0 false (by decide))),zc (zi (lk0 false (by decide))),zc (zi (lk0 false (by decide))),zw (t:= .bl (kp .unlike x))]
   ·rfl
   ·rw[jT (lk0 true (by decide)),zg (t:= .bl (kp .unlike x))]
    rw[uI];have hp3:=uF hx;obtain⟨q,eq,hq⟩:=xk (yr hx he) (by omega) (a:= .vl (.tup [.str "unlike"])) (b:= .vl x) (c:= .vl (.lst ((ZT (lv x)).map T.int))) (ρ:=[.un,.un,.un])
    have er:zX (ap1 zT (vB 3)) (lk (.tup [.str "unlike"]) x (.lst ((ZT (lv x)).map T.int)) (.tup (Zf x)))= .ok (rng 0 (Zf x).length):=by
     rw[QT (j:=((Zf x).length:Int)) rfl ⟨by omega,by omega⟩,aY]
    rw[Z7,zB,er,bOk,eq,bOk,bOk,show Ze zd (lk (.tup [.str "unlike"]) x (.lst ((ZT (lv x)).map T.int)) (.tup (Zf x)))= .ok (.lst []) from rfl,bOk,y6,bOk,hq];rfl
  | @no d r hr=>
   have ih:=jy he hx n d (by omega) r hr
   rw[Ru.t,zc (zi (lk0 false (by decide))),zc (zi (lk0 false (by decide))),zc (zi (lk0 false (by decide))),zc (zi (lk0 false (by decide))),zc (zi (lk0 false (by decide))),zw (t:= .bl (kp (.no r) x))]
   ·rfl
   ·rw[jT (lk0 true (by decide)),zg (t:= .bl (kp (.no r) x))]
    rw[uI];exact vg (by rw[zu,jS,bOk,v1,bOk,ih])
  | @all d r s hr hs=>
   have ih:=jy he hx n d (by omega) r hr
   have ih' :=jy he hx n d (by omega) s hs
   have e3:zp 6 (zz (Zb (slE (vE 0) (zU (cE (.int 1))) (noO))) (zq 0) (Z3) (za 2 (S_e n 0) (z9 (vE 0) (z9 (vE 1) (zd)))) 1 [1]) (lk (.tup [.str "all",r.t,s.t]) x (.lst ((ZT (lv x)).map T.int)) (.tup (Zf x)))= .nx [.vl (.tup [.str "all",r.t,s.t]),.vl x,.vl (.lst ((ZT (lv x)).map T.int)),.vl (.tup (Zf x)),.un,.un,.vl (.lst [.bl (kp r x),.bl (kp s x)])]:=by
    rw[zE (t:= .lst [.bl (kp r x),.bl (kp s x)])]
    ·rfl
    ·rw[zB];show ((zo (zq 0) Z3 (za 2 (S_e n 0) (z9 (vE 0) (z9 (vE 1) (zd)))) 1 [1] (lk (.tup [.str "all",r.t,s.t]) x (.lst ((ZT (lv x)).map T.int)) (.tup (Zf x))) [r.t,s.t]).bind _)=_;have ec:zo (zq 0) Z3 (za 2 (S_e n 0) (z9 (vE 0) (z9 (vE 1) (zd)))) 1 [1] (lk (.tup [.str "all",r.t,s.t]) x (.lst ((ZT (lv x)).map T.int)) (.tup (Zf x))) [r.t,s.t]= .ok [.bl (kp r x),.bl (kp s x)]:=by
      unfold zo;rw[if_pos (by show 2<=bnd;omega)]
      have c1:za 2 (S_e n 0) (z9 (vE 0) (z9 (vE 1) (zd))) [.vl r.t,.vl x]= .ok (.bl (kp r x)):=by rw[zu,v0,bOk,v1,bOk,ih]
      have c2:za 2 (S_e n 0) (z9 (vE 0) (z9 (vE 1) (zd))) [.vl s.t,.vl x]= .ok (.bl (kp s x)):=by rw[zu,v0,bOk,v1,bOk,ih']
      show quiet ((za 2 (S_e n 0) (z9 (vE 0) (z9 (vE 1) (zd))) [.vl r.t,.vl x]).bind λv=>((za 2 (S_e n 0) (z9 (vE 0) (z9 (vE 1) (zd))) [.vl s.t,.vl x]).bind λv=>(R.ok []).bind λvs=> .ok (v :: vs)).bind λvs=> .ok (v :: vs))=_;rw[c1,c2];rfl
     rw[ec,bOk]
   rw[Ru.t,zc (zi (lk0 false (by decide))),zc (zi (lk0 false (by decide))),zc (zi (lk0 false (by decide))),zc (zi (lk0 false (by decide))),zc (zi (lk0 false (by decide))),zc (zi (lk0 false (by decide))),zc e3,zg (t:= .bl (kp (.all r s) x))]
   ·rfl
   ·show ifE _ _ _ [.vl (.tup [.str "all",r.t,s.t]),.vl x,.vl (.lst ((ZT (lv x)).map T.int)),.vl (.tup (Zf x)),.un,.un,.vl (.lst [.bl (kp r x),.bl (kp s x)])]=_;unfold ifE;rw[Zx true (by decide),bOk,if_pos rfl]
    exact WD rfl rfl
  | @some d r s hr hs=>
   have ih:=jy he hx n d (by omega) r hr
   have ih' :=jy he hx n d (by omega) s hs
   have e3:zp 6 (zz (Zb (slE (vE 0) (zU (cE (.int 1))) (noO))) (zq 0) (Z3) (za 2 (S_e n 0) (z9 (vE 0) (z9 (vE 1) (zd)))) 1 [1]) (lk (.tup [.str "some",r.t,s.t]) x (.lst ((ZT (lv x)).map T.int)) (.tup (Zf x)))= .nx [.vl (.tup [.str "some",r.t,s.t]),.vl x,.vl (.lst ((ZT (lv x)).map T.int)),.vl (.tup (Zf x)),.un,.un,.vl (.lst [.bl (kp r x),.bl (kp s x)])]:=by
    rw[zE (t:= .lst [.bl (kp r x),.bl (kp s x)])]
    ·rfl
    ·rw[zB];show ((zo (zq 0) Z3 (za 2 (S_e n 0) (z9 (vE 0) (z9 (vE 1) (zd)))) 1 [1] (lk (.tup [.str "some",r.t,s.t]) x (.lst ((ZT (lv x)).map T.int)) (.tup (Zf x))) [r.t,s.t]).bind _)=_;have ec:zo (zq 0) Z3 (za 2 (S_e n 0) (z9 (vE 0) (z9 (vE 1) (zd)))) 1 [1] (lk (.tup [.str "some",r.t,s.t]) x (.lst ((ZT (lv x)).map T.int)) (.tup (Zf x))) [r.t,s.t]= .ok [.bl (kp r x),.bl (kp s x)]:=by
      unfold zo;rw[if_pos (by show 2<=bnd;omega)]
      have c1:za 2 (S_e n 0) (z9 (vE 0) (z9 (vE 1) (zd))) [.vl r.t,.vl x]= .ok (.bl (kp r x)):=by rw[zu,v0,bOk,v1,bOk,ih]
      have c2:za 2 (S_e n 0) (z9 (vE 0) (z9 (vE 1) (zd))) [.vl s.t,.vl x]= .ok (.bl (kp s x)):=by rw[zu,v0,bOk,v1,bOk,ih']
      show quiet ((za 2 (S_e n 0) (z9 (vE 0) (z9 (vE 1) (zd))) [.vl r.t,.vl x]).bind λv=>((za 2 (S_e n 0) (z9 (vE 0) (z9 (vE 1) (zd))) [.vl s.t,.vl x]).bind λv=>(R.ok []).bind λvs=> .ok (v :: vs)).bind λvs=> .ok (v :: vs))=_;rw[c1,c2];rfl
     rw[ec,bOk]
   rw[Ru.t,zc (zi (lk0 false (by decide))),zc (zi (lk0 false (by decide))),zc (zi (lk0 false (by decide))),zc (zi (lk0 false (by decide))),zc (zi (lk0 false (by decide))),zc (zi (lk0 false (by decide))),zc e3,zg (t:= .bl (kp (.some r s) x))]
   ·rfl
   ·show ifE _ _ _ [.vl (.tup [.str "some",r.t,s.t]),.vl x,.vl (.lst ((ZT (lv x)).map T.int)),.vl (.tup (Zf x)),.un,.un,.vl (.lst [.bl (kp r x),.bl (kp s x)])]=_;unfold ifE;rw[Zx false (by decide),bOk,if_neg ay]
    exact Xk rfl rfl
abbrev lr (ns:List Int)(k:Int)(d:Nat)(p:Int)(a b:Sl):En:=[.vl (scr ns),.vl (.int k),.vl (.int (d:Int)),.vl (.int p),a,b]
theorem vh (h:f_2 [scr ns,.int (k+j),.int m]= .ok (.int q)):za 3 f_2 (z9 (vE 0) (z9 (zb zn (vE 1) (cE (.int j))) (z9 (cE (.int m)) (zd)))) (lr ns k d p a b)= .ok (.int q):=by
 rw[zV,v0,bOk,ze,v1,bOk,zI,bOk,zZ,bOk,zI,bOk,h]
theorem JH (ns:List Int):∀(n d:Nat),d<=n->1<=d->∀k:Int,0<=k->∃r:Ru,S_s n 0 [scr ns,.int k,.int (d:Int)]= .ok r.t/\ZY d r
 | 0,d,h,h1,k,hk=>by omega
 | n+1,d,h,h1,k,hk=>by
  obtain⟨p,hp,p0,p9⟩:=zK ns k 9 hk (by omega)
  have e1:zp 3 (za 3 f_2 (z9 (vE 0) (z9 (vE 1) (z9 (cE (.int 9)) (zd))))) [.vl (scr ns),.vl (.int k),.vl (.int (d:Int)),.un,.un,.un]= .nx (lr ns k d p .un .un):=by
   rw[zE (t:= .int p)]
   ·rfl
   ·rw[zV,v0,bOk,v1,bOk,zI,bOk,hp]
  have e:S_s (n+1) 0 [scr ns,.int k,.int (d:Int)]=zf (b_s f_2 (S_s n 0) [.vl (scr ns),.vl (.int k),.vl (.int (d:Int)),.un,.un,.un]):=rfl;rw[e,b_s,zc e1];have et:wy (zm gtC (vB 2) (cE (.int 1))) (zm gtC (vB 3) (cE (.int 5))) (lr ns k d p .un .un)= .ok (decide (1 < d) && decide (5 < p)):=by
   rw[Ua,zA,w2,bOk,zI,bOk,xj,bOk,show decide ((1:Int) < (d:Int))=decide (1 < d) by rw[fK,decide_eq_true_eq,decide_eq_true_eq];omega]
   cases decide (1 < d) with
   | true=>rw[if_pos rfl,zA,w3,bOk,zI,bOk,xj,cI]
   | false=>rfl
  by_cases hb:1 < d/\5 < p
  ·rw[decide_eq_true hb.1,decide_eq_true hb.2]at et;obtain⟨d,rfl⟩:∃d',d=d' +1:=⟨d - 1,by omega⟩
   obtain⟨r1,hr1,o1⟩:=JH ns n d (by omega) (by omega) (2*k+11) (by omega)
   obtain⟨r2,hr2,o2⟩:=JH ns n d (by omega) (by omega) (2*k+24) (by omega)
   have m2:Z0 (.int 2) (.int k)= .ok (.int (2*k)):=Qg _ _ (.inl ⟨by decide,by decide⟩)
   have e2:zp 4 (za 3 (S_s n 0) (z9 (vE 0) (z9 (zb zn (zb Z0 (cE (.int 2)) (vE 1)) (cE (.int 11))) (z9 (zb jg (vE 2) (cE (.int 1))) (zd))))) (lr ns k (d+1) p .un .un)= .nx (lr ns k (d+1) p (.vl r1.t) .un):=by
    rw[zE (t:=r1.t)]
    ·rfl
    ·rw[zV,v0,bOk,ze,ze,zI,bOk,v1,bOk,m2,bOk,zI,bOk,zZ,bOk,ze,v2,bOk,zI,bOk,Zi,bOk,show ((d+1:Nat):Int) - 1=(d:Int) by omega,hr1]
   have c2:za 3 (S_s n 0) (z9 (vE 0) (z9 (zb zn (zb Z0 (cE (.int 2)) (vE 1)) (cE (.int 24))) (z9 (zb jg (vE 2) (cE (.int 1))) (zd)))) (lr ns k (d+1) p (.vl r1.t) .un)= .ok r2.t:=by
    rw[zV,v0,bOk,ze,ze,zI,bOk,v1,bOk,m2,bOk,zI,bOk,zZ,bOk,ze,v2,bOk,zI,bOk,Zi,bOk,show ((d+1:Nat):Int) - 1=(d:Int) by omega,hr2]
   by_cases h6:p=6
   ·subst h6;refine⟨.no r1, ?_,.no o1⟩;rw[zw (t:=(Ru.no r1).t)]
    ·rfl
    ·rw[jT et,zc e2,zw (t:=(Ru.no r1).t)];rw[jT rfl,Ru.t];exact zg (WL rfl rfl)
   ·have h6' :zm eqC (vB 3) (cE (.int 6)) (lr ns k (d+1) p (.vl r1.t) .un)= .ok false:=by
     rw[zA,w3,bOk,zI,bOk,eqI,beq_eq_false_iff_ne.mpr h6]
    by_cases h7:p=7
    ·subst h7;refine⟨.all r1 r2, ?_,.all o1 o2⟩;rw[zw (t:=(Ru.all r1 r2).t)]
     ·rfl
     ·rw[jT et,zc e2,zc (zi h6'),Ru.t];exact zg (VP rfl rfl c2)
    ·have h8:p=8:=by omega
     subst h8;refine⟨.some r1 r2, ?_,.some o1 o2⟩;rw[zw (t:=(Ru.some r1 r2).t)]
     ·rfl
     ·rw[jT et,zc e2,zc (zi h6'),Ru.t];exact zg (VP rfl rfl c2)
  ·have et:wy (zm gtC (vB 2) (cE (.int 1))) (zm gtC (vB 3) (cE (.int 5))) (lr ns k d p .un .un)= .ok false:=by
    rw[et];congr 1
    rw[Bool.and_eq_false_iff,decide_eq_false_iff_not,decide_eq_false_iff_not];omega
   obtain⟨d,rfl⟩:∃d',d=d' +1:=⟨d - 1,by omega⟩
   obtain⟨q,hq,q0,q9⟩:=zK ns (k+1) 9 (by omega) (by omega)
   have e2:zp 5 (zb jg (za 3 f_2 (z9 (vE 0) (z9 (zb zn (vE 1) (cE (.int 1))) (z9 (cE (.int 9)) (zd))))) (cE (.int 4))) (lr ns k (d+1) p .un .un)= .nx (lr ns k (d+1) p .un (.vl (.int (q - 4)))):=by
    rw[zE (t:= .int (q - 4))]
    ·rfl
    ·rw[ze,vh hq,bOk,zI,bOk,Zi]
   rw[zc (zi et),zc e2];have hm:∃m:Nat,m < 6/\zb j2 (vE 3) (cE (.int 6)) (lr ns k (d+1) p .un (.vl (.int (q - 4))))= .ok (.int (m:Int)):=by
    obtain⟨w,rfl⟩:=c6 p0;exact⟨w % 6,ie _ (by omega),by rw[ze,v3,bOk,zI,bOk];exact QM (c:=6) (by omega)⟩
   obtain⟨m,m6,hm⟩:=hm;have t2:zm ltC (zb j2 (vE 3) (cE (.int 6))) (cE (.int 2)) (lr ns k (d+1) p .un (.vl (.int (q - 4))))= .ok (decide (m < 2)):=by
    rw[zA,hm,bOk,zI,bOk,ltI];congr 1;rw[fK,decide_eq_true_eq,decide_eq_true_eq];omega
   have tk:∀j:Nat,zm eqC (zb j2 (vE 3) (cE (.int 6))) (cE (.int (j:Int))) (lr ns k (d+1) p .un (.vl (.int (q - 4))))= .ok (m == j):=λj=>by
    rw[zA,hm,bOk,zI,bOk,eqI,QA]
   have tk2:zm eqC (zb j2 (vE 3) (cE (.int 6))) (cE (.int 2)) (lr ns k (d+1) p .un (.vl (.int (q - 4))))= .ok (m == 2):=tk 2;have tk3:zm eqC (zb j2 (vE 3) (cE (.int 6))) (cE (.int 3)) (lr ns k (d+1) p .un (.vl (.int (q - 4))))= .ok (m == 3):=tk 3;have tk4:zm eqC (zb j2 (vE 3) (cE (.int 6))) (cE (.int 4)) (lr ns k (d+1) p .un (.vl (.int (q - 4))))= .ok (m == 4):=tk 4
   by_cases h2:m < 2
   ·obtain⟨u,hu,u0,u5⟩:=zK ns (k+2) 5 (by omega) (by omega)
    refine⟨.sum (q - 4) (q - 4+u - 1), ?_,.sum ⟨by omega,by omega⟩ ⟨by omega,by omega⟩⟩
    rw[zw (t:=(Ru.sum (q - 4) (q - 4+u - 1)).t)]
    ·rfl
    ·rw[jT (by rw[t2,decide_eq_true h2]),Ru.t]
     refine zg (VP rfl rfl ?_);show zb jg _ _ (lr ns k (d+1) p .un (.vl (.int (q - 4))))=_;rw[ze,ze,vh hu,show vE 5 (lr ns k (d+1) p .un (.vl (.int (q - 4))))= .ok (.int (q - 4)) from rfl,bOk,bOk,zZ,bOk,zI,bOk,Zi]
   rw[zc (zi (by rw[t2,decide_eq_false h2]))]
   by_cases h3:m=2
   ·subst h3;obtain⟨q',hq',q'0,q'3⟩:=zK ns (k+1) 3 (by omega) (by omega)
    obtain⟨u,hu,u0,u4⟩:=zK ns (k+2) 4 (by omega) (by omega)
    refine⟨.size q' u, ?_,.size ⟨by omega,by omega⟩ ⟨by omega,by omega⟩⟩
    rw[zw (t:=(Ru.size q' u).t)]
    ·rfl
    ·rw[jT tk2,Ru.t];exact zg (VP rfl (vh hq') (vh hu))
   rw[zc (zi (by rw[tk2,beq_eq_false_iff_ne.mpr h3]))]
   by_cases h4:m=3
   ·subst h4;obtain⟨q',hq',q'0,q'3⟩:=zK ns (k+1) 4 (by omega) (by omega)
    have hw:∃w:Str,zM (.str w)=true/\ixT (.lst [.str "a",.str "b",.str "ab",.str "zz"]) (.int q')= .ok (.str w):=by
     have hq4:q' =0\/q' =1\/q' =2\/q' =3:=by omega
     rcases hq4 with rfl | rfl | rfl | rfl
     ·exact⟨"a",by decide,rfl⟩
     ·exact⟨"b",by decide,rfl⟩
     ·exact⟨"ab",by decide,rfl⟩
     ·exact⟨"zz",by decide,rfl⟩
    obtain⟨w,hw,hx⟩:=hw;refine⟨.word w, ?_,.word hw⟩;rw[zw (t:=(Ru.word w).t)]
    ·rfl
    ·rw[jT tk3,Ru.t];refine zg (WL rfl ?_);show zb ixT _ _ (lr ns k (d+1) p .un (.vl (.int (q - 4))))=_;rw[ze,vh hq'];exact hx
   rw[zc (zi (by rw[tk3,beq_eq_false_iff_ne.mpr h4]))]
   by_cases h5:m=4
   ·subst h5;refine⟨.rising, ?_,.rising⟩;rw[zg (t:=Ru.rising.t)]
    ·rfl
    ·show ifE _ _ _ (lr ns k (d+1) p .un (.vl (.int (q - 4))))=_;unfold ifE;rw[tk4,bOk];rfl
   ·refine⟨.unlike, ?_,.unlike⟩;rw[zg (t:=Ru.unlike.t)]
    ·rfl
    ·show ifE _ _ _ (lr ns k (d+1) p .un (.vl (.int (q - 4))))=_;unfold ifE;rw[tk4,bOk,beq_eq_false_iff_ne.mpr h5];rfl
theorem KK {k:Kd}(hk:k.Ok 3){x:T}(hx:x∈k.all):W 2 x:=z3M 2 k x hk ((jm k x).mp hx)
abbrev fl (k:Kd)(r:Ru):List T:=k.all.filter (kp r)
theorem Yi (hx:W 2 x)(hr:ZY 3 r):f_o 8 [r.t,x]= .ok (.bl (kp r x)):=Jf (by omega) hx 8 3 (by omega) r hr
noncomputable def frT (q:Rat):T:= .tup [.int q.num,.int q.den]
theorem z14 {b:Nat}:neC (.int (b:Int)) (.int 0)= .ok (!(b == 0)):=by
 show R.ok _=_;congr 2
 cases b with
 | zero=>rfl
 | succ n=>
  rw[show ((n+1 == 0)=false) from rfl,beq_eq_false_iff_ne];omega
theorem yu (h:g ρ= .ok true)(hb:fb ρ= .nx ρ'):Zy g fb (n+1) ρ=Zy g fb n ρ' :=by
 show (g ρ).s _=_;rw[h,Za,if_pos rfl,hb]
theorem modn {a b:Nat}(h:1<=b):j2 (.int (a:Int)) (.int (b:Int))= .ok (.int ((a % b:Nat):Int)):=QM h
abbrev gdB:En->RS:=zh (zp 2 (zb j2 (vE 0) (vE 1))) (zh (zp 0 (vE 1)) (zp 1 (vE 2)))
theorem vi:∀(n b a:Nat) (x:Sl),b < n->∃x',Zy (zm neC (vB 1) (cE (.int 0))) gdB n [.vl (.int (a:Int)),.vl (.int (b:Int)),x]= .nx [.vl (.int ((dX a b:Nat):Int)),.vl (.int 0),x']
 | 0,b,a,x,h=>by omega
 | n+1,0,a,x,h=>⟨x,by
  rw[ig];rfl⟩
 | n+1,b+1,a,x,h=>by
  have e:gdB [.vl (.int (a)),.vl (.int ((b+1:Nat))),x]= .nx [.vl (.int ((b+1:Nat))),.vl (.int ((a % (b+1):Nat))),.vl (.int ((a % (b+1)):Int))]:=by
   have e1:zp 2 (zb j2 (vE 0) (vE 1)) [.vl (.int (a)),.vl (.int ((b+1:Nat))),x]= .nx [.vl (.int (a)),.vl (.int ((b+1):Int)),.vl (.int ((a % (b+1):Nat)))]:=by
    rw[zE]
    ·rfl
    ·rw[ze,v0,bOk,v1,bOk,modn (by omega)]
   show zh _ _ _=_;rw[zc e1];rfl
  have hlt:a % (b+1) < n:=by have:=ie a (show b+1 > 0 by omega);omega
  obtain⟨x',hx⟩:=vi n _ _ _ hlt;refine⟨x', ?_⟩;rw[yu (show zm neC (vB 1) (cE (.int 0)) [.vl _,.vl (.int ((b+1:Nat))),x]= .ok _ from z14) e,hx,dY _,← Nat.gcd_rec,dY]
theorem KL {a b:Nat}(h:b < 2 ^ 9000):z1S [.int (a:Int),.int (b:Int)]= .ok (.int ((dX a b:Nat):Int)):=by
 obtain⟨x',hx⟩:=vi _ b a .un h;show zf (z1R [.vl _,.vl _,.un])=_;unfold z1R;rw[zc hx];rfl
theorem z15 (u:Int):z1D (.int u)= .ok (.int (u.natAbs:Int)):=by
 show R.ok _=_;congr 2
 split <;> omega
theorem yv {u:Int}{g:Nat}(h0:1<=g)(h:g < 2 ^ 9000):xY (.int u) (.int (g:Int))= .ok (.int (u / (g:Int))):=by
 show (if _ then _ else _)=_
 rw[if_pos];refine⟨by omega, ?_⟩
 exact(l0 (by omega)).mpr h
theorem KM (u:Int)(d:Nat)(h:1<=d):(mkRat u d).num=u / ((dX u.natAbs d:Nat):Int)/\(((mkRat u d).den:Nat):Int)=(d:Int) / ((dX u.natAbs d:Nat):Int):=by
 rw[eU,eV,if_neg (by omega),if_neg (by omega),dY d]
 exact⟨rfl,Int.natCast_ediv _ _⟩
theorem KN {u:Int}{d:Nat}(h:1<=d):1<=dX u.natAbs d/\dX u.natAbs d<=d:=⟨eW _ h,iW _ h⟩
theorem jH {u:Int}{d:Nat}(h:1<=d)(hd:d < 2 ^ 9000):f_x [.int u,.int (d:Int)]= .ok (frT (mkRat u d)):=by
 obtain⟨g1,g2⟩:=KN h;have hg:=bw g2 hd;obtain⟨m1,m2⟩:=KM u d h;show zf (b_x _ [.vl _,.vl _,.un])=_;unfold b_x;have e1:zp 2 (za 2 z1S (z9 (ap1 z1D (vB 0)) (z9 (vE 1) (zd)))) [.vl (.int u),.vl (.int (d)),.un]= .nx [.vl (.int u),.vl (.int (d)),.vl (.int ((dX u.natAbs d):Int))]:=by
  rw[zE]
  ·rfl
  ·rw[zu,zY,w0,bOk,z15,bOk,v1,bOk,KL hd]
 rw[zc e1,zg]
 ·rfl
 ·unfold frT;rw[m1,m2];exact WL (yv g1 hg) (yv g1 hg)
structure Bd (q:Rat) (m:Nat):Prop where
 num:q.num.natAbs<=2 ^ m
 den:q.den<=2 ^ m
theorem Bd.le (h:Bd q m)(hm:m<=n):Bd q n:=⟨ao h.num (bQ (by decide) hm),ao h.den (bQ (by decide) hm)⟩
theorem Bd.mk' (h:1<=d)(h1:u.natAbs<=2 ^ m)(h2:d<=2 ^ m):Bd (mkRat u d) m:=by
 constructor
 ·rw[eU,if_neg (by omega),Int.natAbs_ediv_of_dvd]
  ·exact ao (lh _ _) h1
  ·exact Int.natAbs_dvd_natAbs.mp (by simpa using Nat.gcd_dvd_right d _)
 ·rw[eV,if_neg (by omega)]
  exact ao (lh _ _) h2
theorem vP (q:Rat):1<=q.den:=Nat.pos_of_ne_zero q.den_nz
theorem Bd.mul (h:Bd p m)(k:Bd q n):Bd (p*q) (m+n):=by
 rw[Rat.mul_def'];refine Bd.mk' (cG (vP p) (vP q)) ?_ ?_
 ·rw[fX,dA];exact ba h.num k.num
 ·rw[dA];exact ba h.den k.den
theorem KO (h:Bd p m)(k:Bd q n):(p.num*(q.den:Int)+q.num*(p.den:Int)).natAbs<=2 ^ (m+n+1):=by
 refine ao (Int.natAbs_add_le _ _) ?_;rw[fX,fX,ii,ii];have e1:=ba h.num k.den;have e2:=ba k.num h.den;rw[fF,dA];have e3:2 ^ n*2 ^ m=2 ^ m*2 ^ n:=cR _ _;omega
theorem Bd.add (h:Bd p m)(k:Bd q n):Bd (p+q) (m+n+1):=by
 rw[iD];refine Bd.mk' (cG (vP p) (vP q)) (KO h k) ?_;refine ao (ba h.den k.den) ?_;rw[← dA];exact bQ (by decide) (by omega)
theorem lt9 (h:n<=2 ^ m)(hm:m < 9000):n < 2 ^ 9000:=bw h (fY (by decide) hm)
theorem ltb (h:n<=2 ^ m)(hm:m < 8000):n < big:=by
 exact bw h (fY (by decide) hm)
theorem z3P (h:i.natAbs<=2 ^ m)(k:j.natAbs<=2 ^ n)(hm:m < 8000)(hn:n < 8000):mlT (.int i) (.int j)= .ok (.int (i*j)):=by
 show (if _ then _ else _)=_
 rw[if_pos ⟨ltb h hm,ltb k hn⟩]
theorem nd (d:Nat)(h:d<=2 ^ m):((d:Int)).natAbs<=2 ^ m:=by exact h
theorem ix0 (h:vE i ρ= .ok (.tup [a,b])):zb ixT (vE i) (cE (.int 0)) ρ= .ok a:=by rw[ze,h,bOk,zI,bOk,at0]
theorem ix1 (h:vE i ρ= .ok (.tup [a,b])):zb ixT (vE i) (cE (.int 1)) ρ= .ok b:=by rw[ze,h,bOk,zI,bOk,at1]
theorem uJ (hf:f ρ= .ok (.int i))(hg:g ρ= .ok (.int j))(h:i.natAbs<=2 ^ m)(k:j.natAbs<=2 ^ n)(hm:m < 8000)(hn:n < 8000):zb mlT f g ρ= .ok (.int (i*j)):=by
 rw[ze,hf,bOk,hg,bOk,z3P h k hm hn]
theorem z16 (hf:f ρ= .ok (.int i))(hg:g ρ= .ok (.int j)):zb zn f g ρ= .ok (.int (i+j)):=by
 rw[ze,hf,bOk,hg,bOk,zZ]
theorem yw (h:Bd p m)(k:Bd q n)(hm:m+n < 8000):X3 [frT p,frT q]= .ok (frT (p*q)):=by
 show zf (z1V _ [.vl _,.vl _])=_;unfold z1V;rw[zg]
 ·rfl
 ·rw[zu];have e0:vE 0 (frz [.vl (frT p),.vl (frT q)])= .ok _:=rfl;have e1:vE 1 (frz [.vl (frT p),.vl (frT q)])= .ok _:=rfl;rw[uJ (ix0 e0) (ix0 e1) h.num k.num (by omega) (by omega),bOk,uJ (ix1 e0) (ix1 e1) (nd _ h.den) (nd _ k.den) (by omega) (by omega),bOk,← cW,
   jH (cG (vP p) (vP q)) (lt9 (by rw[dA];exact ba h.den k.den) (by omega)),← Rat.mul_def']
theorem KP (h:Bd p m)(k:Bd q n)(hm:m+n < 8000):f_a [frT p,frT q]= .ok (frT (p+q)):=by
 show zf (b_a _ [.vl _,.vl _])=_;unfold b_a;rw[zg]
 ·rfl
 ·rw[zu];have e0:vE 0 (frz [.vl (frT p),.vl (frT q)])= .ok _:=rfl;have e1:vE 1 (frz [.vl (frT p),.vl (frT q)])= .ok _:=rfl;rw[z16 (uJ (ix0 e0) (ix1 e1) h.num (nd _ k.den) (by omega) (by omega)) (uJ (ix0 e1) (ix1 e0) k.num (nd _ h.den) (by omega) (by omega)),bOk,uJ (ix1 e0) (ix1 e1) (nd _ h.den) (nd _ k.den) (by omega) (by omega),bOk,← cW,
   jH (cG (vP p) (vP q)) (lt9 (by rw[dA];exact ba h.den k.den) (by omega)),← iD]
noncomputable def Zj:List Rat->Rat
 | []=>0
 | q :: r=>q+Zj r
abbrev tgB:En->RS:=zp 1 (za 2 f_a (z9 (vE 1) (z9 (vE 2) (zd))))
theorem vj:∀(qs:List Rat) (p:Rat) (n:Nat) (x:Sl),(∀q∈qs,Bd q m)->Bd p n->n+qs.length*(m+1) < 8000->
  ∃x',Zn (zq 2) tgB (qs.map frT) [s,.vl (frT p),x]= .nx [s,.vl (frT (p+Zj qs)),x']
 | [],p,n,x,_,_,_=>⟨x,by rw[Zj,iE];rfl⟩
 | q :: r,p,n,x,hq,hp,hl=>by
  rw[ai,dz]at hl;have kq:=hq q a9;obtain⟨x',e⟩:=vj r _ _ _ (λa ha=>hq a (a8 _ ha)) (hp.add kq) (by omega)
  refine⟨x', ?_⟩;rw[av,j6 (setg 2 _ _),e,Zj,a_];show zp 1 _ [s,.vl _,.vl _]=_;rw[zE]
  ·rfl
  ·rw[zu,v1,bOk,show vE 2 _= .ok _ from rfl,bOk,KP hp kq (by omega)]
theorem bd0:Bd 0 0:=⟨by decide,by decide⟩
theorem bd1:Bd 1 0:=⟨by decide,by decide⟩
theorem Up {qs:List Rat}(h:∀q∈qs,Bd q m)(hl:qs.length*(m+1) < 8000):f_n [.lst (qs.map frT)]= .ok (frT (Zj qs)):=by
 show zf (b_n _ [.vl _,.un,.un])=_;unfold b_n;have e1:zp 1 (zG (z9 (cE (.int 0)) (z9 (cE (.int 1)) (zd)))) [.vl (.lst (qs.map frT)),.un,.un]= .nx [.vl (.lst (qs.map frT)),.vl (frT 0),.un]:=by
  rfl
 obtain⟨x',e⟩:=vj qs 0 0 .un h bd0 (by omega)
 have e2:ZK (Zb (vE 0)) (zq 2) tgB [.vl (.lst (qs.map frT)),.vl (frT 0),.un]= .nx [.vl (.lst (qs.map frT)),.vl (frT (Zj qs)),x']:=by
  rw[iF]at e;exact e
 rw[zc e1,zc e2];rfl
noncomputable def ZW:List Rat->Rat
 | []=>1
 | q :: r=>q*ZW r
noncomputable def W0 (cs:List (Str×Int)):Int:=(cs.map (·.2)).sum
mutual
noncomputable def Kd.sh:Kd->T->Rat
 | .whole lo hi=>λ_=>mkRat 1 (hi+1 - lo).toNat
 | .pick cs=>λt=>match t with | .str x=>mkRat ((cs.lookup x).getD 0) (W0 cs).toNat | _=>0
 | .row ks=>λt=>match t with | .tup xs=>Kd.shs ks xs | _=>0
 | .many k lo hi=>λt=>match t with | .tup xs=>mkRat 1 (hi+1 - lo)*ZW (xs.map k.sh) | _=>0
noncomputable def Kd.shs:List Kd->List T->Rat
 | []=>λ_=>1
 | k :: ks=>λxs=>match xs with | []=>1 | x :: xs=>k.sh x*Kd.shs ks xs
end
theorem WF:∀(ks:List Kd) (xs:List T),Kd.shs ks xs=ZW ((ks.zip xs).map λq=>q.1.sh q.2)
 | [],_=>by simp[Kd.shs,ZW]
 | k :: ks,[]=>by simp[Kd.shs,ZW]
 | k :: ks,x :: xs=>by simp[Kd.shs,ZW,WF ks xs]
theorem yx (k:Kd):∀xs:List T,((af xs.length k).zip xs).map (λq=>q.1.sh q.2)=xs.map k.sh
 | []=>rfl
 | x :: xs=>by rw[ai,bM,eI,av,av,yx k xs]
theorem Bd.prod:∀{qs:List Rat},(∀q∈qs,Bd q m)->Bd (ZW qs) (qs.length*m)
 | [],_=>by rw[ZW];exact bd1.le (br _)
 | q :: r,h=>by
  rw[ZW,ai,dz,bU,ip];exact(h q a9).mul (Bd.prod λa ha=>h a (a8 _ ha))
theorem vk:∀cs:List (Str×Int),J4 (cs.map Jt)=some cs
 | []=>rfl
 | c :: cs=>by
  show (match J4 (cs.map Jt) with | some l=>some ((c.1,c.2) :: l) | none=>none)=_
  rw[vk cs]
theorem Dst.nd (h:Dst ws):ws.Nodup:=by
 rw[List.Nodup,eK];intro i j hi hj hij e;refine h j _ (ah hj) ?_;rw[← e];rw[List.mem_take_iff_getElem];exact⟨i,by omega,rfl⟩
theorem Jg:∀(cs:List (Str×Int)) (x:Str),(cs.any λc=>c.1 == x)=true->∃i,cs.lookup x=some i/\(x,i)∈cs
 | [],x,h=>by simp at h
 | c :: cs,x,h=>by
  rw[eP,lb]at h
  by_cases e:c.1=x
  ·refine⟨c.2, ?_, ?_⟩
   ·rw[aK];simp[e]
   ·rw[← e];exact a9
  ·have h:(cs.any λc=>c.1 == x)=true:=h.resolve_left (by simp[e])
   obtain⟨i,h1,h2⟩:=Jg cs x h;refine⟨i, ?_,a8 _ h2⟩;rw[aK];have:(x == c.1)=false:=beq_eq_false_iff_ne.mpr (bK e);rw[this];exact h1
theorem Xl:∀{cs:List (Str×Int)},(∀c∈cs,1<=c.2/\c.2<=20)->(cs.length:Int)<=W0 cs/\W0 cs<=20*cs.length
 | [],_=>by simp[W0]
 | c :: cs,h=>by
  have ih:=Xl (cs:=cs) λa ha=>h a (a8 _ ha);have h0:=h c a9;have e:W0 (c :: cs)=c.2+W0 cs:=by simp[W0]
  rw[e,ai];omega
theorem yy {cs:List (Str×Int)}(h:(Kd.pick cs).Ok (d+1)):1<=W0 cs/\W0 cs<=80/\∀c∈cs,1<=c.2/\c.2<=20:=by
 have hb:∀c∈cs,1<=c.2/\c.2<=20:=λc hc=>(h.2.2.1 c hc).2;have:=Xl hb;have h1:=h.1;have h2:=h.2.1;exact⟨by omega,by omega,hb⟩
theorem Uq (cs:List (Str×Int))(x:Str):(Kd.pick cs).sh (.str x)=mkRat ((cs.lookup x).getD 0) (W0 cs).toNat:=by rw[Kd.sh]
theorem z17 {cs:List (Str×Int)}(hd:Dst (cs.map (·.1)))(h:cs.lookup x=some i):qN (.tup (cs.map Jt)) (.str x)= .ok (.int i):=by
 unfold qN;dsimp only;rw[vk];dsimp only;rw[if_pos hd.nd,h]
theorem KQ {cs:List (Str×Int)}(hd:Dst (cs.map (·.1))):uh (.tup (cs.map Jt))= .ok (.int (W0 cs)):=by
 unfold uh;dsimp only;rw[vk];dsimp only;rw[if_pos hd.nd];rfl
theorem xm {cs:List (Str×Int)}(h:(Kd.pick cs).Ok (d+1))(hx:cs.lookup x=some i):z1U [(Kd.pick cs).t,.str x]= .ok (frT ((Kd.pick cs).sh (.str x))):=by
 obtain⟨w1',w2',_⟩:=yy h;show zf (z1T f_x [.vl (Kd.pick cs).t,.vl (.str x),.un])=_;unfold z1T;have e1:zb ixT (vE 0) (cE (.int 1)) [.vl (Kd.pick cs).t,.vl (.str x),.un]= .ok (.tup (cs.map Jt)):=by rw[Kd.t];exact jS
 have en:W0 cs=(((W0 cs).toNat:Nat):Int):=by omega
 show zf ((R.bind _ _).s _)=_;rw[e1,bOk,v1,bOk,z17 h.2.2.2 hx,bOk,KQ h.2.2.2,bOk,en,jH (by omega) (lt9 (m:=7) (by omega) (by decide)),Za,Uq,hx]
 rfl
abbrev spB (c:List T->R T):En->RS:=zp 2 (za 2 X3 (z9 (vE 2) (z9 (za 2 c (z9 (vE 3) (z9 (vE 4) (zd)))) (zd))))
theorem vm:∀(qs:List (Kd×T)) (p:Rat) (n:Nat) (x y:Sl),(∀q∈qs,c [q.1.t,q.2]= .ok (frT (q.1.sh q.2))/\Bd (q.1.sh q.2) m)->Bd p n->n+qs.length*m < 8000->
  ∃x' y',Zn (Z8 3 4) (spB c) (qs.map λq=>T.tup [q.1.t,q.2]) [s,t,.vl (frT p),x,y]= .nx [s,t,.vl (frT (p*ZW (qs.map λq=>q.1.sh q.2))),x',y']
 | [],p,n,x,y,_,_,_=>⟨x,y,by simp only[bO,ZW,l5];rfl⟩
 | q :: r,p,n,x,y,h,hp,hl=>by
  rw[ai,dz]at hl;obtain⟨k1,k2⟩:=h q a9;obtain⟨x',y',e⟩:=vm r (p*q.1.sh q.2) (n+m) (.vl q.1.t) (.vl q.2) (λa ha=>h a (a8 _ ha)) (hp.mul k2) (by omega)
  refine⟨x',y', ?_⟩;rw[av,av,j6 (ρ1:=[s,t,.vl (frT p),.vl q.1.t,.vl q.2]) (ρ2:=[s,t,.vl (frT (p*q.1.sh q.2)),.vl q.1.t,.vl q.2]) rfl,e,ZW,Rat.mul_assoc];show zp 2 _ [s,t,.vl (frT p),.vl q.1.t,.vl q.2]=_;rw[zE (t:=frT (p*q.1.sh q.2))]
  ·rfl
  ·rw[zu,show vE 2 [s,t,.vl (frT p),.vl q.1.t,.vl q.2]= .ok (frT p) from rfl,bOk,zu,show vE 3 [s,t,.vl (frT p),.vl q.1.t,.vl q.2]= .ok q.1.t from rfl,bOk,show vE 4 [s,t,.vl (frT p),.vl q.1.t,.vl q.2]= .ok q.2 from rfl,bOk,k1,bOk,yw hp k2 (by omega)]
theorem uK (ks:List Kd)(xs:List T)(hs:J0 s= .ok (ks.map Kd.t))(hl:ks.length<=3)(hm:m<=1000)(H:∀q∈ks.zip xs,c [q.1.t,q.2]= .ok (frT (q.1.sh q.2))/\Bd (q.1.sh q.2) m):
  zf (z0s X3 c (en0 5 [s,.tup xs]))= .ok (frT (ZW ((ks.zip xs).map λq=>q.1.sh q.2))):=by
 have e:en0 5 [s,.tup xs]=[.vl s,.vl (.tup xs),.un,.un,.un]:=rfl;have hz:(ks.zip xs).length*m < 8000:=by
  have h1:(ks.zip xs).length<=3:=by rw[dQ];omega
  have:=ba h1 hm;omega
 obtain⟨x',y',el⟩:=vm (c:=c) (s:= .vl s) (t:= .vl (.tup xs)) (ks.zip xs) 1 0 .un .un H bd1 (by omega)
 have e1:zp 2 (zG (z9 (cE (.int 1)) (z9 (cE (.int 1)) (zd)))) [.vl s,.vl (.tup xs),.un,.un,.un]= .nx [.vl s,.vl (.tup xs),.vl (frT 1),.un,.un]:=by
  rw[zE (WL rfl rfl)];rfl
 have ez:xT (vE 0) (vE 1) [.vl s,.vl (.tup xs),.vl (frT 1),.un,.un]= .ok ((ks.zip xs).map λq=>T.tup [q.1.t,q.2]):=by
  show (J0 s).bind _=_;rw[hs,bOk,← z0P];rfl
 have e2:ZK (xT (vE 0) (vE 1)) (Z8 3 4) (spB c) [.vl s,.vl (.tup xs),.vl (frT 1),.un,.un]= .nx [.vl s,.vl (.tup xs),.vl (frT (ZW ((ks.zip xs).map λq=>q.1.sh q.2))),x',y']:=by
  unfold ZK;rw[ez,Za,el,Rat.one_mul]
 rw[e,z0s,zc e1,zc e2];rfl
noncomputable def sb:Nat->Nat
 | 0=>0
 | d+1=>7+3*sb d
theorem z28 (d:Nat):sb (d+1)=7+3*sb d:=rfl
abbrev vn (a b:T):En:=[.vl a,.vl b,.un]
theorem gw (h:(x == w)=false):ifS (zm eqC (zb ixT (vE 0) (cE (.int 0))) (cE (.str w))) f nxS (vn (.tup (.str x :: r)) b)= .nx (vn (.tup (.str x :: r)) b):=
 zi (by rw[show zm eqC (zb ixT (vE 0) (cE (.int 0))) (cE (.str w)) (vn (.tup (.str x :: r)) b)= .ok (x == w) from cs0,h])
theorem z3Q:ifS (zm eqC (zb ixT (vE 0) (cE (.int 0))) (cE (.str x))) f nxS (vn (.tup (.str x :: r)) b)=f (vn (.tup (.str x :: r)) b):=
 jT (by rw[show zm eqC (zb ixT (vE 0) (cE (.int 0))) (cE (.str x)) (vn (.tup (.str x :: r)) b)= .ok (x == x) from cs0,beq_self_eq_true])
theorem WG:∀(d n:Nat),2*d<=n->d<=3->∀(k:Kd) (x:T),k.Ok d->k.has x=true->S_8 n 0 [k.t,x]= .ok (frT (k.sh x))/\Bd (k.sh x) (sb d)
 | 0,_,_,_,_,_,h,_=>h.elim
 | d+1,n+2,hn,hd3,k,x,h,hx=>by
  have ih:=WG d n (by omega) (by omega)
  have hsb:sb d<=1000:=by
   have h2:d<=2:=by omega
   rcases(show d=0\/d=1\/d=2 by omega) with rfl | rfl | rfl <;> decide
  have e:S_8 (n+2) 0 [k.t,x]=zf (b_8 (f_3 20) X3 z1U (S_8 (n+1) 1) (vn k.t x)):=by rw[S_8];rfl
  have e1:∀s y,S_8 (n+1) 1 [s,y]=zf (z0s X3 (S_8 n 0) (en0 5 [s,y])):=λs y=>by rw[S_8];intro h;cases h
  rw[e];cases k with
  | whole lo hi=>
   obtain⟨a1,a2,a3⟩:=h;have hc:=j3 (d:=1) (by omega) (yc d lo hi ⟨a1,a2,a3⟩)
   rw[jl]at hc;constructor
   ·rw[show (Kd.whole lo hi).t= .tup [.str "whole",.int lo,.int hi] from by rw[Kd.t]]at hc ⊢
    rw[b_8,zw (t:=frT (mkRat 1 (hi+1 - lo).toNat)),Kd.sh]
    ·rfl
    ·rw[z3Q,zg (t:=frT (mkRat 1 (hi+1 - lo).toNat))];show zG _ (vn _ x)=_;have ez:frT (mkRat 1 (hi+1 - lo).toNat)= .tup [.int 1,.int (((hi+1 - lo).toNat:Nat):Int)]:=by
      unfold frT;rw[eU,eV,if_neg (by omega),if_neg (by omega),show (1:Int).natAbs=1 from rfl,iG,Nat.div_one]
      rfl
     rw[ez];exact WL rfl (by rw[zH,v0,bOk,hc])
   ·rw[Kd.sh];refine(Bd.mk' (m:=7) (by omega) (by decide) (by omega)).le ?_
    rw[z28];omega
  | pick cs=>
   cases x with
   | str y=>
    have hx' :(cs.any λc=>c.1 == y)=true:=by rw[Kd.has]at hx;exact hx
    obtain⟨i,hi,hm⟩:=Jg cs y hx';obtain⟨w1',w2',w3'⟩:=yy h;have hw:=w3' _ hm;constructor
    ·have hs:=xm h hi;rw[show (Kd.pick cs).t= .tup [.str "pick",.tup (cs.map Jt)] from by rw[Kd.t]]at hs ⊢
     rw[b_8,zc (gw (by decide)),zw (t:=frT ((Kd.pick cs).sh (.str y)))]
     ·rfl
     ·rw[z3Q,zg (t:=frT ((Kd.pick cs).sh (.str y)))];show za 2 _ _ (vn _ _)=_;rw[zu,v0,bOk,v1,bOk,hs]
    ·rw[Uq,hi];refine(Bd.mk' (m:=7) (by omega) ?_ (by omega)).le ?_
     ·show i.natAbs<=128;omega
     ·rw[z28];omega
   | _=>rw[Kd.has]at hx;cases hx
  | row ks=>
   cases x with
   | tup xs=>
    have hx' :(xs.length == ks.length && Kd.hass ks xs)=true:=by rw[Kd.has]at hx;exact hx
    rw[ac,beq_iff_eq,JD,aJ]at hx';have H:∀q∈ks.zip xs,S_8 n 0 [q.1.t,q.2]= .ok (frT (q.1.sh q.2))/\Bd (q.1.sh q.2) (sb d):=λq hq=>ih q.1 q.2 (h.2.2 q.1 (c8 hq).1) (hx'.2 q hq);have hp:=uK (s:= .tup (ks.map Kd.t)) ks xs rfl h.2.1 hsb H;have es:(Kd.row ks).sh (.tup xs)=ZW ((ks.zip xs).map λq=>q.1.sh q.2):=by rw[Kd.sh,← WF]
    rw[es];constructor
    ·rw[show (Kd.row ks).t= .tup [.str "row",.tup (ks.map Kd.t)] from by rw[Kd.t,Kd.ts_map]]
     rw[b_8,zc (gw (by decide)),zc (gw (by decide)),zw (t:=frT (ZW ((ks.zip xs).map λq=>q.1.sh q.2)))]
     ·rfl
     ·rw[z3Q,zg (t:=frT (ZW ((ks.zip xs).map λq=>q.1.sh q.2)))];show za 2 _ _ (vn _ _)=_;rw[zu,jS,bOk,v1,bOk,e1,hp]
    ·have hb:=Bd.prod (qs:=(ks.zip xs).map λq=>q.1.sh q.2) (m:=sb d) (λq hq=>by
      obtain⟨a,ha,rfl⟩:=az.mp hq;exact(H a ha).2)
     refine hb.le ?_;have h3:=h.2.1;have hz:((ks.zip xs).map λq=>q.1.sh q.2).length<=3:=by rw[aa,dQ];omega
     have:=d8 (sb d) hz;rw[z28];omega
   | _=>rw[Kd.has]at hx;cases hx
  | many k lo hi=>
   cases x with
   | tup xs=>
    have hx' :(decide (lo<=xs.length) && decide (xs.length<=hi) && xs.all k.has)=true:=by rw[Kd.has]at hx;exact hx
    rw[ac,ac,decide_eq_true_eq,decide_eq_true_eq,aJ]at hx';obtain⟨⟨l1,l2⟩,hx'⟩:=hx';have h1:=h.1;have h3:=h.2.1;have hx3:xs.length<=3:=by omega
    have H:∀q∈(af xs.length k).zip xs,S_8 n 0 [q.1.t,q.2]= .ok (frT (q.1.sh q.2))/\Bd (q.1.sh q.2) (sb d):=λq hq=>by
     have:=c8 hq;have e:=bx this.1;refine ih q.1 q.2 ?_ ?_
     ·rw[e];exact h.2.2
     ·rw[e];exact hx' q.2 this.2
    have hp:=uK (s:= .lst ((af xs.length k).map Kd.t)) (af xs.length k) xs rfl (by rw[aN];exact hx3) hsb H
    rw[yx]at hp;have es:(Kd.many k lo hi).sh (.tup xs)=mkRat 1 (hi+1 - lo)*ZW (xs.map k.sh):=by rw[Kd.sh]
    have hb:=Bd.prod (qs:=xs.map k.sh) (m:=sb d) (λq hq=>by
      rw[← yx]at hq;obtain⟨a,ha,rfl⟩:=az.mp hq;exact(H a ha).2)
    rw[aa]at hb;have hb0:Bd (mkRat 1 (hi+1 - lo)) 2:=Bd.mk' (by omega) (by decide) (by show hi+1 - lo<=4;omega)
    have hz:=d8 (sb d) hx3;rw[es];constructor
    ·rw[show (Kd.many k lo hi).t= .tup [.str "many",k.t,.int (lo:Int),.int (hi:Int)] from by rw[Kd.t]]
     have em:zb Z0 (Ze (z9 (zb ixT (vE 0) (cE (.int 1))) (zd))) (ap1 zT (vB 1)) [.vl (.tup [.str "many",k.t,.int (lo:Int),.int (hi:Int)]),.vl (.tup xs),.vl (frT (mkRat 1 (hi+1 - lo)))]= .ok (.lst ((af xs.length k).map Kd.t)):=by
      rw[ze,z0J jS,bOk,zY,w1,bOk,ZH,bOk,uy hx3,jx,aV]
     have ez:frT (mkRat 1 (hi+1 - lo))= .tup [.int 1,.int ((hi:Int) - (lo:Int)+1)]:=by
      unfold frT;rw[eU,eV,if_neg (by omega),if_neg (by omega),show (1:Int).natAbs=1 from rfl,iG,Nat.div_one,show ((hi+1 - lo:Nat):Int)=(hi:Int) - (lo:Int)+1 by omega]
      rfl
     have eq:zp 2 (zG (z9 (cE (.int 1)) (z9 (zb zn (zb jg (zb ixT (vE 0) (cE (.int 3))) (zb ixT (vE 0) (cE (.int 2)))) (cE (.int 1))) (zd)))) (vn (.tup [.str "many",k.t,.int (lo:Int),.int (hi:Int)]) (.tup xs))= .nx [.vl (.tup [.str "many",k.t,.int (lo:Int),.int (hi:Int)]),.vl (.tup xs),.vl (frT (mkRat 1 (hi+1 - lo)))]:=by
      rw[ez,zE (WL rfl (y:= .int ((hi:Int) - (lo:Int)+1)) (Ye (by rw[ze,Kv,bOk,WN,bOk,Zi])))]
      rfl
     rw[b_8,zc (gw (by decide)),zc (gw (by decide)),zc (gw (by decide)),zc eq,zg (t:=frT (mkRat 1 (hi+1 - lo)*ZW (xs.map k.sh)))]
     ·rfl
     ·show za 2 _ _ [.vl (.tup [.str "many",k.t,.int (lo:Int),.int (hi:Int)]),.vl (.tup xs),.vl (frT (mkRat 1 (hi+1 - lo)))]=_;rw[zu,show vE 2 [.vl (.tup [.str "many",k.t,.int (lo:Int),.int (hi:Int)]),.vl (.tup xs),.vl (frT (mkRat 1 (hi+1 - lo)))]= .ok (frT (mkRat 1 (hi+1 - lo))) from rfl,bOk,zu,em,bOk,v1,bOk,e1,hp,bOk,yw hb0 hb (by omega)]
    ·refine(hb0.mul hb).le ?_;rw[z28];omega
   | _=>rw[Kd.has]at hx;cases hx
theorem WH:∀as bs:List Rat,Zj (as++bs)=Zj as+Zj bs
 | [],bs=>by rw[bP,Zj,iF]
 | a :: as,bs=>by rw[cu,Zj,Zj,WH as bs,a_]
theorem WI {α:Type}(c:Rat)(f:α->Rat):∀as:List α,Zj (as.map λa=>c*f a)=c*Zj (as.map f)
 | []=>by simp only[bO,Zj,Rat.mul_zero]
 | a :: as=>by simp only[av,Zj,WI c f as,Rat.mul_add]
theorem wq {α β:Type}(f:α->List β)(g:β->Rat):∀as:List α,Zj ((as.flatMap f).map g)=Zj (as.map λa=>Zj ((f a).map g))
 | []=>rfl
 | a :: as=>by rw[bp,c9,WH,wq f g as];rfl
theorem ZX {α:Type}{f g:α->Rat}:∀{as:List α},(∀a∈as,f a=g a)->Zj (as.map f)=Zj (as.map g)
 | [],_=>rfl
 | a :: as,h=>by rw[av,av,Zj,Zj,h a a9,ZX λb hb=>h b (a8 _ hb)]
theorem Jh:∀(ls made:List (List T)),Z2 made ls=made.flatMap λa=>(Z2 [[]] ls).map λb=>a++b
 | [],made=>by
  simp only[Z2,av,bO,bJ]
  induction made with
  | nil=>rfl
  | cons a as ih=>rw[bp,← ih];rfl
 | l :: ls,made=>by
  rw[Z2,Jh ls,Z2,Jh ls (List.flatMap _ [[]])]
  induction made with
  | nil=>rfl
  | cons a as ih=>
   rw[bp,List.flatMap_append,ih,bp];congr 1
   simp only[iX,bJ,bP];rw[List.map_flatMap,fk,fk];congr 1
   funext x
   rw[aM];congr 1
   funext b
   simp[aU]
theorem vo (l:List T)(ls:List (List T)):Z2 [[]] (l :: ls)=l.flatMap λx=>(Z2 [[]] ls).map λb=>x :: b:=by
 rw[Z2,Jh,bp,iX,bJ,fk];rfl
abbrev Due (k:Kd):Prop:=Zj (k.all.map k.sh)=1
theorem wt:∀ks:List Kd,(∀k∈ks,Due k)->Zj ((Z2 [[]] (ks.map Kd.all)).map (Kd.shs ks))=1
 | [],_=>by
  show Zj [Kd.shs [] []]=1;rw[Kd.shs];simp only[Zj,iE]
 | k :: ks,h=>by
  rw[av,vo,wq];have e:∀x∈k.all,Zj (((Z2 [[]] (ks.map Kd.all)).map λb=>x :: b).map (Kd.shs (k :: ks)))=k.sh x:=λx _=>by
   rw[aM];have:((Kd.shs (k :: ks)) ∘ λb=>x :: b)=λb=>k.sh x*Kd.shs ks b:=by funext b;show Kd.shs _ _=_;rw[Kd.shs]
   rw[this,WI,wt ks λa ha=>h a (a8 _ ha),l5]
  rw[ZX e];exact h k a9
theorem Ur (n:Nat)(h:n ≠ 0):mkRat (n:Int) n=1:=by
 have e:(1:Rat)=mkRat 1 1:=rfl;rw[e,iY h (by decide)];omega
theorem Ji {α:Type}(c:Rat):∀as:List α,Zj (as.map λ_=>c)=mkRat (as.length:Int) 1*c
 | []=>by
  rw[bO,Zj,bi,h_];show 0=((0:Int):Rat)*c;rw[show ((0:Int):Rat)=0 from rfl,Rat.zero_mul]
 | a :: as=>by
  rw[av,Zj,Ji c as,ai,h_,h_,lg,Rat.intCast_add,Rat.add_mul,de];show _=_+((1:Int):Rat)*c;rw[show ((1:Int):Rat)=1 from rfl,Rat.one_mul]
theorem W1:∀(cs:List (Str×Int)),(cs.map (·.1)).Nodup->∀c∈cs,cs.lookup c.1=some c.2
 | [],_,c,h=>by simp at h
 | a :: cs,hn,c,h=>by
  rw[av,cV]at hn;rw[aK];rcases ak.mp h with rfl | h
  ·simp
  ·have hne:(c.1 == a.1)=false:=beq_eq_false_iff_ne.mpr λe=>hn.1 (e ▸ az.mpr ⟨c,h,rfl⟩);rw[hne];exact W1 cs hn.2 c h
theorem vp (d:Nat)(hd:d ≠ 0):∀cs:List (Str×Int),Zj (cs.map λc=>mkRat c.2 d)=mkRat (W0 cs) d
 | []=>by
  show (0:Rat)=mkRat 0 d;rw[Rat.zero_mkRat]
 | c :: cs=>by
  rw[av,Zj,vp d hd cs,Rat.mkRat_add_mkRat _ _ hd hd,iY (Nat.mul_ne_zero hd hd) hd];have:W0 (c :: cs)=c.2+W0 cs:=by simp[W0]
  rw[this,cW,← Int.add_mul,Int.mul_assoc]
theorem due:∀(d:Nat) (k:Kd),k.Ok d->Due k
 | 0,_,h=>h.elim
 | d+1,.whole lo hi,h=>by
  have h1:=h.2.1;show Zj _=1;rw[Kd.all,aM];have e:((Kd.whole lo hi).sh ∘ λ(i:Nat)=>T.int (lo+(i:Int)))=λ_=>mkRat 1 (hi+1 - lo).toNat:=by funext i;show Kd.sh _ _=_;rw[Kd.sh]
  rw[e,Ji,bo,hJ,iZ,bU];exact Ur _ (by omega)
 | d+1,.pick cs,h=>by
  obtain⟨w1',w2',_⟩:=yy h;show Zj _=1;rw[Kd.all,aM];have e:∀c∈cs,((Kd.pick cs).sh ∘ λc=>T.str c.1) c=mkRat c.2 (W0 cs).toNat:=λc hc=>by
   show (Kd.pick cs).sh (.str c.1)=_;rw[Uq,W1 cs h.2.2.2.nd c hc];rfl
  rw[ZX e,vp _ (by omega),show W0 cs=(((W0 cs).toNat:Nat):Int) by omega]
  exact Ur _ (by omega)
 | d+1,.row ks,h=>by
  have es:((Kd.row ks).sh ∘ T.tup)=Kd.shs ks:=by funext xs;show Kd.sh _ _=_;rw[Kd.sh]
  show Zj _=1;rw[Kd.all,Kd.alls_map,aM,es,wt ks λk hk=>due d k (h.2.2 k hk)]
 | d+1,.many k lo hi,h=>by
  have h1:=h.1;have hin:∀(m:Nat),Zj ((Yd (af m k.all)).map (Kd.many k lo hi).sh)=mkRat 1 (hi+1 - lo):=λm=>by
   have er:af m k.all=(af m k).map Kd.all:=by rw[aV]
   have d1:=wt (af m k) λa ha=>by rw[bx ha];exact due d k h.2.2
   rw[← er]at d1;have hl:∀xs∈Z2 [[]] (af m k.all),xs.length=m:=λxs hx=>by
    have:=wZ (af m k.all) [[]] 0 (λa ha=>by rw[aG.mp ha];rfl) xs hx
    rw[aN]at this;omega
   show Zj (((Z2 [[]] _).map T.tup).map _)=_;rw[aM,ZX (f:=(Kd.many k lo hi).sh ∘ T.tup) (g:=λxs=>mkRat 1 (hi+1 - lo)*Kd.shs (af m k) xs) (λxs hx=>by
    show Kd.sh _ _=_;rw[Kd.sh,WF,← hl xs hx,yx]),WI,d1,l5]
  show Zj _=1;rw[Kd.all,wq,ZX (g:=λ_=>mkRat 1 (hi+1 - lo)) (λi _=>hin (lo+i)),Ji,bo,hJ,iZ,bU];exact Ur _ (by omega)
noncomputable def S (l:List Nat):Str:=⟨l.toArray⟩
theorem z3R (l:List Nat):(S l).length=l.length:=by simp[S,i5]
theorem Yj (a b:List Nat):S a++S b=S (a++b):=lm (by simp[S,Str.cps_append])
theorem z3S (x:Str):S x.cps.toList=x:=lm (by simp[S])
theorem vq:∀{a b r s:List Nat},c ∉ a->c ∉ b->a++c :: r=b++c :: s->a=b/\r=s
 | [],[],_,_,_,_,h=>⟨rfl,by simpa using h⟩
 | [],y :: b,_,_,_,hb,h=>by
  injection h with h1 h2;exact absurd (h1 ▸ a9) hb
 | x :: a,[],_,_,ha,_,h=>by
  injection h with h1 h2;exact absurd (h1 ▸ a9) ha
 | x :: a,y :: b,_,_,ha,hb,h=>by
  injection h with h1 h2;obtain⟨e1,e2⟩:=vq (λz=>ha (a8 _ z)) (λz=>hb (a8 _ z)) h2;exact⟨by rw[h1,e1],e2⟩
def nl (i:Int):List Nat:=(K8 i).cps.toList
theorem nl_S (i:Int):K8 i=S (nl i):=(z3S _).symm
def nOk (i:Int):Bool:=decide ((nl i).length<=3) && !(nl i).isEmpty && (nl i).all (λc=>c == 45 || (decide (48<=c) && decide (c<=57))) && decide (rdI (K8 i)=some i)
theorem z3T:∀k < 41,nOk ((k:Nat) - 20:Int)=true:=by decide+kernel
theorem gy (h1: -20<=i)(h2:i<=20):(nl i).length<=3/\nl i ≠ []/\(∀c∈nl i,c=45\/(48<=c/\c<=57))/\rdI (K8 i)=some i:=by
 have:=z3T (i+20).toNat (by omega)
 rw[show (((i+20).toNat) - 20:Int)=i by omega]at this
 unfold nOk at this;simp at this;exact⟨this.1.1.1,this.1.1.2,this.1.2,this.2⟩
theorem yz (h:zM (.str x)=true):x.cps.toList.length<=3:=by
 have h:(decide _ && decide _ && x.cps.toList.all _)=true:=h;rw[ac,ac]at h;have:=of_decide_eq_true h.1.2;simpa[i5] using this
theorem z18 (h:i.natAbs < 1000000):txO (.int i)=some (S (nl i)):=by exact if_pos h
theorem WJ (h:zM (.str x)=true):∀c∈x.cps.toList,97<=c/\c<=122:=by
 have h:(decide _ && decide _ && x.cps.toList.all _)=true:=h;rw[ac]at h;intro c hc;have:=aJ.mp h.2 c hc;unfold Zc at this;simp at this;exact this
def Wt:Nat->T->Prop
 | 0,_=>False
 | d+1,x=>(∃i:Int,x= .int i/\ -20<=i/\i<=20)\/(∃w:Str,x= .str w/\zM (.str w)=true)\/∃xs:List T,x= .tup xs/\xs.length<=3/\∀y∈xs,Wt d y
theorem KR:∀(d:Nat) (k:Kd) (x:T),k.Ok d->k.has x=true->Wt d x
 | 0,_,_,h,_=>h.elim
 | d+1,.whole lo hi,x,h,hx=>by
  obtain⟨i,rfl⟩:=Qh hx;have hx:(decide _ && decide _)=true:=hx;rw[ac,decide_eq_true_eq,decide_eq_true_eq]at hx;have h1:=h.1;have h3:=h.2.2;exact .inl ⟨i,rfl,by omega,by omega⟩
 | d+1,.pick cs,x,h,hx=>by
  rw[Kd.has]at hx;dsimp only at hx;split at hx
  ·rw[dN]at hx;obtain⟨c,hc,e⟩:=hx;rw[← eq_of_beq e];exact .inr (.inl ⟨c.1,rfl,(h.2.2.1 c hc).1⟩)
  ·cases hx
 | d+1,.row ks,x,h,hx=>by
  rw[Kd.has]at hx;dsimp only at hx;split at hx
  ·rename_i xs;rw[ac,beq_iff_eq]at hx;refine .inr (.inr ⟨xs,rfl,by rw[hx.1];exact h.2.1,λy hy=> ?_⟩)
   obtain⟨k,hk,hh⟩:=Ww ks xs hx.1 hx.2 y hy;exact KR d k y (h.2.2 k hk) hh
  ·cases hx
 | d+1,.many k lo hi,x,h,hx=>by
  rw[Kd.has]at hx;dsimp only at hx;split at hx
  ·rename_i xs;rw[ac,ac,decide_eq_true_eq,decide_eq_true_eq,aJ]at hx;exact .inr (.inr ⟨xs,rfl,ao hx.1.2 h.2.1,λy hy=>KR d k y h.2.2 (hx.2 y hy)⟩)
  ·cases hx
theorem z3U (h1: -20<=i)(h2:i<=20)(h:f ρ= .ok (.int i)):ap1 gp f ρ= .ok (.str (S (nl i))):=by
 rw[zY,h,bOk];unfold gp;rw[z18 (by omega)]
theorem z3V (hw:zM (.str w)=true)(h:f ρ= .ok (.str w)):ap1 gp f ρ= .ok (.str (S w.cps.toList)):=by
 have hl:=yz hw;have e0:txO (.str w)=some (S w.cps.toList):=by exact if_pos (by simp[i5]at hl ⊢;omega)
 rw[zY,h,bOk];unfold gp;rw[e0]
theorem z19 (h1: -20<=i)(h2:i<=20)(h3: -20<=j)(h4:j<=20)(h:nl i=nl j):i=j:=by
 have e1:=(gy h1 h2).2.2.2;have e2:=(gy h3 h4).2.2.2;rw[nl_S,h,← nl_S,e2]at e1;exact(aL e1).symm
mutual
noncomputable def rx:T->List Nat
 | .int i=>nl i
 | .str x=>39 :: (x.cps.toList++[39])
 | .tup xs=>40 :: rb xs
 | _=>[]
noncomputable def rb:List T->List Nat
 | []=>[41]
 | x :: xs=>rx x++rc xs true
noncomputable def rc:List T->Bool->List Nat
 | [],one=>if one then [44,41] else [41]
 | x :: xs,_=>44 :: 32 :: (rx x++rc xs false)
end
theorem Xm (i:Int):rx (.int i)=nl i:=by rw[rx]
theorem rx_s (x:Str):rx (.str x)=39 :: (x.cps.toList++[39]):=by rw[rx]
theorem z3W (xs:List T):rx (.tup xs)=40 :: rb xs:=by rw[rx]
noncomputable def Del (r:List Nat):Prop:=∀c q,r=c :: q->c=44\/c=41
theorem yA (xs:List T)(b:Bool)(r:List Nat):Del (rc xs b++r):=λc q h=>by
 cases xs with
 | nil=>
  rw[rc]at h;cases b with
  | true=>injection h with h1;exact .inl h1.symm
  | false=>injection h with h1;exact .inr h1.symm
 | cons x xs=>injection h with h1;exact .inl h1.symm
noncomputable def dg (c:Nat):Bool:=c == 45 || (decide (48<=c) && decide (c<=57))
theorem vt:∀(a r:List Nat),(∀c∈a,dg c=true)->(∀c q,r=c :: q->dg c=false)->(a++r).takeWhile dg=a
 | [],r,_,h=>by
  cases r with
  | nil=>rfl
  | cons c q=>rw[bP,hU,h c q rfl];rfl
 | c :: a,r,h1,h2=>by
  rw[cu,hU,h1 c a9,vt a r (λx hx=>h1 x (a8 _ hx)) h2];rfl
theorem z1a (h1: -20<=i)(h2:i<=20):∀c∈nl i,dg c=true:=λc hc=>by
 have:=(gy h1 h2).2.2.1 c hc;unfold dg;simp;omega
theorem Xn {r:List Nat}(h:Del r):∀c q,r=c :: q->dg c=false:=λc q e=>by
 rcases h c q e with rfl | rfl <;> decide
theorem xn (h1: -20<=i)(h2:i<=20):∃c q,nl i=c :: q/\c ≠ 39/\c ≠ 40:=by
 obtain⟨_,hne,hch,_⟩:=gy h1 h2;cases e:nl i with
 | nil=>exact absurd e hne
 | cons c q=>
  have:=hch c (by rw[e];exact a9)
  exact⟨c,q,rfl,by omega,by omega⟩
abbrev RxI (d:Nat):Prop:=∀(x y:T) (r s:List Nat),Wt d x->Wt d y->Del r->Del s->rx x++r=rx y++s->x=y/\r=s
theorem Xo (ih:RxI d):∀(xs ys:List T) (b:Bool) (r s:List Nat),(∀x∈xs,Wt d x)->(∀y∈ys,Wt d y)->rc xs b++r=rc ys b++s->xs=ys/\r=s
 | [],[],b,r,s,_,_,h=>⟨rfl,dB h⟩
 | [],y :: ys,b,r,s,_,_,h=>by
  cases b with
  | true=>cases h
  | false=>cases h
 | x :: xs,[],b,r,s,_,_,h=>by
  cases b with
  | true=>cases h
  | false=>cases h
 | x :: xs,y :: ys,b,r,s,hx,hy,h=>by
  injection h with _ h;injection h with _ h;have h:(rx x++rc xs _)++r=(rx y++rc ys _)++s:=h;rw[aU,aU]at h;obtain⟨e1,e2⟩:=ih x y _ _ (hx x a9) (hy y a9) (yA _ _ _) (yA _ _ _) h;obtain⟨e3,e4⟩:=Xo ih xs ys _ r s (λz hz=>hx z (a8 _ hz)) (λz hz=>hy z (a8 _ hz)) e2;exact⟨by rw[e1,e3],e4⟩
theorem z1b (h:Wt d x):∃c q,rx x=c :: q/\c ≠ 41:=by
 cases d with
 | zero=>exact h.elim
 | succ d=>
  rcases h with ⟨i,rfl,h1,h2⟩ | ⟨w,rfl,hw⟩ | ⟨xs,rfl,h3,hy⟩
  ·obtain⟨_,hne,hch,_⟩:=gy h1 h2;rw[Xm];cases e:nl i with
   | nil=>exact absurd e hne
   | cons c q=>
    have:=hch c (by rw[e];exact a9)
    exact⟨c,q,rfl,by omega⟩
  ·exact⟨39,_,rx_s w,by decide⟩
  ·exact⟨40,_,z3W xs,by decide⟩
theorem z1c (ih:RxI d)(xs ys:List T)(r s:List Nat)(hx:∀x∈xs,Wt d x)(hy:∀y∈ys,Wt d y)(h:rb xs++r=rb ys++s):xs=ys/\r=s:=by
 cases xs with
 | nil=>
  cases ys with
  | nil=>exact⟨rfl,dB h⟩
  | cons y ys=>
   obtain⟨c,q,e,hc⟩:=z1b (hy y a9);rw[rb,rb,e]at h;injection h with h;exact absurd h.symm hc
 | cons x xs=>
  cases ys with
  | nil=>
   obtain⟨c,q,e,hc⟩:=z1b (hx x a9);rw[rb,rb,e]at h;injection h with h;exact absurd h hc
  | cons y ys=>
   rw[rb,rb,aU,aU]at h;obtain⟨e1,e2⟩:=ih x y _ _ (hx x a9) (hy y a9) (yA _ _ _) (yA _ _ _) h;obtain⟨e3,e4⟩:=Xo ih xs ys _ r s (λz hz=>hx z (a8 _ hz)) (λz hz=>hy z (a8 _ hz)) e2;exact⟨by rw[e1,e3],e4⟩
theorem z1d:∀d:Nat,RxI d
 | 0=>λx y r s h=>h.elim
 | d+1=>λx y r s hx hy hr hs h=>by
  have ih:=z1d d;rcases hx with ⟨i,rfl,h1,h2⟩ | ⟨w,rfl,hw⟩ | ⟨xs,rfl,h3,hxs⟩
  ·rcases hy with ⟨j,rfl,g1,g2⟩ | ⟨v,rfl,hv⟩ | ⟨ys,rfl,g3,hys⟩
   ·rw[Xm,Xm]at h;have e:=congrArg (List.takeWhile dg) h;rw[vt _ _ (z1a h1 h2) (Xn hr),vt _ _ (z1a g1 g2) (Xn hs)]at e;rw[e]at h;exact⟨by rw[z19 h1 h2 g1 g2 e],dB h⟩
   ·obtain⟨c,q,e,c1,c2⟩:=xn h1 h2;rw[Xm,e]at h;injection h with h;exact absurd h c1
   ·obtain⟨c,q,e,c1,c2⟩:=xn h1 h2;rw[Xm,e]at h;injection h with h;exact absurd h c2
  ·rcases hy with ⟨j,rfl,g1,g2⟩ | ⟨v,rfl,hv⟩ | ⟨ys,rfl,g3,hys⟩
   ·obtain⟨c,q,e,c1,c2⟩:=xn g1 g2;rw[Xm,e]at h;injection h with h;exact absurd h.symm c1
   ·injection h with _ h;have h:(w.cps.toList++[39])++r=(v.cps.toList++[39])++s:=h;rw[aU,aU]at h;have n1:39 ∉ w.cps.toList:=λz=>by have:=WJ hw 39 z;omega
    have n2:39 ∉ v.cps.toList:=λz=>by have:=WJ hv 39 z;omega
    obtain⟨e1,e2⟩:=vq n1 n2 h;exact⟨by rw[← z3S w,← z3S v,e1],e2⟩
   ·cases h
  ·rcases hy with ⟨j,rfl,g1,g2⟩ | ⟨v,rfl,hv⟩ | ⟨ys,rfl,g3,hys⟩
   ·obtain⟨c,q,e,c1,c2⟩:=xn g1 g2;rw[Xm,e]at h;injection h with h;exact absurd h.symm c2
   ·cases h
   ·injection h with _ h;obtain⟨e1,e2⟩:=z1c ih xs ys r s hxs hys h;exact⟨by rw[e1],e2⟩
theorem vv (h:zM (.str x)=true):reprText x=S (39 :: (x.cps.toList++[39])):=by
 have hs:=WJ h;have hq:reprQuote x=39:=by
  unfold reprQuote;have n1:x.cps.contains 39=false:=by
   rw[iw];intro z;have:=hs 39 (by simpa using z);omega
  rw[n1];simp
 have hc:∀c∈x.cps.toList,d9 39 c=[c]:=λc hc=>by
  obtain⟨a,b⟩:=hs c hc;have:c=97\/c=98\/c=99\/c=100\/c=101\/c=102\/c=103\/c=104\/c=105\/c=106\/c=107\/c=108\/c=109\/c=110\/c=111\/c=112\/c=113\/c=114\/c=115\/c=116\/c=117\/c=118\/c=119\/c=120\/c=121\/c=122:=by omega
  rcases this with rfl|rfl|rfl|rfl|rfl|rfl|rfl|rfl|rfl|rfl|rfl|rfl|rfl|rfl|rfl|rfl|rfl|rfl|rfl|rfl|rfl|rfl|rfl|rfl|rfl|rfl <;> decide+kernel
 have hf:∀(l:List Nat) (acc:Array Nat),(∀c∈l,d9 39 c=[c])->l.foldl (λout c=>out++(d9 39 c).toArray) acc=acc++l.toArray:=by
  intro l
  induction l with
  | nil=>simp
  | cons c l ih=>
   intro acc hl;rw[l7,hl c a9,ih _ λz hz=>hl z (a8 _ hz)];simp
 refine lm ?_;have e0:(reprText x).cps=(Array.foldl (λout c=>out++(d9 _ c).toArray) _ _).push _:=rfl;rw[e0,hq,← Array.foldl_toList,hf _ _ hc];simp[S]
theorem KS (i:Int):(bf (toString i))=S (nl i):=by rfl
noncomputable def jc:List (List Nat)->List Nat
 | []=>[]
 | [x]=>x
 | x :: y :: r=>x++44 :: 32 :: jc (y :: r)
theorem vw:∀ls:List (List Nat),Str.join ", " (ls.map S)=S (jc ls)
 | []=>rfl
 | [x]=>rfl
 | x :: y :: r=>by
  have h:=vw (y :: r);show S x++S [44,32]++Str.join _ _=_;rw[h,Yj,Yj];simp[jc]
theorem z1e:∀(x:T) (xs:List T),jc ((x :: xs).map rx)++[41]=rx x++rc xs false
 | x,[]=>by rfl
 | x,y :: ys=>by
  have h:=z1e y ys;show (rx x++44 :: 32 :: jc _)++[41]=_;rw[rc,← h];simp
theorem xo (xs:List T):tupleText (xs.map λx=>S (rx x))=S (40 :: rb xs):=by
 have em:(xs.map λx=>S (rx x))=(xs.map rx).map S:=by rw[aM];rfl
 unfold tupleText;rw[em,vw,aa];cases xs with
 | nil=>decide+kernel
 | cons x xs=>
  cases xs with
  | nil=>
   show S [40]++S _++S [44,41]=_;rw[Yj,Yj,rb,rc];simp[jc]
  | cons y ys=>
   show S [40]++S _++S [41]=_;rw[Yj,Yj];have h:=z1e x (y :: ys);have e:rb (x :: y :: ys)=rx x++rc (y :: ys) false:=by rw[rb,rc,rc]
   rw[e,← h];simp
theorem vx:∀(d:Nat) (x:T),Wt d x->(toD x).shown=S (rx x)/\okD x=true/\(toD x).depth<=d
 | 0,_,h=>h.elim
 | d+1,x,h=>by
  rcases h with ⟨i,rfl,h1,h2⟩ | ⟨w,rfl,hw⟩ | ⟨xs,rfl,h3,hxs⟩
  ·rw[toD,okD];exact⟨by exact KS i,decide_eq_true (by omega),by simp only[iH];omega⟩
  ·rw[toD,okD];exact⟨by exact vv hw,rfl,by simp only[iH];omega⟩
  ·have go:∀ys,(∀y∈ys,Wt d y)->fL (UX ys)=(ys.map λy=>S (rx y))/\vL ys=true/\fM (UX ys)<=d:=by
    intro ys
    induction ys with
    | nil=>intro _;rw[UX];exact⟨by simp only[fL,bO],rfl,by simp only[fM];omega⟩
    | cons y ys ih=>
     intro hy;obtain⟨a1,a2,a3⟩:=vx d y (hy y a9);obtain⟨b1,b2,b3⟩:=ih λz hz=>hy z (a8 _ hz);rw[UX,vL];exact⟨by simp only[fL,av,a1,b1],by rw[a2,b2];rfl,by simp only[fM];omega⟩
   obtain⟨g1,g2,g3⟩:=go xs hxs;rw[toD,z3W];exact⟨by simp only[PyData.shown];rw[g1,xo],g2,by simp only[iH];omega⟩
def sx:T->List Nat
 | .int i=>nl i
 | .str x=>x.cps.toList
 | .tup xs=>40 :: rb xs
 | _=>[]
noncomputable def lrx:Nat->Nat
 | 0=>0
 | d+1=>3*lrx d+8
theorem Xp:∀(xs:List T) (b:Bool),(∀x∈xs,(rx x).length<=B)->(rc xs b).length<=xs.length*(B+2)+2
 | [],b,_=>by rw[rc];cases b <;> simp
 | x :: xs,b,h=>by
  have h1:=h x a9;have h2:=Xp xs false λy hy=>h y (a8 _ hy);rw[rc];simp only[ai,ax,dz];omega
theorem z1f (xs:List T)(h3:xs.length<=3)(h:∀x∈xs,(rx x).length<=B):(rb xs).length<=3*B+6:=by
 cases xs with
 | nil=>rw[rb];simp only[ai,bi];omega
 | cons x xs=>
  have h1:=h x a9;have h2:=Xp xs true λy hy=>h y (a8 _ hy);rw[rb,ax];have:xs.length*(B+2)<=2*(B+2):=d8 _ (by simp at h3;omega)
  omega
theorem Xq:∀(d:Nat) (x:T),Wt d x->(rx x).length<=lrx d
 | 0,_,h=>h.elim
 | d+1,x,h=>by
  rcases h with ⟨i,rfl,h1,h2⟩ | ⟨w,rfl,hw⟩ | ⟨xs,rfl,h3,hxs⟩
  ·rw[Xm];have:=(gy h1 h2).1;unfold lrx;omega
  ·rw[rx_s];have:=yz hw;simp only[ai,ax,bi,lrx];omega
  ·have:=z1f xs h3 λy hy=>Xq d y (hxs y hy);rw[z3W];simp only[ai,lrx];omega
theorem z1g (h:Wt 3 x)(hf:f ρ= .ok x):ap1 Wj f ρ= .ok (.str (S (sx x))):=by
 obtain⟨a1,a2,a3⟩:=vx 3 x h;have hl:=Xq 3 x h;have e3:lrx 3=104:=by decide
 rcases h with ⟨i,rfl,h1,h2⟩ | ⟨w,rfl,hw⟩ | ⟨xs,rfl,h3,hxs⟩
 ·rw[zY,hf];have:=z3U h1 h2 (f:=cE _) (ρ:=[]) rfl;exact this
 ·rw[zY,hf];have:=z3V hw (f:=cE _) (ρ:=[]) rfl;exact this
 ·rw[zY,hf,bOk];have hlen:(toD (.tup xs)).shown.length<=10000:=by rw[a1,z3R];omega
  unfold Wj;dsimp only;rw[if_pos ⟨a2,by omega,hlen⟩,a1];rfl
theorem wu:zf (zl f ρ)=f (frz ρ):=by rw[zN,ZA]
theorem Jp (h:ZY 3 r):z0t [r.t]= .ok .non:=by
 show zf (z1X _ [.vl r.t])=_;rw[z1X,zi]
 ·rfl
 ·have e:f_c [r.t]= .ok (.bl true):=by
   show zf (zl _ _)=_;rw[zg]
   ·rfl
   ·exact Je 8 3 (by omega) r h
  rw[Jk,ZV,zH,v0,bOk,e];rfl
theorem z1h (hf:f ρ= .ok x)(hg:g ρ= .ok y):z9 f (z9 g zd) ρ= .ok [x,y]:=by
 show ((f ρ).bind λt=>((z9 g _) ρ).bind λts=> .ok _)=_;rw[hf];show ((g ρ).bind λt=>(R.ok []).bind λts=>R.ok _).bind _=_;rw[hg];rfl
theorem xp {k:Kd}(hk:k.Ok 3){x:T}(hx:k.has x=true):f_8 20 [k.t,x]= .ok (frT (k.sh x))/\Bd (k.sh x) 91:=WG 3 20 (by omega) (by omega) k x hk hx
theorem z3X {k:Kd}(hk:k.Ok 3){ws:List T}(hw:∀x∈ws,k.has x=true)(hl:ws.length<=60):z3y [k.t,.lst ws]= .ok (frT (Zj (ws.map k.sh))):=by
 show zf _=_;have ec:zo _ _ (za 2 (f_8 20) (z9 (vE 1) (z9 (vE 0) _))) 1 [0] (en2 k.t (.lst ws)) ws= .ok (ws.map λx=>frT _):=
  zL _ (ao hl (by decide)) λt ht=>by
   show za 2 _ _ (en2 t k.t)=_;rw[zu,v1,bOk,v0,bOk,(xp hk (hw t ht)).1]
 unfold z3x;rw[zg]
 ·rfl
 ·show za 1 _ _ (en2 k.t _)=_;rw[zH,zB,Zg,v1];show ((zo _ _ _ _ _ _ ws).bind _).bind _=_;rw[ec,bOk];have:=Up (λq hq=>by obtain⟨x,hx,rfl⟩:=az.mp hq;exact(xp hk (hw x hx)).2) (by rw[aa];omega)
  rw[aM]at this;exact this
theorem vy {q:Rat}:0<=q↔0<=q.num:=Rat.num_nonneg.symm
theorem KT {u:Int}{d:Nat}(h:0<=u)(hd:1<=d):0<=mkRat u d:=by
 rw[vy,(KM u d hd).1];exact Int.ediv_nonneg h (by omega)
theorem Us:∀qs:List Rat,(∀q∈qs,0<=q)->0<=ZW qs
 | [],_=>by decide
 | q :: qs,h=>by
  exact Rat.mul_nonneg (h q a9) (Us qs λa ha=>h a (a8 _ ha))
theorem vz:∀qs:List Rat,(∀q∈qs,0<=q)->0<=Zj qs
 | [],_=>by decide
 | q :: qs,h=>by
  exact Rat.add_nonneg (h q a9) (vz qs λa ha=>h a (a8 _ ha))
theorem xr:∀(d:Nat) (k:Kd) (x:T),k.Ok d->k.has x=true->0<=k.sh x
 | 0,_,_,h,_=>h.elim
 | d+1,.whole lo hi,x,h,hx=>by have:=h.2.1;exact KT (by decide) (by omega)
 | d+1,.pick cs,x,h,hx=>by
  obtain⟨w1',_,w3⟩:=yy h;cases x with
  | str x=>
   have hx' :=by exact hx
   obtain⟨i,e,hm⟩:=Jg cs x hx';refine KT ?_ (by omega)
   rw[e];exact iz (by decide) (w3 _ hm).1
  | _=>cases hx
 | d+1,.row ks,x,h,hx=>by
  cases x with
  | tup xs=>
   have hx' :(xs.length == ks.length && Kd.hass ks xs)=true:=by exact hx
   rw[ac,JD,aJ]at hx';show 0<=Kd.shs ks xs;rw[WF];exact Us _ λq hq=>by
    obtain⟨p,hp,rfl⟩:=az.mp hq;exact xr d p.1 p.2 (h.2.2 p.1 (c8 hp).1) (hx'.2 p hp)
  | _=>cases hx
 | d+1,.many k lo hi,x,h,hx=>by
  cases x with
  | tup xs=>
   have hx' :(decide (lo<=xs.length) && decide (xs.length<=hi) && xs.all k.has)=true:=by exact hx
   rw[ac,aJ]at hx';have:=h.1;exact Rat.mul_nonneg (KT (by decide) (by omega)) (Us _ λq hq=>by
    obtain⟨p,hp,rfl⟩:=az.mp hq;exact xr d k p h.2.2 (hx'.2 p hp))
  | _=>cases hx
abbrev lpB:En->RS:=yV 4 5 (z9 (vE 5) (z9 (zb j2 (vE 4) (vE 5)) (zd)))
theorem vA:∀(n y x:Nat),y < n->Zy (zm neC (vB 5) (cE (.int 0))) lpB n [a,b,c,d,.vl (.int (x:Int)),.vl (.int (y:Int))]= .nx [a,b,c,d,.vl (.int ((dX x y:Nat):Int)),.vl (.int 0)]
 | 0,y,x,h=>by omega
 | n+1,0,x,h=>by
  rw[ig];rfl
 | n+1,y+1,x,h=>by
  have e:lpB [a,b,c,d,.vl (.int (x)),.vl (.int ((y+1:Nat)))]= .nx [a,b,c,d,.vl (.int ((y+1:Nat))),.vl (.int ((x % (y+1):Nat)))]:=by
   show yV 4 5 _ _=_;unfold yV;rw[z1h rfl (by rw[ze,v4',bOk,v5',bOk,modn (by omega)])];rfl
  have hlt:x % (y+1) < n:=by have:=ie x (show y+1 > 0 by omega);omega
  rw[yu (show zm neC (vB 5) (cE (.int 0)) [a,b,c,d,.vl _,.vl (.int ((y+1:Nat)))]= .ok _ from z14) e,vA n _ _ hlt,dY _,← Nat.gcd_rec,dY]
theorem yB (h:Bd p m)(k:Bd q n)(hm:m+n < 8000)(hp:0<=p)(hq:0<=q):X2 [frT p,frT q]= .ok (frT (p+q)):=by
 have hp' :=vy.mp hp;have hq' :=vy.mp hq;obtain⟨u,hu⟩:=c6 (show 0<=p.num*(q.den)+q.num*(p.den) from Int.add_nonneg (Int.mul_nonneg hp' (by omega)) (Int.mul_nonneg hq' (by omega)))
 have hd:=cG (vP p) (vP q);have h9:=lt9 (by rw[dA];exact ba h.den k.den) (by omega)
 have g1:1<=dX u _:=eW _ hd;have g9:dX u (p.den*q.den) < 2 ^ 9000:=bw (iW _ hd) h9;obtain⟨m1,m2⟩:=KM (u) _ hd;have hs:p+q=mkRat (u) (p.den*q.den):=by rw[← hu];exact iD p q
 show zf (z1I [.vl _,.vl _,.un,.un,.un,.un])=_;have e0:∀{a b c d:Sl},vE 0 [.vl (frT p),.vl (frT q),a,b,c,d]= .ok (.tup _):=rfl;have e1:∀{a b c d:Sl},vE 1 [.vl (frT p),.vl (frT q),a,b,c,d]= .ok _:=rfl;have r1:yV 2 3 (z9 (zb zn (zb mlT (zb ixT (vE 0) (cE (.int 0))) (zb ixT (vE 1) (cE (.int 1)))) (zb mlT (zb ixT (vE 1) (cE (.int 0))) (zb ixT (vE 0) (cE (.int 1))))) (z9 (zb mlT (zb ixT (vE 0) (cE (.int 1))) (zb ixT (vE 1) (cE (.int 1)))) (zd))) [.vl (frT p),.vl (frT q),.un,.un,.un,.un]= .nx [.vl (frT p),.vl (frT q),.vl (.int (u)),.vl (.int ((p.den*q.den:Nat))),.un,.un]:=by
  unfold yV;rw[z1h (by
   rw[z16 (uJ (ix0 e0) (ix1 e1) h.num (nd _ k.den) (by omega) (by omega)) (uJ (ix0 e1) (ix1 e0) k.num (nd _ h.den) (by omega) (by omega)),hu]) (by
   rw[uJ (ix1 e0) (ix1 e1) (nd _ h.den) (nd _ k.den) (by omega) (by omega),← cW])];rfl
 unfold z1I;rw[zc r1,zc (show yV 4 5 _ _= .nx [.vl _,.vl _,.vl _,.vl _,.vl _,.vl _] from rfl),zc (vA _ _ _ h9),zg]
 ·rfl
 ·rw[hs];unfold frT;rw[m1,m2];exact WL (yv g1 g9) (yv g1 g9)
theorem Ut {k:Kd}(hk:k.Ok 3)(x:T):f_5 [k.t,x]=if k.has x=true then .ok (frT (k.sh x)) else .ex 1:=by
 show zf (b_5 z1Q _ [.vl k.t,.vl x])=_;unfold b_5;have e:=Wy hk x;cases hx:k.has x with
 | true=>
  rw[hx,if_pos rfl]at e;rw[zc (wn (by rw[zu,v0,bOk,v1,bOk,e])),zg]
  ·rfl
  ·exact(WG 3 20 (by omega) (by omega) k x hk hx).1
 | false=>
  rw[hx,if_neg ay]at e;rw[yh (Um (by rw[zu,v0,bOk,v1,bOk,e]))]
  rfl
theorem W2 {k:Kd}(hk:k.Ok 3)(h5:k.all.length<=500){r:Ru}(hr:ZY 3 r):f_7 [k.t,r.t]= .ok (.lst (k.all.filter λx=>kp r x)):=by
 have hb:bnd=16777216:=rfl;show zf (b_7 _ _ _ (en2 k.t r.t))=_;unfold b_7;rw[zc (wn (by rw[zH,v1,bOk,Jp hr])),wu]
 show zz _ _ _ _ _ _ (en2 k.t r.t)=_;rw[zB,Zg,zH,v0,bOk,Wz hk h5];show ((zo _ _ _ _ _ _ _).bind _)=_;rw[ZD _ (by omega) λt ht=>⟨?_,rfl⟩,bOk]
 show Z9 _ (en2 t r.t)=_;rw[ZV,zu,v1,bOk,v0,bOk,Yi (KK hk ht) hr];rfl
theorem Ju {k:Kd}(hk:k.Ok 3)(h5:k.all.length<=60){r:Ru}(hr:ZY 3 r):f_p [k.t,r.t]= .ok (frT (Zj ((k.all.filter λx=>kp r x).map k.sh))):=by
 show zf _=_;unfold b_p;rw[wu];show za 2 _ _ (en2 k.t r.t)=_;rw[zu,v0,bOk,zu,v0,bOk,v1,bOk,W2 hk (by omega) hr]
 exact z3X hk (λx hx=>(jm k x).mp (cU.mp hx).1) (ao (d4 _ _) h5)
abbrev trK:En->R T:=ifE (zm eqC (vB 0) (cE (.int 0))) (za 2 f_7 (z9 (vE 1) (z9 (vE 2) (zd)))) (za 2 f_p (z9 (vE 1) (z9 (vE 2) (zd))))
theorem Xr (h:trK (en6 w t x .non)= .ok v):f_q [w,t,x]= .ok v:=by
 show zf (b_q _ _ _ [.vl w,.vl t,.vl x,.un,.un,.un])=_;have e1:zp 3 (cE .non) [.vl w,.vl t,.vl x,.un,.un,.un]= .nx [.vl w,.vl t,.vl x,.vl _,.un,.un]:=rfl;have e2:zp 4 (cE .non) [.vl w,.vl t,.vl x,.vl _,.un,.un]= .nx (en6 w t x _):=rfl;have e3:kC 3 okX (zp 4 trK) (en6 w t x .non)= .nx (en6 w t x v):=by unfold kC;rw[set4 h]
 rw[b_q,zc e1,zc e2,zc e3,zw]
 ·rfl
 ·rfl
theorem uL (hc:okX c=true)(h:trK (en6 w t x .non)= .ex c):f_q [w,t,x]=f_l c:=by
 show zf (b_q _ _ _ [.vl w,.vl t,.vl x,.un,.un,.un])=_;have e1:zp 3 (cE .non) [.vl w,.vl t,.vl x,.un,.un,.un]= .nx [.vl w,.vl t,.vl x,.vl _,.un,.un]:=rfl;have e2:zp 4 (cE .non) [.vl w,.vl t,.vl x,.vl _,.un,.un]= .nx (en6 w t x _):=rfl;have e3:kC 3 okX (zp 4 trK) (en6 w t x .non)= .nx [.un,.un,.un,.xc c,.un,.un]:=by unfold kC;rw[z0X h];dsimp only;rw[if_pos hc];rfl
 rw[b_q,zc e1,zc e2,zc e3];show zf ((f_l c).s λt=> .rt t)=_;rw[ZA]
theorem tk0 (h:f_7 [t,x]=r):trK (en6 (.int 0) t x .non)=r:=by
 show ifE _ _ _ _=_;rw[z3K (Xf _ rfl),zu,v1,bOk,show vE 2 _= .ok x from rfl,bOk,h]
theorem tk1 (h:f_p [t,x]=r):trK (en6 (.int 1) t x .non)=r:=by
 show ifE _ _ _ _=_;rw[z3L (Xf _ rfl),zu,v1,bOk,show vE 2 _= .ok x from rfl,bOk,h]
theorem vC (h:z0t [x]= .ex c):f_7 [t,x]= .ex c:=by
 show zf (b_7 _ _ _ (en2 t x))=_;unfold b_7;rw[yh (Um (by rw[zH,v1,bOk,h]))];rfl
theorem Uu (hr:ZY 3 r)(h:gr [t]= .ex c):f_7 [t,r.t]= .ex c:=by
 show zf (b_7 _ _ _ (en2 t r.t))=_;unfold b_7;rw[zc (wn (by rw[zH,v1,bOk,Jp hr])),wu]
 show zz _ _ _ _ _ _ (en2 t r.t)=_;rw[zB,Zg,zH,v0,bOk,h];rfl
theorem sk_x (h:f_7 [t,x]= .ex c):f_p [t,x]= .ex c:=by
 show zf _=_;unfold b_p;rw[wu];show za 2 _ _ (en2 t x)=_;rw[zu,v0,bOk,zu,v0,bOk,v1,bOk,h];rfl
theorem Xs:z0t [.tup [.str "sum",.int 1]]= .ex 2:=rfl
theorem z1i:f_l 2= .ok (.str "no rule"):=by rfl
theorem vD {a b:List Rat}(h:a.Perm b):Zj a=Zj b:=by
 induction h with
 | nil=>rfl
 | cons x _ ih=>rw[Zj,Zj,ih]
 | swap x y l=>rw[Zj,Zj,Zj,Zj,← a_,← a_,de y x]
 | trans _ _ i j=>exact i.trans j
theorem vF {α:Type}(p:α->Bool):∀l:List α,(l.filter p++l.filter λx=> !p x).Perm l
 | []=> .refl _
 | x :: l=>by
  rw[bW,bW];cases p x with
  | true=>exact(vF p l).cons x
  | false=>exact List.perm_middle.trans ((vF p l).cons x)
theorem yC (g:T->Rat)(p q:T->Bool):∀l:List T,Zj ((l.filter p).map g)+Zj ((l.filter q).map g)=Zj ((l.filter λx=>p x && q x).map g)+Zj ((l.filter λx=>p x || q x).map g)
 | []=>rfl
 | x :: l=>by
  have ih:=yC g p q l;rw[bW,bW,bW,bW];cases p x <;> cases q x <;> simp only[hZ,Bool.and_false,Bool.or_true,Bool.or_false,aw,if_true,if_false,av,Zj]
  ·exact ih
  ·rw[← a_,de _ (g x),a_,ih,← a_,← a_,de (g x)]
  ·rw[a_,ih,← a_,← a_,de (g x)]
  ·rw[a_,← a_ _ (g x),de _ (g x),a_ _,ih,a_ _];congr 1
   rw[← a_,← a_,de (g x)]
theorem KU:ltS a b=false↔b.cps.toList<=a.cps.toList:=by
 unfold ltS;rw[decide_eq_false_iff_not,k_]
theorem Uv (x:Str):∀l:List Str,(Yp x l).Perm (x :: l)
 | []=> .refl _
 | y :: r=>by
  unfold Yp;split
  ·exact((Uv x r).cons y).trans (.swap x y r)
  ·exact .refl _
theorem Uw:∀l:List Str,(uO l).Perm l
 | []=> .refl _
 | x :: r=>(Uv x _).trans ((Uw r).cons x)
noncomputable abbrev leS (a b:Str):Prop:=a.cps.toList<=b.cps.toList
theorem vG (x:Str):∀l:List Str,l.Pairwise leS->(Yp x l).Pairwise leS
 | [],_=>by simp[Yp]
 | y :: r,h=>by
  unfold Yp;rw[aP]at h;split
  ·rename_i e;refine aP.mpr ⟨λz hz=> ?_,vG x r h.2⟩;rcases ak.mp ((Uv x r).mem_iff.mp hz) with rfl | hz
   ·exact List.le_of_lt (of_decide_eq_true e)
   ·exact h.1 z hz
  ·rename_i e;have e:=KU.mp (by simpa using e)
   refine aP.mpr ⟨λz hz=> ?_,aP.mpr h⟩;rcases ak.mp hz with rfl | hz
   ·exact e
   ·exact List.le_trans e (h.1 z hz)
theorem Ux:∀l:List Str,(uO l).Pairwise leS
 | []=> .nil
 | x :: r=>vG x _ (Ux r)
theorem xt (h:l.Perm m):uO l=uO m:=
 List.Perm.eq_of_pairwise (λa b _ _ h1 h2=>lm (by
  have:=iR h1 h2;simp at this;simp[this])) (Ux l) (Ux m) ((Uw l).trans (h.trans (Uw m).symm))
theorem yD:∀ys:List Str,wN (ys.map T.str)=some ys
 | []=>rfl
 | y :: ys=>by
  show (match wN _ with | some l=>some _ | none=>none)=_
  rw[yD ys]
theorem KW (ys:List Str)(h:ys.length < 64):JY (.lst (ys.map T.str))= .ok (.lst ((uO ys).map T.str)):=by
 show (match wN _ with | some l=>if (ys.map _).length < 64 then R.ok _ else .bad | none=> .bad)=_
 rw[yD,aa];exact if_pos h
abbrev le (ns:List Int)(t a b:T)(c d e f g h i j k l:Sl):En:=[.vl (scr ns),.vl t,.vl a,.vl b,c,d,e,f,g,h,i,j,k,l]
theorem z1j {k:Kd}(hk:k.Ok 3)(p:T->Bool):Pl 29 (.lst (k.all.filter p)):=λx hx=>(KK hk (cU.mp hx).1).pl.le (by decide)
theorem z1k (n:Nat)(q:Rat):Pl (n+2) (frT q):=λx hx=>by
 simp only[ak,bh,or_false]at hx;rcases hx with rfl | rfl <;> trivial
abbrev no (r:Ru):T:= .tup [.str "no",r.t]
section
variable {ns:List Int}{k:Kd}{a b:T}{r:Ru}{c d e f g h i j l m:Sl}
theorem z3Y {p:T->Bool}:∀x∈k.all.filter p,k.has x=true:=λx hx=>(jm k x).mp (cU.mp hx).1
theorem z3Z (p:T->Bool):(k.all.filter p).length<=k.all.length:=d4 _ _
abbrev bA:En->RS:=zp 5 (zz (Zb (za 1 (f_4 8) (z9 (vE 1) (zd)))) (zq 0) (Z9 (za 2 (f_e 8) (z9 (vE 1) (z9 (vE 0) (zd))))) (vE 0) 1 [4])
theorem all8 (hk:k.Ok 3)(hl:k.all.length<=24):f_4 8 [k.t]= .ok (.lst k.all):=Qy 3 8 (by omega) (by omega) k hk (by omega)
theorem z40 (hk:k.Ok 3)(hl:k.all.length<=24)(hr:ZY 2 r):bA (le ns k.t a b (.vl r.t) d e f g h i j l m)= .nx (le ns k.t a b (.vl r.t) (.vl (.lst (fl k r))) e f g h i j l m):=by
 have hb:bnd=16777216:=rfl;show zp 5 _ _=_;rw[zE]
 ·rfl
 ·rw[zB,Zg,zH,v1,bOk,all8 hk hl];show ((zo _ _ _ _ _ _ _).bind _)=_;rw[ZD _ (by omega) λt ht=>⟨?_,rfl⟩,bOk]
  show Z9 _ (en2 t r.t)=_;have ek:f_e 8 _= .ok _:=jy (by omega) (KK hk ht) 8 2 (by omega) r hr
  rw[ZV,zu,v1,bOk,v0,bOk,ek];rfl
abbrev bB:En->RS:=zp 6 (za 2 X2 (z9 (vE 6) (z9 (za 2 f_5 (z9 (vE 1) (z9 (vE 7) (zd)))) (zd))))
theorem xu (hk:k.Ok 3){x:T}(hx:k.has x=true):f_5 [k.t,x]= .ok (frT (k.sh x)):=by rw[Ut hk,if_pos hx]
theorem vH (hk:k.Ok 3):∀(xs:List T) (p:Rat) (n:Nat) (f:Sl),(∀x∈xs,k.has x=true)->Bd p n->0<=p->n+xs.length*92 < 7900->
  ∃f',Zn (zq 7) bB xs (le ns k.t a b c d (.vl (frT p)) f g h i j l m)= .nx (le ns k.t a b c d (.vl (frT (p+Zj (xs.map k.sh)))) f' g h i j l m)
 | [],p,n,f,_,_,_,_=>⟨f,by rw[bO,Zj,iE];rfl⟩
 | x :: xs,p,n,f,hx,hp,h0,hn=>by
  have hx0:=hx x a9;have hb:=(xp hk hx0).2;have hs:=xr 3 k x hk hx0;rw[ai]at hn;obtain⟨f',hz⟩:=vH hk xs _ _ _ (λy hy=>hx y (a8 _ hy)) (hp.add hb) (Rat.add_nonneg h0 hs) (by omega)
  refine⟨f', ?_⟩;have e1:bB (le ns k.t a b c d (.vl (frT p)) (.vl x) g h i j l m)= .nx (le ns k.t a b c d (.vl (frT (p+k.sh x))) (.vl x) g h i j l m):=by
   show zp 6 _ _=_;rw[zE]
   ·rfl
   ·rw[zu,show vE 6 _= .ok _ from rfl,bOk,zu,v1,bOk,show vE 7 _= .ok x from rfl,bOk,xu hk hx0,bOk,yB hp hb (by omega) h0 hs]
  rw[j6 rfl e1,hz,av,Zj,a_]
abbrev sQ (k:Kd)(r:Ru):Rat:=Zj ((fl k r).map k.sh)
theorem Xt:∀x∈fl k r,k.has x=true:=z3Y
theorem z29 (hl:k.all.length<=24):(fl k r).length<=24:=ao (z3Z _) hl
theorem Yk (hk:k.Ok 3)(hl:k.all.length<=24)(hr:ZY 3 r):f_p [k.t,r.t]= .ok (frT (sQ k r)):=Ju hk (by omega) hr
theorem xv (hk:k.Ok 3)(hl:k.all.length<=24)(hr:ZY 3 r):f_7 [k.t,r.t]= .ok (.lst (fl k r)):=W2 hk (by omega) hr
theorem z1l (hk:k.Ok 3)(hl:k.all.length<=24)(r:Ru):Bd (sQ k r) 3000/\0<=sQ k r:=by
 have hx:∀x∈fl k r,k.has x=true:=Xt;have hn:=z29 (r:=r) hl;unfold sQ;generalize fl k r=xs at*;refine⟨?_,vz _ λq hq=>by obtain⟨x,h,rfl⟩:=az.mp hq;exact xr 3 k x hk (hx x h)⟩
 have key:∀(ys:List T),(∀x∈ys,k.has x=true)->Bd (Zj (ys.map k.sh)) (ys.length*92+1):=by
  intro ys
  induction ys with
  | nil=>intro _;exact bd0.le (by omega)
  | cons y ys ih=>
   intro hy;have h1:=(xp hk (hy y a9)).2;have h2:=ih λz hz=>hy z (a8 _ hz);rw[ai];exact(h1.add h2).le (by omega)
 exact(key xs hx).le (by omega)
abbrev bC:En->RS:=ifS (zm neC (zz (zX (cE (.int 2))) (zq 0) (Z3) (za 3 f_q (z9 (vE 0) (z9 (vE 1) (z9 (vE 2) (zd))))) 1 [1,4]) (Ze (z9 (vE 5) (z9 (vE 6) (zd))))) (zl (cE (.bl false))) (nxS)
theorem z41 (hk:k.Ok 3)(hl:k.all.length<=24)(hr:ZY 2 r):bC (le ns k.t a b (.vl r.t) (.vl (.lst (fl k r))) (.vl (frT (sQ k r))) f g h i j l m)= .nx (le ns k.t a b (.vl r.t) (.vl (.lst (fl k r))) (.vl (frT (sQ k r))) f g h i j l m):=by
 refine zi ?_;have t0:=Xr (tk0 (xv hk hl hr.up));have t1:=Xr (tk1 (Yk hk hl hr.up));have ec:zz (zX (cE (.int 2))) (zq 0) (Z3) (za 3 f_q (z9 (vE 0) (z9 (vE 1) (z9 (vE 2) (zd))))) 1 [1,4] (le ns k.t a b (.vl r.t) (.vl (.lst (fl k r))) (.vl (frT (sQ k r))) f g h i j l m)= .ok (.lst [.lst (fl k r),frT (sQ k r)]):=by
  show ((zo _ _ _ _ _ _ [.int 0,.int 1]).bind _)=_;have ex:∀(w v:T),f_q _= .ok v->za 3 f_q (z9 (vE 0) (z9 (vE 1) (z9 (vE 2) _))) [.vl w,.vl k.t,.vl r.t]= .ok v:=λw v hv=>by rw[zV,v0,bOk,v1,bOk,v2,bOk,hv]
  rw[zL (h:=λt=>match t with | .int 0=> .lst _ | _=>frT _) _ (by decide) λt ht=> ?_]
  ·rfl
  ·simp only[ak,bh,or_false]at ht;rcases ht with rfl | rfl
   ·exact ex _ _ t0
   ·exact ex _ _ t1
 rw[zA,ec,show Ze _ _= .ok _ from rfl];refine Wx λx hx=> ?_;simp only[ak,bh,or_false]at hx;rcases hx with rfl | rfl
 ·exact z1j hk _
 ·exact z1k 27 _
end
section
variable {ns:List Int}{k:Kd}{a b:T}{r:Ru}{c d e f g h i j l m:Sl}
theorem wt3 (hk:k.Ok 3){x:T}(hx:k.has x=true):Wt 3 x:=KR 3 k x hk hx
abbrev tx (xs:List T):List Str:=xs.map λx=>S (sx x)
theorem Xu (hk:k.Ok 3){fi:En->R (List T)}{ρ:En}{xs:List T}(h:fi ρ= .ok xs)(hx:∀x∈xs,k.has x=true)(hl:xs.length < 64):ap1 JY (zz fi (zq 0) (Z3) (ap1 Wj (vE 0)) 1 []) ρ= .ok (.lst ((uO (tx xs)).map T.str)):=by
 have hb:bnd=16777216:=rfl;rw[zY,zB,h,bOk,zL xs (by omega) λx hm=> ?_,bOk,bOk,show (xs.map λx=>T.str _)=(tx xs).map _ by rw[aM];rfl,KW _ (by rw[aa];exact hl)]
 exact z1g (wt3 hk (hx x hm)) rfl
abbrev nE (i:Nat):En->R T:=zG (z9 (cE (.str "no")) (z9 (vE i) (zd)))
abbrev bD:En->RS:=zp 8 (ap1 JY (zz (Zb (zb zn (vE 5) (za 2 f_7 (z9 (vE 1) (z9 (nE 4) (zd)))))) (zq 0) (Z3) (ap1 Wj (vE 0)) 1 []))
theorem z1m (k:Kd)(r:Ru):(fl k r++fl k (.no r)).Perm k.all:=by
 exact vF _ _
theorem z42 (hk:k.Ok 3)(hl:k.all.length<=24)(hr:ZY 2 r):bD (le ns k.t a b (.vl r.t) (.vl (.lst (fl k r))) e f g h i j l m)= .nx (le ns k.t a b (.vl r.t) (.vl (.lst (fl k r))) e f (.vl (.lst ((uO (tx k.all)).map T.str))) h i j l m):=by
 have hp:=z1m k r;have hlen:=hp.length_eq;have e0:Zb (zb zn (vE 5) (za 2 f_7 (z9 (vE 1) (z9 (nE 4) (zd))))) (le ns k.t a b (.vl r.t) (.vl (.lst (fl k r))) e f g h i j l m)= .ok (fl k r++fl k (.no r)):=by
  rw[Zg,ze,v5',bOk,zu,v1,bOk,show nE 4 _= .ok (Ru.no r).t from rfl,bOk,xv hk hl (.no hr),bOk];rw[Xi (by have:=z29 (r:=r) hl;have:=z29 (r:= .no r) hl;omega)];rfl
 show zp 8 _ _=_;rw[zE (Xu hk e0 (λx hx=>(jm k x).mp (hp.mem_iff.mp hx)) (by omega)),xt (hp.map λx=>S _)];rfl
abbrev bE:En->RS:=ifS (zm neC (vB 8) (ap1 JY (zz (Zb (za 1 (f_4 8) (z9 (vE 1) (zd)))) (zq 0) (Z3) (ap1 Wj (vE 0)) 1 []))) (zl (cE (.bl false))) (nxS)
theorem z43 (hk:k.Ok 3)(hl:k.all.length<=24):bE (le ns k.t a b c d e f (.vl (.lst ((uO (tx k.all)).map T.str))) h i j l m)= .nx (le ns k.t a b c d e f (.vl (.lst ((uO (tx k.all)).map T.str))) h i j l m):=by
 refine zi ?_;have e0:Zb (za 1 (f_4 8) (z9 (vE 1) (zd))) (le ns k.t a b c d e f (.vl (.lst ((uO (tx k.all)).map T.str))) h i j l m)= .ok k.all:=by rw[Zg,zH,v1,bOk,all8 hk hl];rfl
 rw[zA,Xu hk e0 (λx hx=>(jm k x).mp hx) (by omega)]
 exact Wx λx hx=>by obtain⟨y,_,rfl⟩:=az.mp hx;trivial
theorem z1n (hk:k.Ok 3)(r:Ru):sQ k r+sQ k (.no r)=1:=by
 rw[← WH,← c9,vD ((z1m k r).map _)];exact due 3 k hk
theorem KY (hk:k.Ok 3)(hl:k.all.length<=24)(r s:Ru):X2 [frT (sQ k r),frT (sQ k s)]= .ok (frT (sQ k r+sQ k s)):=by
 obtain⟨h1,h2⟩:=z1l hk hl r;obtain⟨h3,h4⟩:=z1l hk hl s;exact yB h1 h3 (by omega) h2 h4
abbrev bF:En->RS:=ifS (zm neC (za 2 X2 (z9 (vE 6) (z9 (za 2 f_p (z9 (vE 1) (z9 (nE 4) (zd)))) (zd)))) (zG (z9 (cE (.int 1)) (z9 (cE (.int 1)) (zd))))) (zl (cE (.bl false))) (nxS)
theorem z44 (hk:k.Ok 3)(hl:k.all.length<=24)(hr:ZY 2 r):bF (le ns k.t a b (.vl r.t) d (.vl (frT (sQ k r))) f g h i j l m)= .nx (le ns k.t a b (.vl r.t) d (.vl (frT (sQ k r))) f g h i j l m):=by
 refine zi ?_;rw[zA,zu,show vE 6 _= .ok _ from rfl,bOk,zu,v1,bOk,show nE 4 _= .ok (Ru.no r).t from rfl,bOk,Yk hk hl (.no hr),bOk,KY hk hl,z1n hk];rfl
abbrev bT:En->RS:=zp 6 (zG (z9 (cE (.int 0)) (z9 (cE (.int 1)) (zd))))
abbrev bX:En->RS:=zh bA (zh bT (zh (ZK (Zb (vE 5)) (zq 7) bB) (zh bC (zh bD (zh bE bF)))))
theorem z1o (hk:k.Ok 3)(hl:k.all.length<=24)(hr:ZY 2 r):∃d' e' f' g',bX (le ns k.t a b (.vl r.t) d e f g h i j l m)= .nx (le ns k.t a b (.vl r.t) d' e' f' g' h i j l m):=by
 have hn:=z29 (r:=r) hl;obtain⟨f',hf⟩:=vH hk (fl k r) 0 0 f Xt bd0 (by decide) (by omega)
 rw[iF]at hf;refine⟨.vl (.lst (fl k r)),.vl (frT (sQ k r)),f',.vl (.lst ((uO (tx k.all)).map T.str)), ?_⟩;have eT:bT (le ns k.t a b (.vl r.t) (.vl (.lst (fl k r))) e f g h i j l m)= .nx (le ns k.t a b _ _ (.vl (frT 0)) f g h i j l m):=rfl;have eL:ZK (Zb (vE 5)) _ bB (le ns k.t a b _ (.vl (.lst _)) _ f g h i j l m)= .nx _:=hf;show zh _ _ _=_;rw[zc (z40 hk hl hr),zc eT,zc eL,zc (z41 hk hl hr),zc (z42 hk hl hr),zc (z43 hk hl)];exact z44 hk hl hr
end
noncomputable def wv:Kd:= .row [.whole 0 19,.whole 1 6,.whole 0 4]
theorem xw:wv.Ok 3:=⟨by decide,by decide,λk hk=>by
 simp only[ak,bh,or_false]at hk;rcases hk with rfl | rfl | rfl <;> exact⟨by decide,by decide,by decide⟩⟩
section
variable {ns:List Int}{k:Kd}{r s:Ru}{bad:T}{d2 f2 g2 h2 q1 q2 x11 x12 x13:Sl}
theorem m3 (hk:k.Ok 3)(hl:k.all.length<=24)(hr:ZY 2 r)(hs' :ZY 2 s):zp 9 (za 2 X2 (z9 (za 2 f_p (z9 (vE 1) (z9 (vE 2) (zd)))) (z9 (za 2 f_p (z9 (vE 1) (z9 (vE 3) (zd)))) (zd)))) (le ns k.t r.t s.t (.vl s.t) d2 f2 g2 h2 .un .un .un .un .un)= .nx (le ns k.t r.t s.t (.vl s.t) d2 f2 g2 h2 (.vl (frT (sQ k r+sQ k s))) .un .un .un .un):=by
 have k1:=Yk hk hl hr.up;have k2:=Yk hk hl hs'.up;rw[zE]
 ·rfl
 ·rw[zu,zu,v1,bOk,v2,bOk,k1,bOk,zu,v1,bOk,v3,bOk,k2,bOk,KY hk hl]
theorem m4 (hk:k.Ok 3)(hl:k.all.length<=24)(hr:ZY 2 r)(hs' :ZY 2 s):zp 10 (za 2 X2 (z9 (za 2 f_p (z9 (vE 1) (z9 (zG (z9 (cE (.str "all")) (z9 (vE 2) (z9 (vE 3) (zd))))) (zd)))) (z9 (za 2 f_p (z9 (vE 1) (z9 (zG (z9 (cE (.str "some")) (z9 (vE 2) (z9 (vE 3) (zd))))) (zd)))) (zd)))) (le ns k.t r.t s.t (.vl s.t) d2 f2 g2 h2 (.vl (frT (sQ k r+sQ k s))) .un .un .un .un)= .nx (le ns k.t r.t s.t (.vl s.t) d2 f2 g2 h2 (.vl (frT (sQ k r+sQ k s))) (.vl (frT (sQ k r+sQ k s))) .un .un .un):=by
 have k3:f_p [k.t,.tup _]= .ok _:=Yk (r:= .all r s) hk hl (.all hr hs');have k4:f_p [k.t,.tup _]= .ok _:=Yk (r:= .some r s) hk hl (.some hr hs');rw[zE]
 ·rfl
 ·rw[zu,zu,v1,bOk,VP rfl v2 v3,bOk,k3,bOk,zu,v1,bOk,VP rfl v2 v3,bOk,k4,bOk,KY hk hl];have:=yC k.sh (kp r) (kp s) k.all;exact congrArg (λq=>R.ok _) this.symm
theorem m6 (hk:k.Ok 3)(hl:k.all.length<=24)(hr:ZY 2 r)(hs' :ZY 2 s):zm neC (za 2 f_7 (z9 (vE 1) (z9 (zG (z9 (cE (.str "all")) (z9 (vE 2) (z9 (vE 3) (zd))))) (zd)))) (za 2 f_7 (z9 (vE 1) (z9 (zG (z9 (cE (.str "all")) (z9 (vE 3) (z9 (vE 2) (zd))))) (zd)))) (le ns k.t r.t s.t (.vl s.t) d2 f2 g2 h2 q1 q2 .un .un .un)= .ok false:=by
 have k5:f_7 [k.t,.tup _]= .ok _:=xv (r:= .all r s) hk hl (.all hr hs');have k6:f_7 [k.t,.tup _]= .ok _:=xv (r:= .all s r) hk hl (.all hs' hr);rw[zA,zu,v1,bOk,VP rfl v2 v3,bOk,k5,bOk,zu,v1,bOk,VP rfl v3 v2,bOk,k6];have:fl k (.all r s)=fl k (.all s r):=by
  show k.all.filter _=k.all.filter _;congr 1;funext x;rw[kp,kp,Bool.and_comm]
 rw[this];exact Wx ((z1j hk _).le (by decide))
theorem m7:zp 11 (zG (z9 (cE (.str "row")) (z9 (zG (z9 (zG (z9 (cE (.str "whole")) (z9 (cE (.int 0)) (z9 (cE (.int 19)) (zd))))) (z9 (zG (z9 (cE (.str "whole")) (z9 (cE (.int 1)) (z9 (cE (.int 6)) (zd))))) (z9 (zG (z9 (cE (.str "whole")) (z9 (cE (.int 0)) (z9 (cE (.int 4)) (zd))))) (zd))))) (zd)))) (le ns k.t r.t s.t (.vl s.t) d2 f2 g2 h2 q1 q2 .un .un .un)= .nx (le ns k.t r.t s.t (.vl s.t) d2 f2 g2 h2 q1 q2 (.vl wv.t) .un .un):=by
 rw[zE]
 ·rfl
 ·rfl
theorem m8 (hbad:gv [scr ns,.int 6000,k.t]= .ok bad):kZ (zG (z9 (za 3 gv (z9 (vE 0) (z9 (cE (.int 6000)) (z9 (vE 1) (zd))))) (z9 (zG (z9 (cE (.str "sum")) (z9 (cE (.int 1)) (zd)))) (zd)))) (Z8 12 13) (le ns k.t r.t s.t (.vl s.t) d2 f2 g2 h2 q1 q2 (.vl wv.t) .un .un)= .nx (le ns k.t r.t s.t (.vl s.t) d2 f2 g2 h2 q1 q2 (.vl wv.t) (.vl bad) (.vl (.tup [.str "sum",.int 1]))):=by
 unfold kZ;rw[WL (by rw[zV,v0,bOk,zI,bOk,v1,bOk,hbad]) rfl]
 rfl
theorem m9:zp 5 (Ze (z9 (cE (.str "too many")) (z9 (cE (.str "no rule")) (z9 (cE (.str "no rule")) (zd))))) (le ns k.t r.t s.t (.vl s.t) d2 f2 g2 h2 q1 q2 (.vl wv.t) (.vl bad) (.vl (.tup [.str "sum",.int 1])))= .nx (le ns k.t r.t s.t (.vl s.t) (.vl (.lst [.str "too many",.str "no rule",.str "no rule"])) f2 g2 h2 q1 q2 (.vl wv.t) (.vl bad) (.vl (.tup [.str "sum",.int 1]))):=rfl
theorem m10 (hr:ZY 2 r):zm neC (Ze (z9 (za 3 f_q (z9 (cE (.int 0)) (z9 (vE 11) (z9 (vE 2) (zd))))) (z9 (za 3 f_q (z9 (cE (.int 0)) (z9 (vE 11) (z9 (vE 13) (zd))))) (z9 (za 3 f_q (z9 (cE (.int 1)) (z9 (zG (z9 (cE (.str "whole")) (zd))) (z9 (vE 13) (zd))))) (zd))))) (vB 5) (le ns k.t r.t s.t (.vl s.t) (.vl (.lst [.str "too many",.str "no rule",.str "no rule"])) f2 g2 h2 q1 q2 (.vl wv.t) (.vl bad) (.vl (.tup [.str "sum",.int 1])))= .ok false:=by
 have t1:f_q [.int 0,wv.t,r.t]= .ok (.str "too many"):=by
  rw[uL (by decide) (tk0 (Uu hr.up (wE xw (by decide)))),z3J]
 have t2:f_q [.int 0,wv.t,.tup [.str "sum",.int 1]]= .ok (.str "no rule"):=by
  rw[uL (by decide) (tk0 (vC Xs)),z1i]
 have t3:f_q [.int 1,.tup [.str "whole"],.tup [.str "sum",.int 1]]= .ok (.str "no rule"):=by
  rw[uL (by decide) (tk1 (sk_x (vC Xs))),z1i]
 rw[zA,lst3 (by exact t1) (by exact t2) (by exact t3)]
 rfl
theorem m11 (hr:ZY 2 r)(hso:sOk bad):orE (za 2 (f_g 12) (z9 (vE 12) (z9 (cE (.int 3)) (zd)))) (ZE eqC (zz (zX (cE (.int 2))) (zq 0) (Z3) (za 3 f_q (z9 (vE 0) (z9 (vE 2) (z9 (vE 1) (zd))))) 1 [2,12]) (zb Z0 (Ze (z9 (cE (.str "no kind")) (zd))) (cE (.int 2)))) (frz (le ns k.t r.t s.t (.vl s.t) (.vl (.lst [.str "too many",.str "no rule",.str "no rule"])) f2 g2 h2 q1 q2 (.vl wv.t) (.vl bad) (.vl (.tup [.str "sum",.int 1]))))= .ok (.bl true):=by
 generalize hρ:frz (le ns k.t r.t s.t (.vl s.t) (.vl (.lst [.str "too many",.str "no rule",.str "no rule"])) f2 g2 h2 q1 q2 (.vl wv.t) (.vl bad) (.vl (.tup [.str "sum",.int 1])))=ρ;have v12:vE 12 ρ= .ok bad:=by rw[← hρ];rfl
 have hc:JO 1 [2,12] ρ=[.un,.vl r.t,.vl bad]:=by rw[← hρ];rfl
 unfold orE;rw[zu,v12,bOk,zI,bOk,wC bad hso,bOk];cases hkr:isK 3 bad with
 | true=>rfl
 | false=>
  dsimp only;have hx:=WA hso hkr;have n0:f_q [.int 0,bad,r.t]= .ok (.str "no kind"):=by rw[uL (c:=0) (by decide) (tk0 (Uu hr.up hx)),z0W]
  have n1:f_q [.int 1,bad,r.t]= .ok (.str "no kind"):=by rw[uL (c:=0) (by decide) (tk1 (sk_x (Uu hr.up hx))),z0W]
  have ec:zz (zX (cE (.int 2))) (zq 0) (Z3) (za 3 f_q (z9 (vE 0) (z9 (vE 2) (z9 (vE 1) (zd))))) 1 [2,12] ρ= .ok (.lst [.str "no kind",.str "no kind"]):=by
   rw[zB];show ((zo _ _ _ _ _ _ [.int 0,.int 1]).bind _)=_;rw[zL (h:=λ_=> .str "no kind") [.int 0,.int 1] (show 2<=bnd by decide) λt ht=> ?_]
   ·rfl
   ·rw[hc];show za 3 _ _ [.vl t,.vl r.t,.vl bad]=_;rw[zV,v0,bOk,v2,bOk,v1];simp only[ak,bh,or_false]at ht;rcases ht with rfl | rfl
    ·exact n0
    ·exact n1
  rw[Z7,ec];rfl
end
theorem law_ok (ns:List Int)(h:ns.length<=63):f_0 [.fz (ns.map T.int)]= .ok (.bl true):=by
 obtain⟨k,hk,hl,hs⟩:=xb ns 0 (by omega) 24 (by omega)
 have hi:=uC 3 k hk;obtain⟨r,er,hr⟩:=JH ns 8 2 (by omega) (by omega) 4000 (by omega)
 obtain⟨s,es,hs'⟩:=JH ns 8 2 (by omega) (by omega) 4500 (by omega)
 obtain⟨bad,hbad,hF⟩:=Qs ns 6000 (by omega) (by omega) (by decide) (jR 3 k.t hi)
 have hso:=hF.so;have e0:zp 1 (za 3 z0n (z9 (vE 0) (z9 (cE (.int 0)) (z9 (cE (.int 24)) (zd))))) [.vl (scr ns),.un,.un,.un,.un,.un,.un,.un,.un,.un,.un,.un,.un,.un]= .nx [.vl (scr ns),.vl k.t,.un,.un,.un,.un,.un,.un,.un,.un,.un,.un,.un,.un]:=by
  rw[zE (t:=k.t)]
  ·rfl
  ·rw[zV,v0,bOk,zI,bOk,zI,bOk];exact hs
 have e1:kZ (zG (z9 (za 3 (f_s 8) (z9 (vE 0) (z9 (cE (.int 4000)) (z9 (cE (.int 2)) (zd))))) (z9 (za 3 (f_s 8) (z9 (vE 0) (z9 (cE (.int 4500)) (z9 (cE (.int 2)) (zd))))) (zd)))) (Z8 2 3) [.vl (scr ns),.vl k.t,.un,.un,.un,.un,.un,.un,.un,.un,.un,.un,.un,.un]= .nx (le ns k.t r.t s.t .un .un .un .un .un .un .un .un .un .un):=by
  unfold kZ;rw[WL (x:=r.t) (y:=s.t) (by rw[zV,v0,bOk,zI,bOk,zI,bOk];exact er) (by rw[zV,v0,bOk,zI,bOk,zI,bOk];exact es)]
  rfl
 obtain⟨d1,f1,g1,h1,b1⟩:=z1o (ns:=ns) (a:=r.t) (b:=s.t) (d:= .un) (e:= .un) (f:= .un) (g:= .un) (h:= .un) (i:= .un) (j:= .un) (l:= .un) (m:= .un) hk hl hr;obtain⟨d2,f2,g2,h2,b2⟩:=z1o (ns:=ns) (a:=r.t) (b:=s.t) (d:=d1) (e:=f1) (f:=g1) (g:=h1) (h:= .un) (i:= .un) (j:= .un) (l:= .un) (m:= .un) hk hl hs';have e2:ZK (Zb (zG (z9 (vE 2) (z9 (vE 3) (zd))))) (zq 4) bX (le ns k.t r.t s.t .un .un .un .un .un .un .un .un .un .un)= .nx (le ns k.t r.t s.t (.vl s.t) d2 f2 g2 h2 .un .un .un .un .un):=by
  show Zn (zq 4) bX [r.t,s.t] _=_;rw[j6 (ρ1:=le ns k.t r.t s.t (.vl r.t) .un .un .un .un .un .un .un .un .un) rfl b1,j6 (ρ1:=le ns k.t r.t s.t (.vl s.t) d1 f1 g1 h1 .un .un .un .un .un) rfl b2];rfl
 show zf (b_0 _ _ _ _ _ _ _ _ _ _ _ [.vl (scr ns),.un,.un,.un,.un,.un,.un,.un,.un,.un,.un,.un,.un,.un])=_;rw[b_0,zc e0,zc e1,show _=_ from zc e2,zc (m3 hk hl hr hs'),zc (m4 hk hl hr hs'),zc (zi (Wx (z1k 28 _))),zc (zi (m6 hk hl hr hs')),zc m7,zc (m8 hbad),zc m9,zc (zi (m10 hr)),wu];exact m11 hr hso
end G
namespace G
open PySem PySem.Spec PyProof.Rows L2 PV
noncomputable def top (i:Nat):Stmt:=PySem.Challenge.pw_worthkinds_k41_whole_keepers.main.body.getD i (.Pass ⟨0,0,0,0⟩)
set_option genInjectivity false in
set_option genSizeOf false in
structure Tx (K:ae) (mg:Str->Option Value):Prop where
 C_1n:FE K mg "_law_cell" (top 62) ["_law_script","_law_k"]
 C_2:FE K mg "_law_pick" (top 63) ["_law_script","_law_k","_law_many"]
 C_17:FE K mg "_law_word_of" (top 64) ["_law_script","_law_at_here"]
 C_1a:FE K mg "_law_leaf_kind" (top 65) ["_law_script","_law_at_here"]
 C_k:FE K mg "_law_kind" (top 66) ["_law_script","_law_at_here","_law_deep"]
 C_m:FE K mg "_law_rows_of" (top 68) ["_law_lists"]
 C_4:FE K mg "_law_all" (top 67) ["_law_kind_here"]
 C_i:FE K mg "_law_size" (top 69) ["_law_kind_here"]
 C_1d:FE K mg "_law_small" (top 70) ["_law_script","_law_at_here","_law_most"]
 C_s:FE K mg "_law_rule" (top 78) ["_law_script","_law_at_here","_law_deep"]
 C_u:FE K mg "_law_leaves" (top 79) ["_law_worth"]
 C_e:FE K mg "_law_keeps" (top 80) ["_law_rule_here","_law_worth"]
 C_12:FE K mg "_law_plus" (top 83) ["_law_one","_law_other"]
 C_d:FE K mg "is_whole" (top 14) ["thing"]
 C_1p:FE K mg "is_span" (top 17) ["low","high","least","most"]
 C_h:FE K mg "is_tuple_of" (top 15) ["thing","least","most"]
 C_6:FE K mg "is_word" (top 16) ["thing"]
 C_1e:FE K mg "is_choice" (top 20) ["thing"]
 C_1c:FE K mg "are_choices" (top 19) ["thing"]
 C_b:FE K mg "is_kind_within" (top 18) ["thing","levels"]
 C_1v:FE K mg "are_kinds_within" (top 21) ["thing","levels"]
 C_1:FE K mg "is_kind" (top 10) ["thing"]
 C_z:FE K mg "need_kind" (top 12) ["kind"]
 C_w:FE K mg "words_of_pick" (top 22) ["kind"]
 C_f:FE K mg "has_worth" (top 23) ["kind","thing"]
 C_1t:FE K mg "have_parts" (top 24) ["kinds","parts"]
 C_1g:FE K mg "is_worth" (top 11) ["kind","thing"]
 C_1j:FE K mg "need_worth" (top 13) ["kind","worth"]
 C_3:FE K mg "count_of" (top 28) ["kind"]
 C_16:FE K mg "count_of_parts" (top 29) ["kinds"]
 C_y:FE K mg "count_shorter" (top 30) ["kind","length"]
 C_1h:FE K mg "greatest_divisor" (top 37) ["one","other"]
 C_x:FE K mg "fraction" (top 36) ["up","down"]
 C_1i:FE K mg "share_of_word" (top 43) ["kind","word"]
 C_10:FE K mg "times" (top 38) ["one","other"]
 C_8:FE K mg "share_within" (top 42) ["kind","worth"]
 C_1m:FE K mg "share_of_parts" (top 44) ["kinds","parts"]
 C_5:FE K mg "share_of" (top 35) ["kind","worth"]
 C_1l:FE K mg "is_bound" (top 53) ["thing"]
 C_v:FE K mg "is_rule_within" (top 52) ["thing","levels"]
 C_c:FE K mg "is_rule" (top 48) ["thing"]
 C_1f:FE K mg "need_rule" (top 51) ["rule"]
 C_j:FE K mg "worth_at" (top 31) ["kind","number"]
 C_1u:FE K mg "many_at" (top 32) ["kind","number"]
 C_18:FE K mg "parts_at" (top 33) ["kinds","number"]
 C_14:FE K mg "all_worths" (top 27) ["kind"]
 C_r:FE K mg "leaves_of" (top 57) ["worth"]
 C_1k:FE K mg "numbers_in" (top 58) ["worth"]
 C_1o:FE K mg "parts_of" (top 56) ["worth"]
 C_1r:FE K mg "are_rising" (top 59) ["numbers"]
 C_1s:FE K mg "are_unlike" (top 60) ["parts"]
 C_1b:FE K mg "is_single_kept" (top 55) ["rule","worth"]
 C_o:FE K mg "is_kept" (top 54) ["rule","worth"]
 C_7:FE K mg "keepers" (top 49) ["kind","rule"]
 C_a:FE K mg "plus" (top 39) ["one","other"]
 C_n:FE K mg "together" (top 40) ["fractions"]
 C_1q:FE K mg "shares_together" (top 41) ["kind","worths"]
 C_p:FE K mg "share_keeping" (top 50) ["kind","rule"]
 C_l:FE K mg "_law_word" (top 81) ["_law_kept"]
 C_q:FE K mg "_law_tried" (top 82) ["_law_what","_law_kind_here","_law_rule_here"]
 C_t:FE K mg "_law_places" (top 74) ["_law_thing"]
 C_19:FE K mg "_law_at" (top 75) ["_law_thing","_law_place"]
 C_9:FE K mg "_law_put" (top 76) ["_law_thing","_law_place","_law_new"]
 C_15:FE K mg "_law_spoilt_thing" (top 77) ["_law_script","_law_at_here","_law_thing"]
 C_11:FE K mg "_law_whole" (top 71) ["_law_thing","_law_low","_law_high"]
 C_13:FE K mg "_law_is_word" (top 72) ["_law_thing"]
 C_g:FE K mg "_law_is_kind" (top 73) ["_law_thing","_law_deep"]
 C_0:FE K mg "law" (top 84) ["_law_script"]
 z:∀x,(["ValueError","abs","all","any","bool","dict","enumerate","int","isinstance","len","list","min","range","reversed","set","sorted","str","sum","tuple","zip"]:List Str).contains x=true->mg x=none
 c_DEEPEST:∃u,mg "DEEPEST"=some u/\∃t,u=Value.int 3 t
 c_DEEPEST_RULE:∃u,mg "DEEPEST_RULE"=some u/\∃t,u=Value.int 3 t
 c_FARTHEST_BOUND:∃u,mg "FARTHEST_BOUND"=some u/\∃t,u=Value.int 50 t
 c_MOST_TOLD:∃u,mg "MOST_TOLD"=some u/\∃t,u=Value.int 500 t
noncomputable abbrev Xv:List Value:=[.type "ValueError",.type "Exception",.type "BaseException",.type "object"]
set_option genInjectivity false in
set_option genSizeOf false in
structure Tq (K:ae) (mg:Str->Option Value) (base:Heap) (cl:Nat->Value) where
 (q_Ended q_NoKind q_NoRule q_NoText q_NoWorth q_TooMany q_WorthError:Addr)
 X_k:XK1 K cl okX
 e_WorthError:∀c,okX c=true->PySem.W.exmOne K (cl c) (.ref q_WorthError)=some true
 l_NoKind:cl 0= .ref q_NoKind
 l_NoRule:cl 2= .ref q_NoRule
 l_NoWorth:cl 1= .ref q_NoWorth
 l_TooMany:cl 3= .ref q_TooMany
 m_Ended:mg "Ended"=some (.ref q_Ended)
 m_NoKind:mg "NoKind"=some (.ref q_NoKind)
 m_NoRule:mg "NoRule"=some (.ref q_NoRule)
 m_NoText:mg "NoText"=some (.ref q_NoText)
 m_NoWorth:mg "NoWorth"=some (.ref q_NoWorth)
 m_TooMany:mg "TooMany"=some (.ref q_TooMany)
 m_WorthError:mg "WorthError"=some (.ref q_WorthError)
 o_NoKind:OwnCls "NoKind" q_NoKind Xv "ValueError.__new__" mg base
 o_NoRule:OwnCls "NoRule" q_NoRule Xv "ValueError.__new__" mg base
 o_NoWorth:OwnCls "NoWorth" q_NoWorth Xv "ValueError.__new__" mg base
 o_TooMany:OwnCls "TooMany" q_TooMany Xv "ValueError.__new__" mg base
 t_Ended:∀c,okX c=true->aQ K (cl c) (.ref q_Ended)=some (JZ c)
 t_NoKind:∀c,okX c=true->aQ K (cl c) (.ref q_NoKind)=some (J7 c)
 t_NoRule:∀c,okX c=true->aQ K (cl c) (.ref q_NoRule)=some (J8 c)
 t_NoText:∀c,okX c=true->aQ K (cl c) (.ref q_NoText)=some (J9 c)
 t_NoWorth:∀c,okX c=true->aQ K (cl c) (.ref q_NoWorth)=some (jD c)
 t_TooMany:∀c,okX c=true->aQ K (cl c) (.ref q_TooMany)=some (jE c)
 t_ValueError:∀c,okX c=true->aQ K (cl c) (.type "ValueError")=some (ZR c)
section
variable {Z:Zz}(tx:Tx Z.K Z.mg)(xq:Tq Z.K Z.mg Z.base Z.cl)
include tx xq
set_option hygiene false
local macro_rules | `(tactic| gp_on)=> `(tactic| first
  | (show uN _ _ _ _;first
   | refine xE ?_ ?_
   | exact Gg)
  | (show Snd _ _ (.Name ..) _;first
   | exact z2y _ (pv _)
   | exact tx.c_FARTHEST_BOUND.elim λ_ h=>We (by rfl) h.1 h.2
   | exact tx.c_DEEPEST.elim λ_ h=>We (by rfl) h.1 h.2
   | exact tx.c_DEEPEST_RULE.elim λ_ h=>We (by rfl) h.1 h.2
   | exact tx.c_MOST_TOLD.elim λ_ h=>We (by rfl) h.1 h.2)
  | (show Snd _ _ (.Constant ..) _;first
   | exact z2z
   | exact Gf
   | exact s_bl
   | exact z2A)
  | (show wJ _ _ _ _;first
   | refine Gx ?_ ?_
   | exact z2Y
   | refine z2Z ?_)
  | (show je _ _ _ _;first
   | exact Ge _ (pv _)
   | refine Snd.b ?_)
  | (show wz _ _ _ _;first
   | refine z30 ?_
   | refine z31 ?_ ?_ ?_
   | refine Gy nd (by rfl) (.inl (by rfl)) ?_
   | refine GH fN (by rfl) ?_ ?_ ?_
   | refine Gz nd (by rfl) (.inl (by rfl)) ?_
   | refine GM (cr1 hy (by kernel_rfl) (by kernel_rfl) (by rfl) ?_ (λ_ hy _ _ _ _ _ _=> ?_) (λ_ hy _ _ _ _ _ _ _ hp=> ?_)) nd (by rfl) (.inl (by rfl)) (by rfl)
   | refine z33 (pv _) ?_
   | refine Gy nd (by rfl) (.inr (by rfl)) ?_
   | refine z38 (by rfl) nd (by rfl) (by rfl) (by decide) (by rfl) (by rfl) ?_ (by rfl)
   | refine GA ?_
   | refine z32 (pv _) ?_
   | refine qm (n:=_ ^ _) fN ?_ ?_
   | refine z0d ?_ (xO (by rfl) nd (by rfl) (by rfl) (.inr (by rfl)) (.inl (by rfl)))
   | refine GH PassesOwn.leaving (by rfl) ?_ ?_ ?_
   | exact s_mv (pv _) nd (by rfl) (.inl (by rfl))
   | exact Wf (c:=_) xq.o_NoKind bb (by decide) bb hE (by rw[hy];exact xq.l_NoKind) (by rfl)
   | exact Wf (c:=_) xq.o_NoWorth bb (by decide) bb hE (by rw[hy];exact xq.l_NoWorth) (by rfl)
   | exact Wf (c:=_) xq.o_NoRule bb (by decide) bb hE (by rw[hy];exact xq.l_NoRule) (by rfl)
   | refine qm (n:=_) fN ?_ ?_
   | exact Wf (c:=_) xq.o_TooMany bb (by decide) bb hE (by rw[hy];exact xq.l_TooMany) (by rfl)
   | refine z01 (cr1 hy (by kernel_rfl) (by kernel_rfl) (by rfl) ?_ (λ_ hy _ _ _ _ _ _=> ?_) (λ_ hy _ _ _ _ _ _ _ hp=> ?_)))
  | (show Snd _ _ (.Call ..) _;first
   | refine z2U (by rfl) (tx.z _ (by kernel_rfl)) ?_
   | refine Va (n:="tuple") (qd _) (by rfl) (tx.z _ (by kernel_rfl)) (by rfl) (tx.z _ (by kernel_rfl)) PyProof.Rows.Boot.«tuple» ?_
   | refine z2X hr.hd (by rfl) (tx.z _ (by kernel_rfl)) ?_
   | refine z00 (by rfl) (tx.z _ (by kernel_rfl)) ?_
   | refine Va (n:="int") (kf _) (by rfl) (tx.z _ (by kernel_rfl)) (by rfl) (tx.z _ (by kernel_rfl)) PyProof.Rows.Boot.«int» ?_
   | refine Va (n:="str") (kg _) (by rfl) (tx.z _ (by kernel_rfl)) (by rfl) (tx.z _ (by kernel_rfl)) PyProof.Rows.Boot.«str» ?_
   | refine Gw (by rfl) (by rfl) (tx.z _ (by kernel_rfl)) ?_ ?_
   | refine ke (by rfl) (tx.z _ (by kernel_rfl)) ?_
   | refine Va (n:="bool") (V9 _) (by rfl) (tx.z _ (by kernel_rfl)) (by rfl) (tx.z _ (by kernel_rfl)) PyProof.Rows.Boot.«bool» ?_
   | refine z3f hr.hd (by rfl) (tx.z _ (by kernel_rfl)) ?_
   | refine Ka (by rfl) (tx.z _ (by kernel_rfl)) ?_
   | refine z0k hr (by rfl) (tx.z _ (by kernel_rfl)) ?_
   | refine GQ ?_
   | refine kQ hr.hd (by rfl) (tx.z _ (by kernel_rfl)) (by rfl) (tx.z _ (by kernel_rfl)) ?_ ?_
   | refine z0c (by rfl) (tx.z _ (by kernel_rfl)) ?_
   | refine GR hr.hd (by rfl) (tx.z _ (by kernel_rfl)) (by rfl) (tx.z _ (by kernel_rfl)) ?_
   | refine z3n (by rfl) (tx.z _ (by kernel_rfl)) ?_
   | refine z0b hr.hd (by rfl) (tx.z _ (by kernel_rfl)) (by rfl) (tx.z _ (by kernel_rfl)) ?_
   | refine z3l hr.hd (by rfl) (tx.z _ (by kernel_rfl)) ?_
   | exact jZ (by rw[hy];exact xq.X_k) (by rw[hy];exact xq.t_Ended) (by rfl) (tx.z _ (by kernel_rfl)) (pv _) (by rfl) xq.m_Ended
   | exact jZ (by rw[hy];exact xq.X_k) (by rw[hy];exact xq.t_NoKind) (by rfl) (tx.z _ (by kernel_rfl)) (pv _) (by rfl) xq.m_NoKind
   | exact jZ (by rw[hy];exact xq.X_k) (by rw[hy];exact xq.t_NoRule) (by rfl) (tx.z _ (by kernel_rfl)) (pv _) (by rfl) xq.m_NoRule
   | exact jZ (by rw[hy];exact xq.X_k) (by rw[hy];exact xq.t_NoText) (by rfl) (tx.z _ (by kernel_rfl)) (pv _) (by rfl) xq.m_NoText
   | exact jZ (by rw[hy];exact xq.X_k) (by rw[hy];exact xq.t_NoWorth) (by rfl) (tx.z _ (by kernel_rfl)) (pv _) (by rfl) xq.m_NoWorth
   | exact jZ (by rw[hy];exact xq.X_k) (by rw[hy];exact xq.t_TooMany) (by rfl) (tx.z _ (by kernel_rfl)) (pv _) (by rfl) xq.m_TooMany
   | refine kR hr.units ?_ ?_
   | exact kF (n:="ValueError") (by rw[hy];exact xq.X_k) (by rw[hy];exact xq.t_ValueError) (by rfl) (tx.z _ (by kernel_rfl)) (pv _) (by rfl) (tx.z _ (by kernel_rfl)) PyProof.Rows.Boot.«ValueError»
   | refine kS hr.units ?_ ?_
   | exact QQ.go (by assumption) λ_ _ _ _ C F=>kH hy F hr (by omega) (by rfl) C.m C.F.kp C.b (pv _)
   | refine cZ hy (by assumption) hr ?_
   | refine cX hy hp (by assumption) hr ?_)
  | (show Snd _ _ (.Subscript ..) _;first
   | refine s_ix ?_ ?_
   | refine kl ?_ ?_ ?_)
  | (show WK _ _ _ _;first
   | refine uW Gj (xF hr.units) ?_ ?_ (jJ _)
   | refine z2R ?_
   | refine uW Gk (xG hr.units) ?_ ?_ (jJ _)
   | refine uW z2J Gm ?_ ?_ (jJ _)
   | refine uW z2K Gn ?_ ?_ (jJ _)
   | refine kb Wa Wa jN jN ?_ ?_ ?_
   | refine uW V6 (xH hr.units) ?_ ?_ (by rfl)
   | refine uW Wa jN ?_ ?_ (jJ _)
   | refine uW Gp (k7 hr.units) ?_ ?_ (by rfl)
   | exact GU (pv _)
   | refine z2S ?_
   | refine Yn.t ?_)
  | (show Snd _ _ (.BinOp ..) _;first
   | refine z2E ?_ ?_
   | refine z2H ?_ ?_
   | refine z2F ?_ ?_
   | refine z2G ?_ ?_
   | refine s_ml ?_ ?_
   | refine z3o ?_ ?_
   | refine Gi ?_ ?_)
  | (show Snd _ _ (.BoolOp ..) _;first
   | refine z2N ?_ ?_
   | refine s_or ?_ ?_
   | refine z2M ?_)
  | (show uY _ _ _ _ _;first
   | refine GE (by rfl) (tx.z _ (by kernel_rfl)) ?_
   | refine z3b (by rfl) (tx.z _ (by kernel_rfl)) ?_ ?_
   | refine GF (by rfl) (tx.z _ (by kernel_rfl)) ?_ ?_
   | refine GO (by rfl) (tx.z _ (by kernel_rfl)) ?_
   | refine z3j (by rfl) (tx.z _ (by kernel_rfl)) ?_
   | refine kY (by rfl) (tx.z _ (by kernel_rfl)) ?_
   | refine z37 ?_)
  | (show Snd _ _ (.Tuple ..) _;first
   | refine z2B ?_)
  | (show Yn _ _ _ _;first
   | refine w_or ?_ ?_
   | refine z2Q ?_ ?_
   | refine z2P ?_
   | refine Gs ?_)
  | (show Snd _ _ (.Compare ..) _;first
   | refine YX Gj (xF hr.units) ?_ ?_ (jJ _)
   | refine ka Wa Wa jN jN ?_ ?_ ?_
   | refine YX Wa jN ?_ ?_ (jJ _)
   | refine YX V6 (xH hr.units) ?_ ?_ (by rfl)
   | refine YX z2L Go ?_ ?_ (jJ _)
   | refine YX Gk (xG hr.units) ?_ ?_ (jJ _)
   | refine V7 Wa Wa Wa jN jN jN ?_ ?_ ?_ ?_)
  | (show Wd _ _ _ _;first
   | exact GK
   | refine GL ?_)
  | (show Snd _ _ (.List ..) _;first
   | refine z2C ?_)
  | (show Snd _ _ (.ListComp ..) _;first
   | refine xQ (cr1 hy (by kernel_rfl) (by kernel_rfl) (by rfl) ?_ (λ_ hy _ _ _ _ _ _=> ?_) (λ_ hy _ _ _ _ _ _ _ hp=> ?_))
   | refine xQ (cr2 hy (by kernel_rfl) (by kernel_rfl) (by rfl) ?_ (λ_ hy _ _ _ _ _ _=> ?_) (λ_ hy _ _ _ _ _ _ _ hp=> ?_)))
  | (show kh _ _ _ _;first
   | refine Gv ?_
   | exact Gu)
  | (show GG _ _ _ _;first
   | exact xN nd (by rfl) (.inl (by rfl))
   | exact xN nd (by rfl) (.inr (by rfl))
   | exact xO (by rfl) nd (by rfl) (by rfl) (.inl (by rfl)) (.inl (by rfl)))
  | (show Snd _ _ (.UnaryOp ..) _;first
   | refine z2I ?_
   | refine z2O ?_)
  | (show Snd _ _ (.IfExp ..) _;first
   | refine s_if ?_ ?_ ?_)
  )
local macro_rules | `(tactic| kd_all)=> `(tactic| (intro cdv A outer s H E Y hy hE hr nd hp;repeat' gp_on))
theorem z45:qP Z "_law_cell" 2 1 (oP 2 b_1n):=by
 refine okP tx.C_1n ["_law_script","_law_k"] λ_=> ?_
 kd_all
theorem ok_2 (_:qP Z "_law_cell" 2 1 c_1n):qP Z "_law_pick" 3 2 (oP 4 (b_2 c_1n)):=by
 refine okP tx.C_2 ["_law_script","_law_k","_law_many","_law_drawn"] λ_=> ?_
 kd_all
theorem z46 (_:qP Z "_law_pick" 3 2 c_2):qP Z "_law_word_of" 2 3 (oP 3 (z1F c_2)):=by
 refine okP tx.C_17 ["_law_script","_law_at_here","_law_letters"] λ_=> ?_
 kd_all
theorem z47 (_:qP Z "_law_pick" 3 2 c_2)(_:qP Z "_law_word_of" 2 3 c_17):qP Z "_law_leaf_kind" 2 4 (oP 6 (z1G c_2 c_17)):=by
 refine okP tx.C_1a ["_law_script","_law_at_here","_law_low","_law_words","_law_k","_law_word_here"] λ_=> ?_
 kd_all
theorem ok_k {j:Nat}(hj:4<=j)(_:qP Z "_law_pick" 3 2 c_2)(_:qP Z "_law_leaf_kind" 2 4 c_1a)(_:qP Z "_law_kind" 3 j c_k):qP Z "_law_kind" 3 (j+1) (oP 6 (b_k c_2 c_1a c_k)):=by
 refine okP tx.C_k ["_law_script","_law_at_here","_law_deep","_law_way","_law_some","_law_low"] λ_=> ?_
 kd_all
theorem ok_m:qP Z "_law_rows_of" 1 1 (oP 5 b_m):=by
 refine okP tx.C_m ["_law_lists","_law_made","_law_some","_law_longer","_law_ahead"] λ_=> ?_
 kd_all
theorem ok_4 {j:Nat}(hj:1<=j)(_:qP Z "_law_all" 1 j c_4)(_:qP Z "_law_rows_of" 1 1 c_m):qP Z "_law_all" 1 (j+1) (oP 3 (b_4 c_4 c_m)):=by
 refine okP tx.C_4 ["_law_kind_here","_law_made","_law_size_here"] λ_=> ?_
 kd_all
theorem ok_i {j:Nat}(hj:9<=j)(_:qP Z "_law_all" 1 9 c_4)(_:qP Z "_law_size" 1 j c_i):qP Z "_law_size" 1 (j+1) (oP 5 (b_i c_4 c_i)):=by
 refine okP tx.C_i ["_law_kind_here","_law_sizes","_law_made","_law_size_here","_law_inner"] λ_=> ?_
 kd_all
theorem z48 (_:qP Z "_law_kind" 3 12 c_k)(_:qP Z "_law_size" 1 17 c_i):qP Z "_law_small" 3 18 (oP 5 (z1H c_k c_i)):=by
 refine okP tx.C_1d ["_law_script","_law_at_here","_law_most","_law_kind_here","_law_k"] λ_=> ?_
 kd_all
theorem ok_s {j:Nat}(hj:2<=j)(_:qP Z "_law_pick" 3 2 c_2)(_:qP Z "_law_rule" 3 j c_s):qP Z "_law_rule" 3 (j+1) (oP 6 (b_s c_2 c_s)):=by
 refine okP tx.C_s ["_law_script","_law_at_here","_law_deep","_law_way","_law_one","_law_low"] λ_=> ?_
 kd_all
theorem ok_u {j:Nat}(hj:0<=j)(_:qP Z "_law_leaves" 1 j c_u):qP Z "_law_leaves" 1 (j+1) (oP 3 (b_u c_u)):=by
 refine okP tx.C_u ["_law_worth","_law_made","_law_part"] λ_=> ?_
 kd_all
theorem ok_e {j:Nat}(hj:8<=j)(_:qP Z "_law_leaves" 1 8 c_u)(_:qP Z "_law_keeps" 2 j c_e):qP Z "_law_keeps" 2 (j+1) (oP 7 (b_e c_u c_e)):=by
 refine okP tx.C_e ["_law_rule_here","_law_worth","_law_numbers","_law_parts","_law_total","_law_number","_law_some"] λ_=> ?_
 kd_all
theorem z49:qP Z "_law_plus" 2 1 (oP 6 z1I):=by
 refine okP tx.C_12 ["_law_one","_law_other","_law_up","_law_down","_law_high","_law_low"] λ_=> ?_
 kd_all
theorem ok_d:qP Z "is_whole" 1 1 (oP 1 b_d):=by
 refine okP tx.C_d ["thing"] λ_=> ?_
 kd_all
theorem z4a (_:qP Z "is_whole" 1 1 c_d):qP Z "is_span" 4 2 (oP 4 (b_1p c_d)):=by
 refine okP tx.C_1p ["low","high","least","most"] λ_=> ?_
 kd_all
theorem ok_h:qP Z "is_tuple_of" 3 1 (oP 3 b_h):=by
 refine okP tx.C_h ["thing","least","most"] λ_=> ?_
 kd_all
theorem ok_6:qP Z "is_word" 1 1 (oP 1 b_6):=by
 refine okP tx.C_6 ["thing"] λ_=> ?_
 kd_all
theorem z4b (_:qP Z "is_whole" 1 1 c_d)(_:qP Z "is_tuple_of" 3 1 c_h)(_:qP Z "is_word" 1 1 c_6):qP Z "is_choice" 1 2 (oP 1 (z1K c_d c_h c_6)):=by
 refine okP tx.C_1e ["thing"] λ_=> ?_
 kd_all
theorem z4c (_:qP Z "is_tuple_of" 3 1 c_h)(_:qP Z "is_choice" 1 2 c_1e):qP Z "are_choices" 1 3 (oP 2 (z1L c_h c_1e)):=by
 refine okP tx.C_1c ["thing","words"] λ_=> ?_
 kd_all
theorem ok_b {j:Nat}(hj:3<=j)(_:qP Z "is_span" 4 2 c_1p)(_:qP Z "is_kind_within" 2 j c_b)(_:qP Z "are_choices" 1 3 c_1c)(_:qP Z "are_kinds_within" 2 j c_1v):qP Z "is_kind_within" 2 (j+1) (oP 2 (b_b c_1p c_b c_1c c_1v)):=by
 refine okP tx.C_b ["thing","levels"] λ_=> ?_
 kd_all
theorem z4d {j:Nat}(hj:3<=j)(_:qP Z "is_tuple_of" 3 1 c_h)(_:qP Z "is_kind_within" 2 j c_b):qP Z "are_kinds_within" 2 (j+1) (oP 2 (z1M c_h c_b)):=by
 refine okP tx.C_1v ["thing","levels"] λ_=> ?_
 kd_all
theorem ok_1 (_:qP Z "is_kind_within" 2 23 c_b):qP Z "is_kind" 1 24 (oP 1 (b_1 c_b)):=by
 refine okP tx.C_1 ["thing"] λ_=> ?_
 kd_all
theorem ok_z (_:qP Z "is_kind" 1 24 c_1):qX Z "need_kind" 1 25 (oP 1 (b_z c_1)):=by
 refine okR tx.C_z ["kind"] λ_=> ?_
 kd_all
theorem ok_w:qP Z "words_of_pick" 1 1 (oP 1 b_w):=by
 refine okP tx.C_w ["kind"] λ_=> ?_
 kd_all
theorem ok_f {j:Nat}(hj:1<=j)(_:qP Z "is_whole" 1 1 c_d)(_:qP Z "is_tuple_of" 3 1 c_h)(_:qP Z "words_of_pick" 1 1 c_w)(_:qP Z "have_parts" 2 j c_1t):qP Z "has_worth" 2 (j+1) (oP 2 (b_f c_d c_h c_w c_1t)):=by
 refine okP tx.C_f ["kind","thing"] λ_=> ?_
 kd_all
theorem z4e {j:Nat}(hj:1<=j)(_:qP Z "has_worth" 2 j c_f):qP Z "have_parts" 2 (j+1) (oP 2 (z1N c_f)):=by
 refine okP tx.C_1t ["kinds","parts"] λ_=> ?_
 kd_all
theorem z4f (_:qX Z "need_kind" 1 25 c_z)(_:qP Z "has_worth" 2 21 c_f):qX Z "is_worth" 2 26 (oP 2 (z1O c_z c_f)):=by
 refine okR tx.C_1g ["kind","thing"] λ_=> ?_
 kd_all
theorem z4g (_:qX Z "is_worth" 2 26 c_1g):qX Z "need_worth" 2 27 (oP 2 (z1P c_1g)):=by
 refine okR tx.C_1j ["kind","worth"] λ_=> ?_
 kd_all
theorem ok_3 {j:Nat}(hj:0<=j)(_:qP Z "count_of_parts" 1 j c_16)(_:qP Z "count_shorter" 2 j c_y):qP Z "count_of" 1 (j+1) (oP 1 (b_3 c_16 c_y)):=by
 refine okP tx.C_3 ["kind"] λ_=> ?_
 kd_all
theorem z4h {j:Nat}(hj:0<=j)(_:qP Z "count_of" 1 j c_3):qP Z "count_of_parts" 1 (j+1) (oP 3 (z0r c_3)):=by
 refine okP tx.C_16 ["kinds","count","kind"] λ_=> ?_
 kd_all
theorem ok_y {j:Nat}(hj:0<=j)(_:qP Z "count_of_parts" 1 j c_16):qP Z "count_shorter" 2 (j+1) (oP 2 (b_y c_16)):=by
 refine okP tx.C_y ["kind","length"] λ_=> ?_
 kd_all
theorem z4i:qP Z "greatest_divisor" 2 1 (oP 3 z1R):=by
 refine okP tx.C_1h ["one","other","rest"] λ_=> ?_
 kd_all
theorem ok_x (_:qP Z "greatest_divisor" 2 1 c_1h):qP Z "fraction" 2 2 (oP 3 (b_x c_1h)):=by
 refine okP tx.C_x ["up","down","divisor"] λ_=> ?_
 kd_all
theorem z4j (_:qP Z "fraction" 2 2 c_x):qP Z "share_of_word" 2 3 (oP 3 (z1T c_x)):=by
 refine okP tx.C_1i ["kind","word","weights"] λ_=> ?_
 kd_all
 refine QQ.go (by assumption) λ_ _ _ _ C F=>K7 (i:=2) (j:=1) (by decide) hy F hr (by omega) (by rfl) C.m C.F.kp C.b nd (by rfl) (.inl (by rfl)) (by rfl) (tx.z _ (by kernel_rfl)) (by rfl) (tx.z _ (by kernel_rfl)) (pv 2) (pv 1) ?_ (pi' :=pv 2)
 repeat' gp_on
theorem z4k (_:qP Z "fraction" 2 2 c_x):qP Z "times" 2 3 (oP 2 (z1V c_x)):=by
 refine okP tx.C_10 ["one","other"] λ_=> ?_
 kd_all
theorem ok_8 {j:Nat}(hj:20<=j)(_:qP Z "count_of" 1 20 c_3)(_:qP Z "times" 2 3 c_10)(_:qP Z "share_of_word" 2 3 c_1i)(_:qP Z "share_of_parts" 2 j c_1m):qP Z "share_within" 2 (j+1) (oP 3 (b_8 c_3 c_10 c_1i c_1m)):=by
 refine okP tx.C_8 ["kind","worth","one_length"] λ_=> ?_
 kd_all
theorem z4l {j:Nat}(hj:20<=j)(_:qP Z "times" 2 3 c_10)(_:qP Z "share_within" 2 j c_8):qP Z "share_of_parts" 2 (j+1) (oP 5 (z0s c_10 c_8)):=by
 refine okP tx.C_1m ["kinds","parts","share","kind","part"] λ_=> ?_
 kd_all
theorem ok_5 (_:qX Z "need_worth" 2 27 c_1j)(_:qP Z "share_within" 2 40 c_8):qX Z "share_of" 2 41 (oP 2 (b_5 c_1j c_8)):=by
 refine okR tx.C_5 ["kind","worth"] λ_=> ?_
 kd_all
theorem z4m (_:qP Z "is_whole" 1 1 c_d):qP Z "is_bound" 1 2 (oP 1 (z3r c_d)):=by
 refine okP tx.C_1l ["thing"] λ_=> ?_
 kd_all
theorem ok_v {j:Nat}(hj:2<=j)(_:qP Z "is_word" 1 1 c_6)(_:qP Z "is_rule_within" 2 j c_v)(_:qP Z "is_bound" 1 2 c_1l):qP Z "is_rule_within" 2 (j+1) (oP 2 (b_v c_6 c_v c_1l)):=by
 refine okP tx.C_v ["thing","levels"] λ_=> ?_
 kd_all
theorem ok_c (_:qP Z "is_rule_within" 2 10 c_v):qP Z "is_rule" 1 11 (oP 1 (b_c c_v)):=by
 refine okP tx.C_c ["thing"] λ_=> ?_
 kd_all
theorem z4n (_:qP Z "is_rule" 1 11 c_c):qX Z "need_rule" 1 12 (oP 1 (z1X c_c)):=by
 refine okR tx.C_1f ["rule"] λ_=> ?_
 kd_all
theorem ok_j {j:Nat}(hj:20<=j)(_:qP Z "words_of_pick" 1 1 c_w)(_:qP Z "many_at" 2 j c_1u)(_:qP Z "parts_at" 2 j c_18):qP Z "worth_at" 2 (j+1) (oP 2 (b_j c_w c_1u c_18)):=by
 refine okP tx.C_j ["kind","number"] λ_=> ?_
 kd_all
theorem z4o {j:Nat}(hj:20<=j)(_:qP Z "count_shorter" 2 20 c_y)(_:qP Z "parts_at" 2 j c_18):qP Z "many_at" 2 (j+1) (oP 3 (z0u c_y c_18)):=by
 refine okP tx.C_1u ["kind","number","length"] λ_=> ?_
 kd_all
theorem z4p {j:Nat}(hj:20<=j)(_:qP Z "count_of" 1 20 c_3)(_:qP Z "worth_at" 2 j c_j):qP Z "parts_at" 2 (j+1) (oP 6 (z0v c_3 c_j)):=by
 refine okP tx.C_18 ["kinds","number","parts","rest","kind","count"] λ_=> ?_
 kd_all
theorem z4q (_:qX Z "need_kind" 1 25 c_z)(_:qP Z "count_of" 1 20 c_3)(_:qP Z "worth_at" 2 40 c_j):qX Z "all_worths" 1 41 (oP 2 (X4 c_z c_3 c_j)):=by
 refine okR tx.C_14 ["kind","count"] λ_=> ?_
 kd_all
theorem ok_r {j:Nat}(hj:0<=j)(_:qP Z "leaves_of" 1 j c_r):qP Z "leaves_of" 1 (j+1) (oP 3 (b_r c_r)):=by
 refine okP tx.C_r ["worth","leaves","part"] λ_=> ?_
 kd_all
theorem z4r (_:qP Z "is_whole" 1 1 c_d)(_:qP Z "leaves_of" 1 8 c_r):qP Z "numbers_in" 1 9 (oP 1 (z3s c_d c_r)):=by
 refine okP tx.C_1k ["worth"] λ_=> ?_
 kd_all
theorem z4s:qP Z "parts_of" 1 1 (oP 1 b_1o):=by
 refine okP tx.C_1o ["worth"] λ_=> ?_
 kd_all
theorem z4t:qP Z "are_rising" 1 1 (oP 1 z3t):=by
 refine okP tx.C_1r ["numbers"] λ_=> ?_
 kd_all
theorem z4u:qP Z "are_unlike" 1 1 (oP 1 z3v):=by
 refine okP tx.C_1s ["parts"] λ_=> ?_
 kd_all
theorem z4v (_:qP Z "parts_of" 1 1 c_1o)(_:qP Z "leaves_of" 1 8 c_r)(_:qP Z "numbers_in" 1 9 c_1k)(_:qP Z "are_rising" 1 1 c_1r)(_:qP Z "are_unlike" 1 1 c_1s):qP Z "is_single_kept" 2 10 (oP 2 (z20 c_1o c_r c_1k c_1r c_1s)):=by
 refine okP tx.C_1b ["rule","worth"] λ_=> ?_
 kd_all
theorem ok_o {j:Nat}(hj:10<=j)(_:qP Z "is_kept" 2 j c_o)(_:qP Z "is_single_kept" 2 10 c_1b):qP Z "is_kept" 2 (j+1) (oP 2 (b_o c_o c_1b)):=by
 refine okP tx.C_o ["rule","worth"] λ_=> ?_
 kd_all
theorem ok_7 (_:qX Z "all_worths" 1 41 c_14)(_:qX Z "need_rule" 1 12 c_1f)(_:qP Z "is_kept" 2 18 c_o):qX Z "keepers" 2 42 (oP 2 (b_7 c_14 c_1f c_o)):=by
 refine okR tx.C_7 ["kind","rule"] λ_=> ?_
 kd_all
theorem ok_a (_:qP Z "fraction" 2 2 c_x):qP Z "plus" 2 3 (oP 2 (b_a c_x)):=by
 refine okP tx.C_a ["one","other"] λ_=> ?_
 kd_all
theorem ok_n (_:qP Z "plus" 2 3 c_a):qP Z "together" 1 4 (oP 3 (b_n c_a)):=by
 refine okP tx.C_n ["fractions","total","each"] λ_=> ?_
 kd_all
theorem z4w (_:qP Z "together" 1 4 c_n)(_:qP Z "share_within" 2 40 c_8):qP Z "shares_together" 2 41 (oP 2 (z3x c_n c_8)):=by
 refine okP tx.C_1q ["kind","worths"] λ_=> ?_
 kd_all
theorem ok_p (_:qP Z "shares_together" 2 41 c_1q)(_:qX Z "keepers" 2 42 c_7):qX Z "share_keeping" 2 43 (oP 2 (b_p c_1q c_7)):=by
 refine okR tx.C_p ["kind","rule"] λ_=> ?_
 kd_all
theorem ok_l:qC Z "_law_word" 1 (oC 2 b_l):=by
 refine okC tx.C_l ["_law_kept","_law_kinds"] λ_=> ?_
 kd_all
theorem ok_q (_:qC Z "_law_word" 1 c_l)(_:qX Z "keepers" 2 42 c_7)(_:qX Z "share_keeping" 2 43 c_p):qP Z "_law_tried" 3 44 (oP 6 (b_q c_l c_7 c_p)):=by
 refine okP tx.C_q ["_law_what","_law_kind_here","_law_rule_here","_law_kept","_law_answer","e"] λ_=> ?_
 kd_all
 refine z39 (i:=5) (k:=3) (ok:=okX) (by rfl) (by rfl) nd (by rfl) (by rfl) (by rfl) (by rfl) (by decide) (by rfl) xq.m_WorthError (by rw[hy];exact xq.e_WorthError) (λE' pn xe hp=> ?_)
 repeat' gp_on
theorem ok_t {j:Nat}(hj:0<=j)(_:qP Z "_law_places" 1 j c_t):qP Z "_law_places" 1 (j+1) (oP 3 (b_t c_t)):=by
 refine okP tx.C_t ["_law_thing","_law_made","_law_k"] λ_=> ?_
 kd_all
theorem z4x:qP Z "_law_at" 2 1 (oP 3 z21):=by
 refine okP tx.C_19 ["_law_thing","_law_place","_law_k"] λ_=> ?_
 kd_all
theorem ok_9 {j:Nat}(hj:0<=j)(_:qP Z "_law_put" 3 j c_9):qP Z "_law_put" 3 (j+1) (oP 4 (b_9 c_9)):=by
 refine okP tx.C_9 ["_law_thing","_law_place","_law_new","_law_k"] λ_=> ?_
 kd_all
theorem z4y (_:qP Z "_law_pick" 3 2 c_2)(_:qP Z "_law_places" 1 40 c_t)(_:qP Z "_law_at" 2 1 c_19)(_:qP Z "_law_put" 3 40 c_9):qP Z "_law_spoilt_thing" 3 41 (oP 9 (z22 c_2 c_t c_19 c_9)):=by
 refine okP tx.C_15 ["_law_script","_law_at_here","_law_thing","_law_places_here","_law_place","_law_here","_law_some","_law_way","_law_k"] λ_=> ?_
 kd_all
theorem z4z:qP Z "_law_whole" 3 1 (oP 3 b_11):=by
 refine okP tx.C_11 ["_law_thing","_law_low","_law_high"] λ_=> ?_
 kd_all
theorem z4A:qP Z "_law_is_word" 1 1 (oP 1 z23):=by
 refine okP tx.C_13 ["_law_thing"] λ_=> ?_
 kd_all
theorem ok_g {j:Nat}(hj:1<=j)(_:qP Z "_law_whole" 3 1 c_11)(_:qP Z "_law_is_word" 1 1 c_13)(_:qP Z "_law_is_kind" 2 j c_g):qP Z "_law_is_kind" 2 (j+1) (oP 6 (b_g c_11 c_13 c_g)):=by
 refine okP tx.C_g ["_law_thing","_law_deep","_law_word_here","_law_rest","_law_some","_law_words"] λ_=> ?_
 kd_all
theorem ok_0 {f:Addr}{fd:FuncData}(C:Fn Z.K Z.mg "law" (top 84) ["_law_script"] f fd)(_:qP Z "_law_all" 1 9 c_4)(_:qP Z "_law_small" 3 18 c_1d)(_:qP Z "_law_is_kind" 2 13 c_g)(_:qP Z "_law_spoilt_thing" 3 41 c_15)(_:qP Z "_law_tried" 3 44 c_q)(_:qX Z "share_of" 2 41 c_5)(_:qP Z "_law_rule" 3 10 c_s)(_:qP Z "_law_keeps" 2 16 c_e)(_:qX Z "keepers" 2 42 c_7)(_:qX Z "share_keeping" 2 43 c_p)(_:qP Z "_law_plus" 2 1 c_12):ww Z.P Z.w Z.K Z.mg Z.base (CX1 Z.P Z.w) 45 f fd ["_law_script"] (spP Z.cl 1 (oP 14 (b_0 c_4 c_1d c_g c_15 c_q c_5 c_s c_e c_7 c_p c_12))):=by
 refine okLX C ["_law_script","_law_kind_here","_law_one","_law_other","_law_rule_here","_law_due","_law_total","_law_worth","_law_some","_law_first","_law_last","_law_great","_law_bad","_law_odd"] ?_
 kd_all
end
section
variable {Z:Zz}(tx:Tx Z.K Z.mg)(xq:Tq Z.K Z.mg Z.base Z.cl)
include tx xq
theorem z1p {f:Addr}{fd:FuncData}(C:Fn Z.K Z.mg "law" (top 84) ["_law_script"] f fd):ww Z.P Z.w Z.K Z.mg Z.base (CX1 Z.P Z.w) 45 f fd ["_law_script"] (spP Z.cl 1 f_0):=by
 have O_1n:qP Z "_law_cell" 2 1 z0l:=z45 tx xq;have O_2:qP Z "_law_pick" 3 2 f_2:=ok_2 tx xq O_1n;have O_17:qP Z "_law_word_of" 2 3 gq:=z46 tx xq O_2;have O_1a:qP Z "_law_leaf_kind" 2 4 z0m:=z47 tx xq O_2 O_17;have R_k:∀n:Nat,qP Z "_law_kind" 3 (4+n) (S_k n 0):=by
  intro n
  induction n with
  | zero=>exact okB tx.C_k
  | succ n ih=>exact ok_k tx xq (aD _ _) O_2 O_1a ih
 have O_k:qP Z "_law_kind" 3 12 (f_k 8):=(R_k 8);have O_m:qP Z "_law_rows_of" 1 1 f_m:=ok_m tx xq;have R_4:∀n:Nat,qP Z "_law_all" 1 (1+n) (S_4 n 0):=by
  intro n
  induction n with
  | zero=>exact okB tx.C_4
  | succ n ih=>exact ok_4 tx xq (aD _ _) ih O_m
 have O_4:qP Z "_law_all" 1 9 (f_4 8):=(R_4 8);have R_i:∀n:Nat,qP Z "_law_size" 1 (9+n) (S_i n 0):=by
  intro n
  induction n with
  | zero=>exact okB tx.C_i
  | succ n ih=>exact ok_i tx xq (aD _ _) O_4 ih
 have O_i:qP Z "_law_size" 1 17 (f_i 8):=(R_i 8);have O_1d:qP Z "_law_small" 3 18 z0n:=z48 tx xq O_k O_i;have R_s:∀n:Nat,qP Z "_law_rule" 3 (2+n) (S_s n 0):=by
  intro n
  induction n with
  | zero=>exact okB tx.C_s
  | succ n ih=>exact ok_s tx xq (aD _ _) O_2 ih
 have O_s:qP Z "_law_rule" 3 10 (f_s 8):=(R_s 8);have R_u:∀n:Nat,qP Z "_law_leaves" 1 (0+n) (S_u n 0):=by
  intro n
  induction n with
  | zero=>exact okB tx.C_u
  | succ n ih=>exact ok_u tx xq (aD _ _) ih
 have O_u:qP Z "_law_leaves" 1 8 (f_u 8):=(R_u 8);have R_e:∀n:Nat,qP Z "_law_keeps" 2 (8+n) (S_e n 0):=by
  intro n
  induction n with
  | zero=>exact okB tx.C_e
  | succ n ih=>exact ok_e tx xq (aD _ _) O_u ih
 have O_e:qP Z "_law_keeps" 2 16 (f_e 8):=(R_e 8);have O_12:qP Z "_law_plus" 2 1 X2:=z49 tx xq;have O_d:qP Z "is_whole" 1 1 f_d:=ok_d tx xq;have O_1p:qP Z "is_span" 4 2 z1J:=z4a tx xq O_d;have O_h:qP Z "is_tuple_of" 3 1 f_h:=ok_h tx xq;have O_6:qP Z "is_word" 1 1 f_6:=ok_6 tx xq;have O_1e:qP Z "is_choice" 1 2 z0o:=z4b tx xq O_d O_h O_6;have O_1c:qP Z "are_choices" 1 3 z0p:=z4c tx xq O_h O_1e;have R_b:∀n:Nat,qP Z "is_kind_within" 2 (3+n) (S_b n 0)/\qP Z "are_kinds_within" 2 (3+n) (S_b n 1):=by
  intro n
  induction n with
  | zero=>exact⟨okB tx.C_b,okB tx.C_1v⟩
  | succ n ih=>exact⟨ok_b tx xq (aD _ _) O_1p ih.1 O_1c ih.2,z4d tx xq (aD _ _) O_h ih.1⟩
 have O_b:qP Z "is_kind_within" 2 23 (f_b 20):=(R_b 20).1;have O_1v:qP Z "are_kinds_within" 2 23 (f_1v 20):=(R_b 20).2;have O_1:qP Z "is_kind" 1 24 f_1:=ok_1 tx xq O_b;have O_z:qX Z "need_kind" 1 25 f_z:=ok_z tx xq O_1;have O_w:qP Z "words_of_pick" 1 1 f_w:=ok_w tx xq;have R_f:∀n:Nat,qP Z "has_worth" 2 (1+n) (S_f n 0)/\qP Z "have_parts" 2 (1+n) (S_f n 1):=by
  intro n
  induction n with
  | zero=>exact⟨okB tx.C_f,okB tx.C_1t⟩
  | succ n ih=>exact⟨ok_f tx xq (aD _ _) O_d O_h O_w ih.2,z4e tx xq (aD _ _) ih.1⟩
 have O_f:qP Z "has_worth" 2 21 (f_f 20):=(R_f 20).1;have O_1t:qP Z "have_parts" 2 21 (f_1t 20):=(R_f 20).2;have O_1g:qX Z "is_worth" 2 26 z0q:=z4f tx xq O_z O_f;have O_1j:qX Z "need_worth" 2 27 z1Q:=z4g tx xq O_1g;have R_3:∀n:Nat,qP Z "count_of" 1 (0+n) (S_3 n 0)/\qP Z "count_of_parts" 1 (0+n) (S_3 n 1)/\qP Z "count_shorter" 2 (0+n) (S_3 n 2):=by
  intro n
  induction n with
  | zero=>exact⟨okB tx.C_3,okB tx.C_16,okB tx.C_y⟩
  | succ n ih=>exact⟨ok_3 tx xq (aD _ _) ih.2.1 ih.2.2,z4h tx xq (aD _ _) ih.1,ok_y tx xq (aD _ _) ih.2.1⟩
 have O_3:qP Z "count_of" 1 20 (f_3 20):=(R_3 20).1;have O_16:qP Z "count_of_parts" 1 20 (f_16 20):=(R_3 20).2.1;have O_y:qP Z "count_shorter" 2 20 (f_y 20):=(R_3 20).2.2;have O_1h:qP Z "greatest_divisor" 2 1 z1S:=z4i tx xq;have O_x:qP Z "fraction" 2 2 f_x:=ok_x tx xq O_1h;have O_1i:qP Z "share_of_word" 2 3 z1U:=z4j tx xq O_x;have O_10:qP Z "times" 2 3 X3:=z4k tx xq O_x;have R_8:∀n:Nat,qP Z "share_within" 2 (20+n) (S_8 n 0)/\qP Z "share_of_parts" 2 (20+n) (S_8 n 1):=by
  intro n
  induction n with
  | zero=>exact⟨okB tx.C_8,okB tx.C_1m⟩
  | succ n ih=>exact⟨ok_8 tx xq (aD _ _) O_3 O_10 O_1i ih.2,z4l tx xq (aD _ _) O_10 ih.1⟩
 have O_8:qP Z "share_within" 2 40 (f_8 20):=(R_8 20).1;have O_1m:qP Z "share_of_parts" 2 40 (f_1m 20):=(R_8 20).2;have O_5:qX Z "share_of" 2 41 f_5:=ok_5 tx xq O_1j O_8;have O_1l:qP Z "is_bound" 1 2 z1W:=z4m tx xq O_d;have R_v:∀n:Nat,qP Z "is_rule_within" 2 (2+n) (S_v n 0):=by
  intro n
  induction n with
  | zero=>exact okB tx.C_v
  | succ n ih=>exact ok_v tx xq (aD _ _) O_6 ih O_1l
 have O_v:qP Z "is_rule_within" 2 10 (f_v 8):=(R_v 8);have O_c:qP Z "is_rule" 1 11 f_c:=ok_c tx xq O_v;have O_1f:qX Z "need_rule" 1 12 z0t:=z4n tx xq O_c;have R_j:∀n:Nat,qP Z "worth_at" 2 (20+n) (S_j n 0)/\qP Z "many_at" 2 (20+n) (S_j n 1)/\qP Z "parts_at" 2 (20+n) (S_j n 2):=by
  intro n
  induction n with
  | zero=>exact⟨okB tx.C_j,okB tx.C_1u,okB tx.C_18⟩
  | succ n ih=>exact⟨ok_j tx xq (aD _ _) O_w ih.2.1 ih.2.2,z4o tx xq (aD _ _) O_y ih.2.2,z4p tx xq (aD _ _) O_3 ih.1⟩
 have O_j:qP Z "worth_at" 2 40 (f_j 20):=(R_j 20).1;have O_1u:qP Z "many_at" 2 40 (f_1u 20):=(R_j 20).2.1;have O_18:qP Z "parts_at" 2 40 (f_18 20):=(R_j 20).2.2;have O_14:qX Z "all_worths" 1 41 gr:=z4q tx xq O_z O_3 O_j;have R_r:∀n:Nat,qP Z "leaves_of" 1 (0+n) (S_r n 0):=by
  intro n
  induction n with
  | zero=>exact okB tx.C_r
  | succ n ih=>exact ok_r tx xq (aD _ _) ih
 have O_r:qP Z "leaves_of" 1 8 (f_r 8):=(R_r 8);have O_1k:qP Z "numbers_in" 1 9 z1Y:=z4r tx xq O_d O_r;have O_1o:qP Z "parts_of" 1 1 z1Z:=z4s tx xq;have O_1r:qP Z "are_rising" 1 1 z3u:=z4t tx xq;have O_1s:qP Z "are_unlike" 1 1 z3w:=z4u tx xq;have O_1b:qP Z "is_single_kept" 2 10 z0w:=z4v tx xq O_1o O_r O_1k O_1r O_1s;have R_o:∀n:Nat,qP Z "is_kept" 2 (10+n) (S_o n 0):=by
  intro n
  induction n with
  | zero=>exact okB tx.C_o
  | succ n ih=>exact ok_o tx xq (aD _ _) ih O_1b
 have O_o:qP Z "is_kept" 2 18 (f_o 8):=(R_o 8);have O_7:qX Z "keepers" 2 42 f_7:=ok_7 tx xq O_14 O_1f O_o;have O_a:qP Z "plus" 2 3 f_a:=ok_a tx xq O_x;have O_n:qP Z "together" 1 4 f_n:=ok_n tx xq O_a;have O_1q:qP Z "shares_together" 2 41 z3y:=z4w tx xq O_n O_8;have O_p:qX Z "share_keeping" 2 43 f_p:=ok_p tx xq O_1q O_7;have O_l:qC Z "_law_word" 1 f_l:=ok_l tx xq;have O_q:qP Z "_law_tried" 3 44 f_q:=ok_q tx xq O_l O_7 O_p;have R_t:∀n:Nat,qP Z "_law_places" 1 (0+n) (S_t n 0):=by
  intro n
  induction n with
  | zero=>exact okB tx.C_t
  | succ n ih=>exact ok_t tx xq (aD _ _) ih
 have O_t:qP Z "_law_places" 1 40 (f_t 40):=(R_t 40);have O_19:qP Z "_law_at" 2 1 gu:=z4x tx xq;have R_9:∀n:Nat,qP Z "_law_put" 3 (0+n) (S_9 n 0):=by
  intro n
  induction n with
  | zero=>exact okB tx.C_9
  | succ n ih=>exact ok_9 tx xq (aD _ _) ih
 have O_9:qP Z "_law_put" 3 40 (f_9 40):=(R_9 40);have O_15:qP Z "_law_spoilt_thing" 3 41 gv:=z4y tx xq O_2 O_t O_19 O_9;have O_11:qP Z "_law_whole" 3 1 vM:=z4z tx xq;have O_13:qP Z "_law_is_word" 1 1 vN:=z4A tx xq;have R_g:∀n:Nat,qP Z "_law_is_kind" 2 (1+n) (S_g n 0):=by
  intro n
  induction n with
  | zero=>exact okB tx.C_g
  | succ n ih=>exact ok_g tx xq (aD _ _) O_11 O_13 ih
 have O_g:qP Z "_law_is_kind" 2 13 (f_g 12):=(R_g 12);exact ok_0 tx xq C O_4 O_1d O_g O_15 O_q O_5 O_s O_e O_7 O_p O_12
end
noncomputable def Xw:List Str:=["NoKind","NoWorth","NoRule","TooMany","Ended","NoText","NoBack"]
noncomputable def clK (K:ae)(c:Nat):Value:=match bY K mainGlobals (Xw.getD c "") with
 | some (some v)=>v
 | _=> .none
theorem yE {K:ae}{c:Nat}{x:Str}{q:Addr}(hx:(Xw.getD c "")=x)(h:bY K mainGlobals x=some (some (.ref q))):clK K c= .ref q:=by unfold clK;rw[hx,h]
noncomputable def z4B:List Nat:=[0,1,2,3,4,5]
def vQ (p:Nat->Bool):Bool:=z4B.all p
theorem z1q {c:Nat}(h:okX c=true):c∈z4B:=by
 have h:c < 6:=of_decide_eq_true h;unfold z4B;simp;omega
theorem j4 {p:Nat->Bool}(h:vQ p=true){c:Nat}(hc:okX c=true):p c=true:=aJ.mp h c (z1q hc)
noncomputable def KZ (K:ae)(v:Value):Bool:=match v with
 | .ref C=>dC K (.ref C) "__getattribute__" == some (some (.builtin "BaseException.__getattribute__")) && (dC K (.ref C) "__getattr__" == some none && (dC K (.ref C) "__class__" == some (some (.builtin "object.__class__")) && (ik K (.builtin "object.__class__") "__get__" == some (some (.builtin "getset_descriptor.__get__")) && (l6 K (.builtin "object.__class__") == some true && (hV K C (.type "object") == some true && (hV K C (.type "BaseException") == some true && (PySem.W.clsIn K C).isSome))))))
 | _=>false
theorem xx {K:ae}{v:Value}(h:KZ K v=true):∃C,v= .ref C/\PySem.W.XCls K C:=by
 unfold KZ at h;split at h
 ·rename_i C;simp only[ac,beq_iff_eq]at h;obtain⟨h1,h2,h3,h4,h5,h6,h7,h8⟩:=h;exact⟨C,rfl,h1,h2,h3,h4,h5,h6,h7,h8⟩
 ·cases h
theorem yF {K:ae}{base:Heap}{mg:Str->Option Value}{x:Str}{C:Addr}{bmB:List Value}{newId:String}(KB:K.In base)(hb:mg x=some (.ref C))(h:dq K C bmB newId=true):OwnCls x C bmB newId mg base:=by
 unfold dq at h;split at h
 ·rename_i dd cd sl hC;split at h
  ·rename_i C1 bm a0 a1 a2 a3 m a5 hm hs;simp only[ac,beq_iff_eq,iC]at h;obtain⟨⟨⟨⟨⟨h1,h2⟩,h3⟩,h4⟩,h5⟩,h6⟩:=h;subst h1 h2;cases cd with
   | mk nm bs mro ns qn hd sn sub ab col del=>
    dsimp only at hm h3 h5 h6;subst hm h3;obtain rfl:sl= #[a0,a1,a2,a3,some (.builtin m),a5]:=by
     cases sl;simp only at hs;rw[hs]
    exact⟨hb,bm,ns,nm,qn,bs,hd,sn,sub,ab,col,dd,a0,a1,a2,a3,a5,_,KB _ _ hC,.of_isNs (PySem.W.isNs_of_in KB h5),PySem.W.nsMap_none_of_in KB h5 h6,PySem.W.tail_of_in KB h4⟩
  ·cases h
 ·cases h
theorem lz1 {fd:FuncData}{p0:Str}(us:List Value)(hl:us.length=1)(h:∀a0,bindArgs fd ⟨[a0],[]⟩=pure ([p0].zip [a0])):bindArgs fd ⟨us,[]⟩=pure ([p0].zip us):=match us,hl with | [a0],_=>h a0
theorem lz2 {fd:FuncData}{p0 p1:Str}(us:List Value)(hl:us.length=2)(h:∀a0 a1,bindArgs fd ⟨[a0,a1],[]⟩=pure ([p0,p1].zip [a0,a1])):bindArgs fd ⟨us,[]⟩=pure ([p0,p1].zip us):=match us,hl with | [a0,a1],_=>h a0 a1
theorem lz3 {fd:FuncData}{p0 p1 p2:Str}(us:List Value)(hl:us.length=3)(h:∀a0 a1 a2,bindArgs fd ⟨[a0,a1,a2],[]⟩=pure ([p0,p1,p2].zip [a0,a1,a2])):bindArgs fd ⟨us,[]⟩=pure ([p0,p1,p2].zip us):=match us,hl with | [a0,a1,a2],_=>h a0 a1 a2
theorem lz4 {fd:FuncData}{p0 p1 p2 p3:Str}(us:List Value)(hl:us.length=4)(h:∀a0 a1 a2 a3,bindArgs fd ⟨[a0,a1,a2,a3],[]⟩=pure ([p0,p1,p2,p3].zip [a0,a1,a2,a3])):bindArgs fd ⟨us,[]⟩=pure ([p0,p1,p2,p3].zip us):=match us,hl with | [a0,a1,a2,a3],_=>h a0 a1 a2 a3
theorem fn1 {K:ae}{h:Heap}{mg:Str->Option Value}{f:Addr}{od an:Option Addr}{sl:Array (Option Value)}{oc kV dc pm cd ct:Value}{x:Str}{st:Stmt}{ps:List Str}(X:K.In h)(G:h.Ns mainGlobals mg)(e:bY K mainGlobals x=some (some (.ref f)))(l:K.lookup f=some ⟨oc,od,.func (cg x x (jd st) (Z4 st) (zj st) .none kV dc pm an cd ct),sl⟩)(g:eA K cd x=true)(k:bZ K (.ref f)=true)
  (hb:∀F:Fun K x x st f (cg x x (jd st) (Z4 st) (zj st) .none kV dc pm an cd ct),L2.Binds K (cg x x (jd st) (Z4 st) (zj st) .none kV dc pm an cd ct) ps []):Fn K mg x st ps f (cg x x (jd st) (Z4 st) (zj st) .none kV dc pm an cd ct):=
 have F:=Ga (st:=st) l g k
 ⟨F,hb F,bN X G e⟩
theorem zs_of {K:ae}{h:Heap}{mg:Str->Option Value}{zs:List Str}(X:K.In h)(G:h.Ns mainGlobals mg)(hz:(zs.all λx=>bY K mainGlobals x == some none)=true):∀x,zs.contains x=true->mg x=none:=λx hx=>PySem.W.mg_none_of X G (beq_iff_eq.mp (aJ.mp hz x (List.contains_iff_mem.mp hx)))
noncomputable abbrev Tx' {K:ae}{h:Heap}(_:K.In h)(mg:Str->Option Value):Prop:=Tx K mg
theorem fin_ {l:PySem.W.OpenLaw}{w:World}{K:ae}{h:Heap}{mg:Str->Option Value}{fa:Addr}(X:K.In h)(G:h.Ns mainGlobals mg)(hfa:mg "law"=some (.ref fa))(tx:Tx K mg){q_Ended q_NoKind q_NoRule q_NoText q_NoWorth q_TooMany q_WorthError:Addr}(n_Ended:bY K mainGlobals "Ended"=some (some (.ref q_Ended)))(n_NoKind:bY K mainGlobals "NoKind"=some (some (.ref q_NoKind)))(n_NoRule:bY K mainGlobals "NoRule"=some (some (.ref q_NoRule)))(n_NoText:bY K mainGlobals "NoText"=some (some (.ref q_NoText)))(n_NoWorth:bY K mainGlobals "NoWorth"=some (some (.ref q_NoWorth)))(n_TooMany:bY K mainGlobals "TooMany"=some (some (.ref q_TooMany)))(n_WorthError:bY K mainGlobals "WorthError"=some (some (.ref q_WorthError)))(b_K:vQ (λc=>KZ K (clK K c))=true)(b_e_WorthError:vQ (λc=>PySem.W.exmOne K (clK K c) (.ref q_WorthError) == some true)=true)(b_o_NoKind:dq K q_NoKind Xv "ValueError.__new__"=true)(b_o_NoRule:dq K q_NoRule Xv "ValueError.__new__"=true)(b_o_NoWorth:dq K q_NoWorth Xv "ValueError.__new__"=true)(b_o_TooMany:dq K q_TooMany Xv "ValueError.__new__"=true)(b_t_Ended:vQ (λc=>aQ K (clK K c) (.ref q_Ended) == some (JZ c))=true)(b_t_NoKind:vQ (λc=>aQ K (clK K c) (.ref q_NoKind) == some (J7 c))=true)(b_t_NoRule:vQ (λc=>aQ K (clK K c) (.ref q_NoRule) == some (J8 c))=true)(b_t_NoText:vQ (λc=>aQ K (clK K c) (.ref q_NoText) == some (J9 c))=true)(b_t_NoWorth:vQ (λc=>aQ K (clK K c) (.ref q_NoWorth) == some (jD c))=true)(b_t_TooMany:vQ (λc=>aQ K (clK K c) (.ref q_TooMany) == some (jE c))=true)(b_t_ValueError:vQ (λc=>aQ K (clK K c) (.type "ValueError") == some (ZR c))=true):∃fd:FuncData,(∀(s:Shared) (v:Value),BindsTo s fd ⟨[v],[]⟩ [("_law_script",v)])/\∀base:Heap,K.In base->base.Ns mainGlobals mg->ww l.prog w K mg base (CX1 l.prog w) 45 fa fd ["_law_script"] (spP (clK K) 1 f_0):=by
 obtain⟨f,fd,C⟩:=tx.C_0;have e:=hfa.symm.trans C.m;cases e;obtain⟨oc,od,kV,doc,pm,an,cdv,ct,osl,rfl,lk,hcd⟩:=C.F.ex;exact⟨_,λs v=> .of_eq rfl,λbase KB _=>z1p (Z:=⟨l.prog,w,K,mg,base,(clK K)⟩) tx ⟨q_Ended,q_NoKind,q_NoRule,q_NoText,q_NoWorth,q_TooMany,q_WorthError,⟨λc hc=>xx (j4 b_K hc)⟩,(λc hc=>beq_iff_eq.mp (j4 b_e_WorthError hc)),(yE (x:="NoKind") rfl n_NoKind),(yE (x:="NoRule") rfl n_NoRule),(yE (x:="NoWorth") rfl n_NoWorth),(yE (x:="TooMany") rfl n_TooMany),(bN X G n_Ended),(bN X G n_NoKind),(bN X G n_NoRule),(bN X G n_NoText),(bN X G n_NoWorth),(bN X G n_TooMany),(bN X G n_WorthError),(yF KB (bN X G n_NoKind) b_o_NoKind),(yF KB (bN X G n_NoRule) b_o_NoRule),(yF KB (bN X G n_NoWorth) b_o_NoWorth),(yF KB (bN X G n_TooMany) b_o_TooMany),(λc hc=>beq_iff_eq.mp (j4 b_t_Ended hc)),(λc hc=>beq_iff_eq.mp (j4 b_t_NoKind hc)),(λc hc=>beq_iff_eq.mp (j4 b_t_NoRule hc)),(λc hc=>beq_iff_eq.mp (j4 b_t_NoText hc)),(λc hc=>beq_iff_eq.mp (j4 b_t_NoWorth hc)),(λc hc=>beq_iff_eq.mp (j4 b_t_TooMany hc)),(λc hc=>beq_iff_eq.mp (j4 b_t_ValueError hc))⟩ C⟩
def Uy (K:ae):Bool:=K.all λp=> !(p.2.cls == Value.type "list")
theorem g6 {K:ae}(h:Uy K=true){a:Addr}{o:Obj}(e:K.lookup a=some o)(c:o.cls=Value.type "list"):False:=by
 have hm:(a,o)∈K:=by
  clear h
  induction K with
  | nil=>cases e
  | cons p r ih=>
   obtain⟨b,u⟩:=p
   by_cases hb:a=b
   ·subst hb;have e' :some u=some o:=by simpa[aK] using e
    cases e';exact a9
   ·have e' :r.lookup a=some o:=by rw[aK,(beq_eq_false_iff_ne.mpr hb)]at e;exact e
    exact a8 _ (ih e')
 have:=aJ.mp h _ hm;rw[c]at this;simp at this
theorem z1r {cl:Nat->Value}{K:ae}{H:Hp}{a:Addr}{ns:List Int}(hL:f_0 [.fz (ns.map T.int)]= .ok (.bl true))(hK:Uy K=true)(hO:z1v H)(hS:SqL K H a (ns.map V.int)):spP cl 1 f_0 [.ref a] H (λv _=>v= .bl true) λ_ _ _=>False:=by
 have scrR:∀ns:List Int,zC H (ns.map V.int) (ns.map T.int):=λns=>by
  induction ns with
  | nil=>exact .nil
  | cons n r ih=>exact .cons (.int n) ih
 rcases hS with (h | ⟨o,h⟩) | ⟨o,its,n,e,c,_⟩
 ·rcases hO a with z | ⟨ob,xs,z⟩ <;> (rw[h]at z;cases z)
 ·refine⟨H,[.fz (ns.map T.int)],rfl,zt.refl H,.cons (.fz h (scrR ns)) .nil, ?_⟩;rw[hL];intro v H' _ r;cases r;rfl
 ·exact(g6 hK e c).elim
theorem walk {l:PySem.W.OpenLaw}{q:Program}{loose:List Str}{XP:(Str->Option Value)->Heap->Prop}{YP:World->Heap->Prop}{d:DefRec}{K:Params->ae}(hn:l.most=some 63)(hdf:d.params.defaults=[])
  (hL:∀ns:List Int,ns.length<=63->f_0 [.fz (ns.map T.int)]= .ok (.bl true)) (hK:∀p,Uy (K p)=true)
  (hY:∀(w:World) (h:Heap),YP w h->(K w.params).In h)
  (F:∀(w:World) (mg:Str->Option Value) (fa:Addr) (h:Heap),(K w.params).In h->h.Ns mainGlobals mg->mg d.name=some (.ref fa)->
   ∃fd:FuncData,(∀(s:Shared) (u:Value),BindsTo s fd ⟨[u],[]⟩ [("_law_script",u)])/\∀base:Heap,(K w.params).In base->base.Ns mainGlobals mg->ww l.prog w (K w.params) mg base (CX1 l.prog w) 45 fa fd ["_law_script"] (spP (clK (K w.params)) 1 f_0)):
  PySem.W.WalkO q loose XP YP l.row.toRowW d [] (λf vs=>li f vs):=
 L2.walk_of (n:=63) (k:=45) (x:="_law_script") (CX:=λw=>(CX1 l.prog w)) (sp:=λw=>spP (clK (K w.params)) 1 f_0) hn (by decide) hdf ⟨rfl,by decide,by decide,rfl⟩ hY F (λw H a ns hl hO hS=>z1r (hL ns hl) (hK w.params) hO hS) λ_ _ _ _ _ ⟨_,_,_,_,_,_,_,z⟩=>z
end G
namespace PySem.W.Fast
noncomputable def tw8447669355352147286:=0
noncomputable def tw14466274551938304097:=0
noncomputable def tw3019679027369314696:=0
noncomputable def tw11921254706343725868:=0
noncomputable def tw2373230648180271900:=0
noncomputable def tw4566236020447147530:=0
noncomputable def tw16368171687470355174:=0
noncomputable def tw8629352094769763012:=0
noncomputable def tw1263660498807943034:=0
noncomputable def tw539647039086662045:=0
noncomputable def tw7010868859063590889:=0
noncomputable def tw13812015277155064866:=0
noncomputable def tw7918491504395854651:=0
noncomputable def tw10292470913335303372:=0
noncomputable def tw8996562437492981605:=0
noncomputable def tw777053820125217387:=0
noncomputable def tw11076147756705505455:=0
noncomputable def tw4598286700714077254:=0
noncomputable def tw11789898169805507067:=0
noncomputable def tw6660297885311031425:=0
noncomputable def tw5616771850786703047:=0
noncomputable def tw243011761377831981:=0
noncomputable def tw2664731472731482933:=0
noncomputable def tw6677279530151395222:=0
noncomputable def tw8377935511399230891:=0
noncomputable def tw12620146491984551396:=0
noncomputable def tw7286305240289082628:=0
noncomputable def tw11927850490406237237:=0
noncomputable def tw3775690035368141598:=0
noncomputable def tw4620261556231311298:=0
noncomputable def tw18190106428412261110:=0
noncomputable def tw17017174532188131817:=0
noncomputable def tw6699780151084046271:=0
noncomputable def tw12272269822452919322:=0
noncomputable def tw7231777399869268799:=0
noncomputable def tw5581355334219419164:=0
noncomputable def tw16338048251043388679:=0
noncomputable def tw2336896390716789240:=0
noncomputable def tw3161273746900706930:=0
noncomputable def tw14399965082037888929:=0
noncomputable def tw6104062290035146079:=0
noncomputable def tw7148212059807920848:=0
noncomputable def tw8600619230576897330:=0
noncomputable def tw12501565674832899039:=0
noncomputable def tw10260930763623783002:=0
noncomputable def tw7016239067234369819:=0
noncomputable def tw16243320746160913809:=0
noncomputable def tw1527085932195243057:=0
noncomputable def tw2411627585106168907:=0
noncomputable def tw7024922682010880401:=0
noncomputable def tw16757294705865159042:=0
noncomputable def tw13149410914012260035:=0
noncomputable def tw740234654525846671:=0
noncomputable def tw16680656440022381528:=0
noncomputable def tw3540311128345388165:=0
noncomputable def tw1537094804298032716:=0
noncomputable def tw247527793249896533:=0
noncomputable def tw18120497301715653703:=0
noncomputable def tw12756541026315512594:=0
noncomputable def tw4285243055908846176:=0
noncomputable def tw17078010376931580049:=0
noncomputable def tw9212438938469666766:=0
noncomputable def tw16326606034833482995:=0
noncomputable def tw5199958032063595448:=0
noncomputable def tw14830997604984243069:=0
noncomputable def tw7055676947270930340:=0
noncomputable def tw17811738882268113789:=0
noncomputable def tw11324188730750475116:=0
noncomputable def tw12168026705501027675:=0
noncomputable def tw17722383068064007286:=0
noncomputable def tw6901616753937936287:=0
noncomputable def tw2483154127275227170:=0
noncomputable def tw17001225391890365943:=0
noncomputable def tw3093378669257674503:=0
noncomputable def tw8398746003754988254:=0
noncomputable def tw9985497795570121174:=0
noncomputable def tw5335667783734329086:=0
noncomputable def tw11933722309751709377:=0
noncomputable def tw15832983549121048129:=0
noncomputable def tw4656583996687528916:=0
noncomputable def tw3812435402236169951:=0
noncomputable def tw3112096506103538392:=0
noncomputable def tw12796189220194512442:=0
noncomputable def tw13618471800695995348:=0
noncomputable def tw13799541298877276498:=0
noncomputable def tw15563008139666074557:=0
noncomputable def tw13834904682807578572:=0
noncomputable def tw715383051524692540:=0
noncomputable def tw11093257418966541793:=0
noncomputable def tw1943203943721205062:=0
noncomputable def tw8992253109677663790:=0
noncomputable def tw17581125836595266662:=0
noncomputable def tw15288367696710605822:=0
noncomputable def tw1271455577381243044:=0
noncomputable def tw914359416103776149:=0
noncomputable def tw11539062546024170007:=0
noncomputable def tw8978327332630741438:=0
noncomputable def tw5406721116323218350:=0
noncomputable def tw6719892378971391664:=0
noncomputable def tw17900321793835932050:=0
noncomputable def tw16254880353673533022:=0
noncomputable def tw18353833052129567263:=0
noncomputable def tw13625040979139529405:=0
noncomputable def tw16273980325752676178:=0
noncomputable def tw6588383368725954364:=0
noncomputable def tw1420087936075286025:=0
noncomputable def tw1673810933359191634:=0
noncomputable def tw1361738217693547026:=0
noncomputable def tw2138850843428883638:=0
noncomputable def tw17441222636924449911:=0
noncomputable def tw16612635789660026239:=0
noncomputable def tw574248489787698466:=0
noncomputable def tw15505748505740005331:=0
noncomputable def tw7348829865875860716:=0
noncomputable def tw11695163993067729356:=0
noncomputable def tw9315561977418734825:=0
noncomputable def tw3611294432253854302:=0
noncomputable def tw17744497343424185409:=0
noncomputable def tw11597658980680730125:=0
noncomputable def tw17037275637345855645:=0
noncomputable def tw13158475390891505469:=0
noncomputable def tw6322300753936330019:=0
noncomputable def tw17229001713546707714:=0
noncomputable def tw14095377307602958397:=0
noncomputable def tw11355726263281477982:=0
noncomputable def tw12098672498321307878:=0
noncomputable def tw7143453021566203334:=0
noncomputable def tw5936295060464031279:=0
noncomputable def tw3101172652618238145:=0
noncomputable def tw5800792961603187287:=0
noncomputable def tw16482695217183916733:=0
noncomputable def tw4331473276953218711:=0
noncomputable def tw12781769540919021704:=0
noncomputable def tw544680167391032422:=0
noncomputable def tw6992851031377201871:=0
noncomputable def tw16965647212233990970:=0
noncomputable def tw15619826941123793669:=0
noncomputable def tw5274492395118556529:=0
noncomputable def tw8890044119485008446:=0
noncomputable def tw3359041709440302597:=0
noncomputable def tw8733848965821234559:=0
noncomputable def tw848022398039596056:=0
noncomputable def tw6077994424629095381:=0
noncomputable def tw6142979695026442721:=0
noncomputable def tw15848154548833018691:=0
noncomputable def tw8705584509578599599:=0
noncomputable def tw5890693468531439515:=0
noncomputable def tw6337739660040121163:=0
noncomputable def tw15079162950185325134:=0
noncomputable def tw18206960844254734520:=0
noncomputable def tw3123920423287625431:=0
noncomputable def tw8305278257482957790:=0
noncomputable def tw7512395734908137548:=0
noncomputable def tw14090351962387671584:=0
noncomputable def tw12778103815570970185:=0
noncomputable def tw5948242178005965531:=0
noncomputable def tw12991257754117212559:=0
noncomputable def tw7355608245975096205:=0
noncomputable def tw4223724172631775113:=0
noncomputable def tw16629415334602335510:=0
noncomputable def tw5301910398096537562:=0
noncomputable def tw3075839649438854873:=0
noncomputable def tw4299991700620639084:=0
noncomputable def tw3108324655708084023:=0
noncomputable def tw7563386694887448223:=0
noncomputable def tw11258469805946063185:=0
noncomputable def tw17830840661598724317:=0
noncomputable def tw6484321047491342809:=0
noncomputable def tw12597694335438791407:=0
noncomputable def tw11735730256593854946:=0
noncomputable def tw15962979360072968626:=0
noncomputable def tw4965113676478703845:=0
noncomputable def tw6436132588475904549:=0
noncomputable def tw11252038769088572817:=0
noncomputable def tw1142199665554745116:=0
noncomputable def tw10556744915756278312:=0
noncomputable def tw7387833927788551596:=0
noncomputable def tw6905713169148950208:=0
noncomputable def tw15457802268787987441:=0
noncomputable def tw1751720478999482471:=0
noncomputable def tw1928711491572277045:=0
noncomputable def tw15807545777518513535:=0
noncomputable def tw5237455386680538590:=0
noncomputable def tw4733678772183441757:=0
noncomputable def tw6238645609384736740:=0
noncomputable def tw16222950633882383917:=0
noncomputable def tw17950480130310508086:=0
noncomputable def tw1566336330050571109:=0
noncomputable def tw13769131024188232025:=0
noncomputable def tw2377505839748424569:=0
noncomputable def tw17750013424667686903:=0
noncomputable def tw12105355317957971821:=0
end PySem.W.Fast
open PySem PySem.W PyProof.Rows
set_option maxRecDepth 100000 in
set_option maxHeartbeats 0 in
theorem PySem.Challenge.cw_worthkinds_k41_whole_keepers_holds : PySem.Challenge.rw_worthkinds_k41_whole_keepers.Holds := by
 w_on; o_law; k_head; (case hw=>w_witness2)
 k_fill
 refine G.walk (l:=PySem.Challenge.rw_worthkinds_k41_whole_keepers) rfl rfl G.law_ok ?nl (fun w h Y=>PySem.W.kIn_of Y) ?F
 case nl=>intro p; kernel_rfl
 case F=>
  intro w mg fa h KX G0 hmg
  have tx:G.Tx' KX mg:=by
   constructor
   all_goals first
    | (refine' ⟨_,_,G.fn1 KX G0 ?e ?l ?g ?k (fun F=>F.binds fun _ _ _ _ _ _ us hl=>by first | exact G.lz1 us hl fun _=>rfl | exact G.lz2 us hl fun _ _=>rfl | exact G.lz3 us hl fun _ _ _=>rfl | exact G.lz4 us hl fun _ _ _ _=>rfl)⟩; (case e | l | g | k=>k_is))
    | exact ⟨_,PySem.W.mg_of KX G0 (by k_is),_,rfl⟩
    | exact G.zs_of KX G0 (by kernel_rfl)
  refine' G.fin_ KX G0 hmg tx ?n0 ?n1 ?n2 ?n3 ?n4 ?n5 ?n6 ?b0 ?b1 ?b2 ?b3 ?b4 ?b5 ?b6 ?b7 ?b8 ?b9 ?b10 ?b11 ?b12
  (case n0 | n1 | n2 | n3 | n4 | n5 | n6=>k_is)
  (case b0 | b1 | b2 | b3 | b4 | b5 | b6 | b7 | b8 | b9 | b10 | b11 | b12=>kernel_rfl)
