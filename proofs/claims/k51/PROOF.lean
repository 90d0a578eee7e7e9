import PyProof.Rows.All
import Wide.All
import OpenK.AllK
import Wide.FinOn
import Lean
import PyProof.EqAt
import PyProof.EqKinds
import PyProof.TupleCall
import PyProof.NeKinds
import PyProof.WalksEnum
import PyProof.StrWalks
import PyProof.ExcAttrAll.ValueError
import PyProof.ZipIter
import KE.KRevIter
import PyProof.ListNew
import PyProof.WalksMore
import PyProof.ReprLoop
import PyProof.FactsAll.list
import PyProof.CollectIter
import PyProof.TupleOfGen
import PyProof.Draws
import PyProof.EnumMake
import PyProof.SeqI3
import KE.KMinBuiltin
import PyProof.SetRoads
import PyProof.CollectWalk
import KE.KDictSum
import PyProof.AttrMiss
import PyProof.IsiH_tuple
import KE.KDictOf
import PyProof.FitsBits
import PyProof.SliceList
import PyProof.InstFacts
import PyProof.Rows.StrNews2
import PyProof.StrBlockH
import PyProof.CallStr
import KE.KIntText
import PyProof.Rows.RuleB_pow
import KE.KSortTup
import PyProof.ReprRoads
import KE.KLam
import PyProof.MaxThree
import PySem.Challenge.RW_worthkinds_k51_whole_least_breaking
open PySem renaming wpAny_bind->aa,wpAny_pure->aw,wpAny_truthy_bool->bf,mem_of_lookup->bu,wpAny_newObj_type->bx,wpAny_field->bz,codeAny_builtin->bB,wpAny_seqItems->bC,wpAny_callSpecial?_slot->bJ,wpAny_setField_rec->bK,wpAny_holding->bM,plainId_quiet->bQ,wpAny_tryCatch->bS,wpAny_mono->bV,wpAny_call_entry->cf,wpAny_pyIter_list->cq,wpAny_of_eq->cB,wpAny_letGo->cC,wpAny_Call_Name_kw->cH,wpAny_passesOwn->cL,sizeLine_eq->cO,codeAny_mono->d8,wpAny_updateSeq->dh,wpAny_attempt->dk,call_meets->dL,wpAny_rule->eD,seqSlot_of->iL,call->lc
open List renaming mem_cons_of_mem->ac,mem_cons_self->ag,length_map->ah,replicate->ai,getElem?_eq_getElem->ak,mem_cons->aq,length_cons->ar,getElem?_eq_some_iff->au,getElem?_map->av,length_append->az,length_singleton->aC,size_toArray->aD,mem_map->aE,map_cons->aF,mem_singleton->aH,getElem?_replicate->aJ,mem_append_right->aL,lookup_cons->aM,all_eq_true->aO,getElem?_set_ne->aP,getElem?_append_right->aQ,mem_range->aS,length_replicate->aT,range->aU,getElem?_append_left->aV,map_replicate->aX,getElem?_eq_none->aY,getElem?_set_self->ba,mem_of_getElem?->bc,append_assoc->bg,map_map->bi,append_nil->bo,length_set->bp,length_nil->bw,length_range->bE,mem_append->bF,not_mem_nil->bG,replicate_succ->bH,nil_append->bN,map_congr_left->bO,flatMap_cons->bP,eq_of_mem_replicate->bT,length_take->bX,getElem?_cons_succ->bY,all_cons->b_,drop_eq_getElem_cons->cb,length_drop->ce,map_nil->ci,eq_nil_of_length_eq_zero->ck,length_reverse->cy,range_succ_eq_map->cA,sum_cons->cD,cons_append->cF,drop_zero->cI,getElem?_zip_eq_some->cJ,mem_filter->cK,of_mem_zip->cM,mem_append_left->cN,reverse_cons->cP,getElem?_range->cW,mem_flatMap->d4,filter_cons->d6,zip_cons_cons->d9,pairwise_cons->de,mem_replicate->dg,map_append->di,mem_iff_getElem?->dr,filterMap_cons->dB,drop_succ_cons->dC,getElem?_take_of_lt->dE,nodup_cons->dI,mem_filterMap->dJ,filter_cons_of_pos->dN,filter_cons_of_neg->dO,ext_getElem?->dW,take_of_length_le->dY,length_filter_le->eC,any_eq_true->eH,foldl->eU,length_zipIdx->eY,flatten_cons->e_,map_id->f7,idxOf_lt_length_iff->f9,prefix_refl->fq,length_eq_zero_iff->fA,drop_length->fE,filter_eq_nil_iff->fQ,length_zip->fU,getElem?_reverse->fW,take_eq_take_iff->fX,getElem?_zipIdx->g7,getElem_toArray->h9,reverse_reverse->hW,mem_of_mem_take->hZ,filter->h_,filter_eq_self->i5,take_succ_cons->i7,any_cons->i9,getElem_idxOf->ij,any_eq_false->il,all_map->iu,getElem_inj->iG,isEmpty_iff->iP,getElem_mem->iR,map_reverse->iS,range'->iT,forIn_cons->j_,range_succ->l7,getD->lh
open Bool renaming and_eq_true->ae,false_ne_true->aA,false_eq_true->aB,not_true->bv,true_and->cV,eq_iff_iff->fV,not_eq_true'->iD,or_eq_true->k_
open PySem.Heap renaming get?_push_of_some->af,get?_push_size->am,lt_size->ax,get?_update_other->bb,size_push->bR,SameBut->d7,FlyingW->dS,ExtBut->g_
open PySem.W renaming Frag->aj,kitOne->aW,kia_one->bL,mg_of->bU,nsIn->cj,fnOf->cz,keepIn->cG,excIn->dH,findIn->dP,tabObj->eB,codeHdIn->eG,codeIn->eR,cellsFrom_some->fM,instObj->fS,lookIn->fY,mroIn->i8,specialIn->im,kitx_list->io,kitx_dict->ip,plainGet->iH,takesIn->iX
open Nat renaming le_refl->ao,le_trans->ay,le_add_right->aG,ne_of_lt->aK,lt_of_lt_of_le->aN,lt_irrefl->bj,zero_le->bn,lt_of_le_of_lt->bW,pos_of_ne_zero->cg,lt_succ_of_lt->cu,one_mul->cQ,pow_le_pow_right->cR,le_mul_of_pos_right->d3,mul_le_mul->d5,min_eq_left->dj,mul_assoc->dm,le_of_succ_le->du,ne_of_gt->dy,mul_comm->dz,add_comm->dR,add_zero->d_,zero_add->eA,lt_succ_self->eF,mul_le_mul_right->eJ,add_le_add_left->eM,succ_mul->eN,le_succ->f6,mul_pos->f8,le_of_lt->fL,pow_succ->fR,not_lt_zero->fT,pow_pos->hV,mul_le_mul_left->i6,le_of_eq->iy,sub_zero->iB,lt_succ_of_le->iC,lt_of_succ_lt->iE,succ_ne_self->iN,add_mul->iW,min_le_left->l8,not_lt->lg
open Option.some renaming inj->aI
open PySem.F renaming plain_min_loop->aR,excBase_ValueError->bq,entry_min_loop->c6,plainAttrs_list->cY,called_set->db,slot_zip_next->dq,args_tuple_add_2->dF,entry_tuple_add->dM,slot_tuple_add->dQ,slot_tuple_iterator_next->dX,slot_int_rmul->eK,slot_tuple_mul->fw,attr_ValueError->fG,args_zip_next_1->fH,slot_list_count->fJ,slot_list_index->fK,entry_zip_next->fP,called_tuple->hJ,args_object_init_2->hU,args_int_rmul_2->ir,slot_tuple_rmul->iw,plain_tuple_new->ix,plain_min->iz,entry_min->iA,slot_int_index->iJ,entry_int_rmul->iK,kind_min->iO,fills_int_mul->iY
open PyProof.Rows renaming callWith_type1->aZ,slot_tuple_getitem->bA
open Int renaming toNat_natCast->a_,eq_ofNat_of_zero_le->d0,zero_add->df,mul_le_mul_of_nonneg_right->eI,emod_lt_of_pos->ik,le_refl->iV,natCast_mul->i_,emod_nonneg->l0
open PySem.Str renaming ofString->bh
open Ne renaming symm->bI
open PySem.Around renaming under_plainId->bZ,frames_deeper->fZ
open False renaming elim->cx
open PySem.SeqAt renaming EqAt->cS,RcNeAt->dU,RcAt->fO
open PyProof.Rows.KeyOrd renaming klt_of_klt_of_kle->cU,kle_of_klt->dZ
open PySem.AutoSeq1 renaming wpAny_loadPart'->c_
open Array renaming getElem?_eq_none->da,length_toList->eL,perm_iff_toList_perm->eW,append_assoc->eX,getD->lf
open PySem.Walks renaming list->dw
open PySem.Builtin.Slice renaming slicePlaces->dA,sliceAdjust->eZ
open Option renaming isSome_iff_exists->dD,getD_none->iI
open PySem.Builtin.List renaming listTooLong->dG,listSameRef->fg
open PySem.Builtin.Builtins renaming bindParams->eO
open PySem.Calls renaming Name_function_global->eQ,evalArgs_plain->f_,spliced_cons->ib,spliced_nil->iq
open PySem.Builtin.Tuple renaming tupleItemsOf->eT,tupleTooMany->eV,tupleExact->fj
open PySem.Builtin.Range renaming rangeSize->fo
open PyProof.Rows.F renaming entry_set_update_loop->fF
open PySem.Obj renaming mapSeq->fN,data_mapFields->ii
open PySem.Heap.SameBut renaming update->i4
open PySem.SeqAt.EqAt renaming of_refs->ie,same->iZ
open PySem.Code renaming quiet_builtin->ig
open PySem.PassesOwn renaming leaving->iF,never->la
open PySem.WalksT renaming enumerate->iM
open Classical renaming skolem->iQ
open PySem.Shared renaming heap->iU
open List.cons renaming injEq->l9
noncomputable section
set_option maxHeartbeats 4000000
set_option Elab.async false
set_option linter.all false
set_option compiler.extract_closed false
set_option maxRecDepth 100000
namespace L2
open PySem PySem.Spec PyProof.Rows
noncomputable abbrev mE:=Sum Int Str
def gU:mE->Value->Bool
 | .inl k,v=>Value.isInt k v
 | .inr x,v=>Value.isStrOf x v
def tN (w:World):mE->Int
 | .inl k=>hashInt k
 | .inr x=>hashStr w x
theorem Z1:∀{k:mE} {v:Value},gU k v=true->(∃i t,k=Sum.inl i/\v=Value.int i t)\/(∃x t,k=Sum.inr x/\v=Value.str x t)
 | .inl i,v,h=>by
  obtain⟨t,e⟩:=Value.isInt_shape h;exact .inl ⟨i,t,rfl,e⟩
 | .inr x,v,h=>by
  obtain⟨t,e⟩:=Value.isStrOf_shape h;exact .inr ⟨x,t,rfl,e⟩
theorem gW (a b:Int):decide ((Sum.inl a:mE)=Sum.inl b)=(a == b):=by
 by_cases e:a=b
 ·subst e;simp
 ·have h:¬ (Sum.inl a:mE)=Sum.inl b:=λq=>e (Sum.inl.inj q);rw[decide_eq_false h];exact(beq_eq_false_iff_ne.mpr e).symm
theorem gX (a b:Str):decide ((Sum.inr a:mE)=Sum.inr b)=decide (a=b):=by
 by_cases e:a=b
 ·simp
 ·have h:¬ (Sum.inr a:mE)=Sum.inr b:=λq=>e (Sum.inr.inj q);rw[decide_eq_false h,decide_eq_false e]
theorem gY (a:Int)(b:Str):decide ((Sum.inl a:mE)=Sum.inr b)=false:=decide_eq_false (λq=>nomatch q)
theorem gZ (a:Str)(b:Int):decide ((Sum.inr a:mE)=Sum.inl b)=false:=decide_eq_false (λq=>nomatch q)
def YE (prog:Program)(w:World):PySem.KeyKind prog w mE where
 is:=gU
 hash:=tN w
 inj:=λv a b l f=>by
  rcases Z1 l with ⟨i,t,rfl,rfl⟩ | ⟨x,t,rfl,rfl⟩
  ·rcases Z1 f with ⟨j,u,rfl,e⟩ | ⟨y,u,rfl,e⟩
   ·injection e with e1 _;rw[e1]
   ·exact nomatch e
  ·rcases Z1 f with ⟨j,u,rfl,e⟩ | ⟨y,u,rfl,e⟩
   ·exact nomatch e
   ·injection e with e1 _;rw[e1]
 byValue:=λk v h=>by
  rcases Z1 h with ⟨i,t,rfl,rfl⟩ | ⟨x,t,rfl,rfl⟩ <;> rfl
 pyHash:=λd h=>by
  rcases Z1 d with ⟨i,t,rfl,rfl⟩ | ⟨x,t,rfl,rfl⟩
  ·exact wpAny_pyHash_int h
  ·exact wpAny_pyHash_str h
 eqBool:=λg d h=>by
  rcases Z1 g with ⟨i,t,rfl,rfl⟩ | ⟨x,t,rfl,rfl⟩
  ·rcases Z1 d with ⟨j,u,rfl,rfl⟩ | ⟨y,u,rfl,rfl⟩
   ·rw[gW]at h;exact wpAny_eqBool_int h
   ·rw[gY]at h;exact cS.int_str i t y u _ _ _ _ h
  ·rcases Z1 d with ⟨j,u,rfl,rfl⟩ | ⟨y,u,rfl,rfl⟩
   ·rw[gZ]at h;exact cS.str_int x t j u _ _ _ _ h
   ·rw[gX]at h;exact wpAny_eqBool_str h
 «strs»:=λk x t v h=>by
  rcases Z1 h with ⟨i,u,rfl,e⟩ | ⟨y,u,rfl,e⟩
  ·exact nomatch e
  ·injection e with e1 _;subst e1;cases v <;> rfl
end L2
namespace L2
open PySem PySem.Spec PyProof.Rows
inductive V where
 | non | bl (b:Bool) | int (i:Int) | str (x:Str) | byt (b:Array UInt8) | flt (b:UInt64) | ref (a:Addr) | ty (n:String)
 deriving DecidableEq
noncomputable def Z2:V->Value->Prop
 | .non,u=>u=Value.none
 | .bl b,u=>u=Value.bool b
 | .int i,u=>∃t,u=Value.int i t
 | .str x,u=>∃t,u=Value.str x t
 | .byt b,u=>∃t,u=Value.bytes b t
 | .flt b,u=>∃t,u=Value.float b t
 | .ref a,u=>u=Value.ref a
 | .ty n,u=>u=Value.type n
abbrev Z3:List V->List Value->Prop:=Paired Z2
theorem Z3.length (r:Z3 xs us):xs.length=us.length:=Paired.length r
theorem Z3.get:∀{xs:List V} {a:List Value} {i:Nat} {x:V},Z3 xs a->xs[i]? =some x->∃u,a[i]? =some u/\Z2 x u
 | _,_,_,_,.nil,e=>by simp at e
 | _,_,0,_,.cons r _,e=>by simp at e;subst e;exact⟨_,rfl,r⟩
 | _,_,i+1,x,.cons _ t,e=>by
  obtain⟨u,f,d⟩:=Z3.get t (by simpa using e)
  exact⟨u,by simpa using f,d⟩
theorem Z3.append:∀{xs ys:List V} {a d:List Value},Z3 xs a->Z3 ys d->Z3 (xs++ys) (a++d)
 | _,_,_,_,.nil,s=>s
 | _,_,_,_,.cons r t,s=> .cons r (Z3.append t s)
theorem Z3.take:∀{xs:List V} {a:List Value} (n:Nat),Z3 xs a->Z3 (xs.take n) (a.take n)
 | _,_,0,_=> .nil
 | _,_,_+1,.nil=> .nil
 | _,_,n+1,.cons r t=> .cons r (Z3.take n t)
theorem Z3.drop:∀{xs:List V} {a:List Value} (n:Nat),Z3 xs a->Z3 (xs.drop n) (a.drop n)
 | _,_,0,r=>r
 | _,_,_+1,.nil=> .nil
 | _,_,n+1,.cons _ t=>Z3.drop n t
def tP:Option V->Option Value->Prop
 | some v,some u=>Z2 v u
 | none,none=>True
 | _,_=>False
def KV {a:Type}:List (a×V)->List (a×Value)->Prop:=Paired λ(p:a×V) (q:a×Value)=>p.1=q.1/\Z2 p.2 q.2
def kV:mE->V
 | .inl i=> .int i
 | .inr x=> .str x
inductive HO where
 | lst (xs:List V)
 | tup (xs:List V)
 | dK (kvs:List (mE×V)) | dT (kvs:List (List mE×V))
 | set (S:Int->Bool) (n:Nat)
 | ins (C dx:Addr) (fs:List (Str×V))
 | own (x:Addr)
 | xd (fs:List (Str×V))
 | met (f x:Addr)
 | rng (lo hi:Int)
 | frz (o:Obj) (u:HO)
 | tbl (ps:Array Value) (q:Str)
 | ext (φ:Heap->Prop)
noncomputable abbrev Hp:=Addr->Option HO
def lC (H:Hp)(a:Addr)(o:HO):Hp:=λb=>if b=a then some o else H b
theorem zB:lC H a o a=some o:=by unfold lC;rw[if_pos rfl]
theorem zm (h:b ≠ a):lC H a o b=H b:=by unfold lC;rw[if_neg h]
theorem zH {H:Hp}{a b:Addr}{o:HO}(h:H a=some o)(h' :H b=none):a ≠ b:=by
 intro e;subst e;rw[h]at h';cases h'
noncomputable def ITN (h:Heap)(a:Addr)(d:Array Value):Prop:=IsTup h a d/\((∃i t,d[0]? =some (Value.int i t))\/∃o,h.get? a=some o/\o.dict=none)
theorem ITN.new (h:Heap)(a:Array Value):ITN (h.push { cls:= .type "tuple",data:= .seq a }) h.objs.size a:=⟨IsTup.new h a,.inr ⟨_,am _ rfl,rfl⟩⟩
section
variable (P:Program)(w:World)
def Zd (H:Hp)(h:Heap)(a:Addr):HO->Prop
 | .lst xs=>xs.length<=sizeLine/\∃(g:List Value) (n:Nat),Z3 xs g/\h.get? a=some { cls:= .type "list",data:= .seq g.toArray n }
 | .tup xs=>xs.length<=sizeLine/\∃g:List Value,Z3 xs g/\ITN h a g.toArray
 | .dK e=>e.length<=sizeLine/\(a == sysModules)=false/\∃j,KV e j/\h.DictOf (YE P w) a j
 | .dT e=>e.length<=sizeLine/\(a == sysModules)=false/\∃xs:List (List mE×Addr×Value),
   Paired (λ(p:List mE×V) (q:List mE×Addr×Value)=>p.1=q.1/\H q.2.1=some (.tup (p.1.map kV))/\Z2 p.2 q.2.2) e xs/\
   ∃o G J,h.get? a=some o/\o.ExactDict/\o.data= .dict G J/\G.toList=xs.map (entryOfKey (tupleKind (YE P w)))/\(xs.map (·.1)).Nodup
 | .set S n=>h.SetOf (intKind P w) a S n
 | .ins C k fs=>H k=some (.own a)/\fs.length<=1000/\k ≠ a/\h.get? a=some (fS C k)/\
   ∃i,h.Ns1 k i/\(∀f,tP (fs.lookup f) (i f))/\PySem.Within i (fs.map (·.1))
 | .own _=>∃o,h.get? a=some o
 | .xd fs=>∃i,h.Ns1 a i/\∀f,tP (fs.lookup f) (i f)
 | .rng lo hi=>∃t u v,h.get? a=some { cls:= .type "range",data:= .fields #[.int lo t,.int hi u,.int 1 v] }
 | .frz o u=>h.get? a=some o/\Zd H h a u
 | .tbl r q=>∃d:Array Value,h.get? a=some { cls:= .none,data:= .fields (r++d) }/\TriplesOk (r++d).toList/\∀p B,codeAmong p (r++d).toList=some B->∃c I j t,B= .ref c/\H c=some (.frz I (.own c))/\I.data= .fields j/\j[1]? =some (.str q t)
 | .met f x=>h.get? a=some (PySem.W.methodObj (.ref f) (.ref x))
 | .ext l=>l h/\(∃o,h.get? a=some o)/\∀y D:Heap,l y->(∀o,y.get? a=some o->D.get? a=some o)->l D
def HOk (H:Hp)(h:Heap):Prop:=∀a o,H a=some o->Zd P w H h a o
end
section
variable {P:Program}{w:World}{H H' :Hp}{h h' :Heap}{a:Addr}{o:HO}
theorem Zd.lt (x:Zd P w H h a o):a < h.objs.size:=by
 cases o with
 | lst xs=>obtain⟨_,_,_,_,e⟩:=x;exact ax e
 | tup xs=>obtain⟨_,_,_,p,_⟩:=x;exact p.lt
 | dK d=>obtain⟨_,_,_,_,o,_,_,e,_⟩:=x;exact ax e
 | dT d=>obtain⟨_,_,_,_,o,_,_,e,_⟩:=x;exact ax e
 | set S n=>obtain⟨o,_,_,_,e,_⟩:=x;exact ax e
 | ins C j fs=>obtain⟨_,_,_,e,_⟩:=x;exact ax e
 | own y=>obtain⟨_,e⟩:=x;exact ax e
 | xd fs=>obtain⟨_,⟨_,_,_,e,_⟩,_⟩:=x;exact ax e
 | rng lo hi=>obtain⟨_,_,_,e⟩:=x;exact ax e
 | frz ob u=>obtain⟨e,_⟩:=x;exact ax e
 | tbl i q=>obtain⟨_,e,_⟩:=x;exact ax e
 | met f y=>exact ax (x)
 | ext g=>obtain⟨_,⟨_,e⟩,_⟩:=x;exact ax e
theorem Paired.mapP {g i:Type}{F G:g->i->Prop}:∀{e:List g} {d:List i},Paired F e d->(∀a b,F a b->G a b)->Paired G e d
 | _,_,.nil,_=> .nil
 | _,_,.cons r t,f=> .cons (f _ _ r) (Paired.mapP t f)
theorem Zd.stay (x:Zd P w H h a o)(k:∀b u,(b=a\/H b=some (.own a))->h.get? b=some u->h'.get? b=some u)
  (U:∀b,H b=some (.own a)->H' b=some (.own a)) (J:∀b xs,H b=some (.tup xs)->H' b=some (.tup xs)) (X:∀b o u,H b=some (.frz o u)->H' b=some (.frz o u):=by exact λ_ _ _ q=>q):Zd P w H' h' a o:=by
 induction o with
 | lst xs=>obtain⟨z,j,n,r,e⟩:=x;exact⟨z,j,n,r,k _ _ (.inl rfl) e⟩
 | tup xs=>obtain⟨z,j,r,⟨ob,e,c⟩,q⟩:=x;exact⟨z,j,r,⟨ob,k _ _ (.inl rfl) e,c⟩,q.imp id λ⟨N,l,K⟩=>⟨N,k _ _ (.inl rfl) l,K⟩⟩
 | dK G=>obtain⟨z,y,I,r,ob,i,g,e,c⟩:=x;exact⟨z,y,I,r,ob,i,g,k _ _ (.inl rfl) e,c⟩
 | dT G=>
  obtain⟨z,y,xs,r,ob,i,g,e,c⟩:=x;exact⟨z,y,xs,Paired.mapP r λp q z=>⟨z.1,J _ _ z.2.1,z.2.2⟩,ob,i,g,k _ _ (.inl rfl) e,c⟩
 | set S n=>obtain⟨ob,i,g,t,e,c⟩:=x;exact⟨ob,i,g,t,k _ _ (.inl rfl) e,c⟩
 | ins C dx fs=>
  obtain⟨d,z,O,e,B,⟨D,i,g,l,c⟩,r⟩:=x;exact⟨U _ d,z,O,k _ _ (.inl rfl) e,B,⟨D,i,g,k _ _ (.inr d) l,c⟩,r⟩
 | own y=>obtain⟨ob,e⟩:=x;exact⟨ob,k _ _ (.inl rfl) e⟩
 | xd fs=>obtain⟨B,⟨D,i,g,e,c⟩,r⟩:=x;exact⟨B,⟨D,i,g,k _ _ (.inl rfl) e,c⟩,r⟩
 | rng lo hi=>obtain⟨t,u,v,e⟩:=x;exact⟨t,u,v,k _ _ (.inl rfl) e⟩
 | frz ob u Q=>obtain⟨e,q⟩:=x;exact⟨k _ _ (.inl rfl) e,Q q⟩
 | tbl ps q=>
  obtain⟨m,e,tr,Z⟩:=x;exact⟨m,k a _ (.inl rfl) e,tr,λp M z=>let ⟨c,oc,I,t,e1,l,e3⟩:=Z p M z;⟨c,oc,I,t,e1,X _ _ _ l,e3⟩⟩
 | met f y=>
  have e:=x;exact k a _ (.inl rfl) e
 | ext φ=>obtain⟨p,⟨o,e⟩,st⟩:=x;exact⟨st _ _ p λo q=>k _ _ (.inl rfl) q,⟨o,k _ _ (.inl rfl) e⟩,st⟩
theorem HOk.lt (x:HOk P w H h)(e:H a=some o):a < h.objs.size:=(x a o e).lt
theorem HOk.fresh (x:HOk P w H h)(e:h.objs.size<=a):H a=none:=by
 cases q:H a with
 | none=>rfl
 | some u=>exact absurd (aN (x.lt q) e) (bj _)
theorem HOk.kept (x:HOk P w H h)(k:∀b u,h.get? b=some u->h'.get? b=some u):HOk P w H h' :=λa o e=>
 (x a o e).stay (λb u _ q=>k b u q) (λ_ q=>q) λ_ _ q=>q
theorem HOk.laid (x:HOk P w H h)(k:∀b u,h.get? b=some u->h'.get? b=some u)(hp:h.objs.size<=a)(new:Zd P w (lC H a o) h' a o):HOk P w (lC H a o) h' :=λb u e=>by
 have hn:=x.fresh hp
 by_cases d:b=a
 ·subst d;rw[zB]at e;cases e;exact new
 ·rw[zm d]at e;exact(x b u e).stay (λc v _ q=>k c v q) (λc q=>by rw[zm (zH q hn)];exact q) (λc xs q=>by rw[zm (zH q hn)];exact q) λc o u q=>by rw[zm (zH q hn)];exact q
end
def Rd (H:Hp)(a:Addr)(u:HO):Prop:=H a=some u\/∃o,H a=some (.frz o u)
theorem Rd.ok (r:Rd H a u)(x:HOk P w H h):Zd P w H h a u:=by
 rcases r with r | ⟨o,r⟩
 ·exact x a u r
 ·obtain⟨_,q⟩:=x a _ r;exact q
noncomputable def sr:Option HO->Prop
 | some (.lst _)=>True
 | some (.dK _)=>True
 | some (.dT _)=>True
 | some (.set _ _)=>True
 | some (.ins _ _ _)=>True
 | some (.ext _)=>True
 | _=>False
section
theorem HOk.write (ok:HOk P w H h)(f:sr (H x))(B:e=x\/H e=some (.own x))(k:∀b u,b ≠ e->h.get? b=some u->h'.get? b=some u)(l:∃u,h'.get? e=some u)
  (new:Zd P w (lC H x o') h' x o'):HOk P w (lC H x o') h' :=λb u q=>by
 have d:∀c y,H c=some (.own y)->c ≠ x:=λc y r z=>by subst z;rw[r]at f;exact f
 have g:∀c xs,H c=some (.tup xs)->c ≠ x:=λc xs r z=>by subst z;rw[r]at f;exact f
 by_cases i:b=x
 ·subst i;rw[zB]at q;cases q;exact new
 ·rw[zm i]at q
  by_cases a:b=e
  ·have p :H b=some (.own x):=by
    rcases B with z | z
    ·exact absurd (a.trans z) i
    ·rw[a];exact z
   rw[q]at p;cases p;obtain⟨v,D⟩:=l;exact⟨v,by rw[a];exact D⟩
  ·refine(ok b u q).stay (λc v j r=>k c v ?_ r) (λc r=>by rw[zm (d c b r)];exact r) (λc xs r=>by rw[zm (g c xs r)];exact r) λc o u r=>by rw[zm (λz=>by subst z;rw[r]at f;exact f)];exact r
   rcases j with rfl | j
   ·exact a
   ·rintro rfl
    rcases B with z | z
    ·exact d c b j z
    ·rw[j]at z;cases z;exact i rfl
end
structure Un (fs ex:List Addr) (H H' :Hp) (h h' :Heap):Prop where
 keep:∀b o,h.get? b=some o->H b=none->b ∉ fs->b ∉ ex->h'.get? b=some o
 slot:∀b o,h.get? b=some o->H b=none->b∈fs->b ∉ ex->∃sl,h'.get? b=some { o with slots:=sl }
 free:∀b o,h.get? b=some o->H b=none->b ∉ ex->H' b=none
 there:∀b o,h.get? b=some o->b ∉ ex->∃o',h'.get? b=some o'
 tups:∀b xs,H b=some (.tup xs)->H' b=some (.tup xs)
 frzs:∀b o u,H b=some (.frz o u)->H' b=some (.frz o u)
 tbls:∀b ps q,H b=some (.tbl ps q)->H' b=some (.tbl ps q)
section
variable {fs fs' ex ex' :List Addr}{H H1 H2:Hp}{h h1 h2 h' :Heap}{a x e:Addr}{o:HO}
theorem Un.any (u:Un fs ex H H1 h h1)(q:h.get? b=some ob)(n:H b=none)(f:b ∉ ex):∃g,h1.get? b=some { ob with slots:=g }:=by
 by_cases d:b∈fs
 ·exact u.slot b ob q n d f
 ·exact⟨ob.slots,u.keep b ob q n d f⟩
theorem Un.kept (k:∀b u,h.get? b=some u->h'.get? b=some u):Un fs ex H H h h' :=
 ⟨λb ob q _ _ _=>k b ob q,λb ob q _ _ _=>⟨ob.slots,k b ob q⟩,λ_ _ _ n _=>n,λb ob q _=>⟨ob,k b ob q⟩,λ_ _ q=>q,λ_ _ _ q=>q,λ_ _ _ q=>q⟩
theorem Un.refl:Un fs ex H H h h:=Un.kept λ_ _ q=>q
theorem Un.laid (k:∀b u,h.get? b=some u->h'.get? b=some u)(hp:h.objs.size<=a)(hn:H a=none):Un fs ex H (lC H a o) h h' where
 keep:=λb u q _ _ _=>k b u q
 slot:=λb u q _ _ _=>⟨u.slots,k b u q⟩
 free:=λb u q n _=>by rw[zm (aK (aN (ax q) hp))];exact n
 there:=λb u q _=>⟨u,k b u q⟩
 tups:=λb xs q=>by rw[zm (zH q hn)];exact q
 frzs:=λb u xs q=>by rw[zm (zH q hn)];exact q
 tbls:=λb d q e=>by rw[zm (zH e hn)];exact e
theorem Un.write (f:sr (H x))(p:e=x\/H e=some (.own x))(k:∀b u,b ≠ e->h.get? b=some u->h'.get? b=some u)(g:∃u,h'.get? e=some u):Un fs ex H (lC H x o) h h' :=by
 have l:∀b,H b=none->b ≠ x:=λb n z=>by subst z;rw[n]at f;exact f
 have j:∀b,H b=none->b ≠ e:=λb n z=>by
  subst z;rcases p with r | r
  ·exact l b n r
  ·rw[n]at r;cases r
 have i:∀b u,H b=some u->¬ sr (some u)->b ≠ x:=λb u q nm z=>by subst z;rw[q]at f;exact nm f
 refine⟨λb u q n _ _=>k b u (j b n) q,λb u q n _ _=>⟨u.slots,k b u (j b n) q⟩,λb u q n _=>by rw[zm (l b n)];exact n,λb u q _=> ?_,
  λb xs q=>by rw[zm (i b _ q λz=>z)];exact q,λb u xs q=>by rw[zm (i b _ q λz=>z)];exact q,λb v q e=>by rw[zm (i b _ e λz=>z)];exact e⟩
 by_cases d:b=e
 ·subst d;exact g
 ·exact⟨u,k b u d q⟩
end
def rT (h:Heap)(H:Hp):List Addr:=(aU h.objs.size).filter λa=>(H a).isSome
def gJ (h:Heap)(H:Hp):Heap:=PySem.W.hideAll h (rT h H)
theorem YF (h:Heap)(H:Hp):(gJ h H).objs.size=h.objs.size:=PySem.W.hideAll_size _ _
theorem Wk (e:h.get? b=some o)(n:H b=none):(gJ h H).get? b=some o:=
 PySem.W.hideAll_get _ e λa=>by
  have q:=(cK.mp a).2;rw[n]at q;simp at q
theorem XY (e:(gJ h H).get? b=some o):h.get? b=some o/\H b=none:=by
 have a :=PySem.W.of_hideAll _ e;refine⟨a, ?_⟩;cases q:H b with
 | none=>rfl
 | some x=>
  have d:b∈rT h H:=cK.mpr ⟨aS.mpr (ax a),by simp[q]⟩
  have z:(gJ h H).get? b=none:=PySem.W.hideAll_none _ d;rw[z]at e;cases e
end L2
namespace L2
open PySem PySem.Spec PyProof.Rows
structure Mod (K:aj) (mg:Str->Option Value) (base:Heap):Prop where
 kin:K.In base
 glob:base.Ns mainGlobals mg
 blt:∃mb,base.Ns builtinsNs mb/\∀x:Str,x ≠ "__name__"->mb x=bootBuiltins x
 nolimit:base.NoLimit
structure Cx where
 prog:Program
 w:World
 K:aj
 mg:Str->Option Value
 base:Heap
 A:Around
 N:List Str
 s₀:Shared
 H₀:Hp
 env:Env
 outer:List Env
 stack:List Env
 ex:List Addr
 fn:Str->Bool
 calm:Bool
 pn:List (Addr×Obj)
 xe:Value->Shared->Prop
noncomputable def lR (l:List Env):List Addr:=l.filterMap (·.frame)
abbrev Cx.fs (X:Cx):List Addr:=lR X.outer
noncomputable def ov (a:Scope)(x:Str):Prop:=a.names.lookup x=some .local\/a.names.lookup x=some .cell\/a.names.lookup x=some .free
noncomputable def Loc (a:Scope)(x:Str):Prop:=a.names.lookup x=some .local\/a.names.lookup x=some .cell
noncomputable def tJ (env:Env)(h:Heap)(m:Str->Option Value)(x:Str)(u:Value):Prop:=
 (env.kindOf x=some .local/\m x=some u)\/((env.kindOf x=some .cell\/env.kindOf x=some .free)/\∃c,env.cells.lookup x=some c/\h.IsCell c (some u))
structure Cx.Ok (X:Cx):Prop where
 mod:Mod X.K X.mg X.base
 kind:X.env.scope.kind= .function
 glob:X.env.globals=mainGlobals
 blt:X.env.builtins=builtinsNs
 above:X.s₀.heap.objs.size<=X.env.locals
 inj:∀x y c,X.env.cells.lookup x=some c->X.env.cells.lookup y=some c->x=y
 has:∀x,(X.env.kindOf x=some .cell\/X.env.kindOf x=some .free)->∃c,X.env.cells.lookup x=some c
 cab:∀x c,X.fn x=true->X.env.cells.lookup x=some c->X.s₀.heap.objs.size<=c
 hd:X.calm=true->X.A.handled=none
 frames:X.A.frames=some X.stack
 stk:X.stack=X.outer\/(X.stack=X.env :: X.outer/\X.env.frame=some X.env.locals)
 exf:∀b∈X.ex,b ≠ X.env.locals/\∀x c,X.env.cells.lookup x=some c->c ≠ b
 bs:∀b o,X.base.get? b=some o->X.s₀.heap.get? b=some o/\X.H₀ b=none
 bsz:X.base.objs.size<=X.s₀.heap.objs.size
 noex:∀b o,X.base.get? b=some o->b ∉ X.ex
 exfs:∀b∈X.ex,b ∉ X.fs
 funs:X.s₀.heap.FunFrames X.base X.outer
 frf:∀b∈X.fs,X.H₀ b=none
structure Inv (X:Cx) (pins:List (Addr×Obj)) (σ:List (Option V)) (H:Hp) (s:Shared):Prop where
 ok:X.Ok
 os:s.os=X.s₀.os
 bare:AllBare s.gens
 base:Un X.fs X.ex X.H₀ H X.s₀.heap s.heap
 loc:∃m,s.heap.Ns X.env.locals m/\∀(i:Nat) (x:Str) (v:V),X.N[i]? =some x->σ[i]? =some (some v)->ov X.env.scope x->∃u,Z2 v u/\tJ X.env s.heap m x u
 cell:∀x c,X.env.cells.lookup x=some c->∃v,s.heap.IsCell c v
 free:H X.env.locals=none
 freeC:∀x c,X.env.cells.lookup x=some c->H c=none
 pin:∀p∈X.pn++pins,s.heap.get? p.1=some p.2/\H p.1=none/\p.1 ≠ X.env.locals/\p.1 ∉ X.fs/\∀v,p.2.data ≠ .cell v
 hok:HOk X.prog X.w H s.heap
 len:σ.length=X.N.length
section
variable {X:Cx}{pins:List (Addr×Obj)}{σ:List (Option V)}{H H' :Hp}{s:Shared}{h' :Heap}
theorem Cx.Ok.nofr (ok:X.Ok){b:Addr}{o:Obj}(e:X.base.get? b=some o):b ∉ X.fs:=λa=>by
 have:=(ok.funs.mem a).1;rw[e]at this;cases this
theorem Inv.bs (I:Inv X pins σ H s):∀b o,X.base.get? b=some o->s.heap.get? b=some o/\H b=none:=λb o e=>
 ⟨I.base.keep b o (I.ok.bs b o e).1 (I.ok.bs b o e).2 (I.ok.nofr e) (I.ok.noex b o e),I.base.free b o (I.ok.bs b o e).1 (I.ok.bs b o e).2 (I.ok.noex b o e)⟩
theorem Inv.bk (I:Inv X pins σ H s):∀b o,X.base.get? b=some o->s.heap.get? b=some o:=λb o e=>(I.bs b o e).1
theorem Inv.mod (I:Inv X pins σ H s):Mod X.K X.mg X.base:=I.ok.mod
theorem Inv.kIn (I:Inv X pins σ H s):X.K.In s.heap:=I.ok.mod.kin.keeps I.bk
theorem Inv.lt (I:Inv X pins σ H s):X.env.locals < s.heap.objs.size:=let ⟨_,hn,_⟩:=I.loc;hn.lt
theorem Inv.sz (I:Inv X pins σ H s):X.s₀.heap.objs.size<=s.heap.objs.size:=ay I.ok.above (fL I.lt)
theorem Inv.nofs (I:Inv X pins σ H s)(h:s.heap.objs.size<=a):a ∉ X.fs:=λe=>by
 obtain⟨_,o,d,_⟩:=I.ok.funs.mem e;exact absurd (aN (ax d) (ay I.sz h)) (bj _)
theorem Inv.cne (I:Inv X pins σ H s):∀x c,X.env.cells.lookup x=some c->c ≠ X.env.locals:=λx c e z=>by
 obtain⟨v,o,f,hd⟩:=I.cell x c e;obtain⟨m,⟨i,j,g,a,d,_⟩,_⟩:=I.loc;rw[z,a]at f;cases f;rw[d]at hd;cases hd
theorem Inv.funs (I:Inv X pins σ H s):s.heap.FunFrames X.base X.outer:=by
 have all:∀(l:List Env),(∀b∈lR l,b∈X.fs)->X.s₀.heap.FunFrames X.base l->s.heap.FunFrames X.base l:=by
  intro l
  induction l with
  | nil=>intro _ _;trivial
  | cons env r k=>
   intro g p;obtain⟨i,⟨L,o,d,hn,j,hd⟩,hr⟩:=p;have f:=g L (by unfold lR;rw[dB,d];exact ag)
   obtain⟨q,e⟩:=I.base.slot L o j (I.ok.frf L f) f λz=>I.ok.exfs L z f;exact⟨i,⟨L,_,d,hn,e,hd⟩,k (λb a=>g b (by unfold lR;rw[dB,d];exact ac _ a)) hr⟩
 exact all _ (λ_ a=>a) I.ok.funs
theorem Inv.stack (I:Inv X pins σ H s):s.heap.FunFrames X.base X.stack:=by
 rcases I.ok.stk with e | ⟨e,a⟩
 ·rw[e];exact I.funs
 ·rw[e];obtain⟨m,hn,_⟩:=I.loc;refine .cons (by rw[I.ok.kind];decide) a hn ?_ I.funs
  exact Heap.get?_none_of_le (ay I.ok.bsz I.ok.above)
theorem Inv.stkSub (I:Inv X pins σ H s):∀b∈lR X.stack,b∈X.env.locals :: X.fs:=λb a=>by
 rcases I.ok.stk with e | ⟨e,d⟩
 ·rw[e]at a;exact ac _ a
 ·rw[e]at a;unfold lR at a;rw[dB,d]at a;exact a
theorem Inv.stkFree (I:Inv X pins σ H s):∀b∈lR X.stack,H b=none:=λb a=>by
 rcases aq.mp (I.stkSub b a) with e | a
 ·rw[e];exact I.free
 ·obtain⟨_,o,d,_⟩:=I.ok.funs.mem a;exact I.base.free b o d (I.ok.frf b a) λz=>I.ok.exfs b z a
theorem Inv.step {g' :Array GenState}{t' :Nat}{d' :Drawn}{ch:List Addr}(I:Inv X pins σ H s)
  (g:∀b∈ch,(b∈X.ex\/X.s₀.heap.objs.size<=b)/\b ≠ X.env.locals/\(∀x c,X.env.cells.lookup x=some c->c ≠ b)/\∀p∈X.pn++pins,p.1 ≠ b)
  (f:∀b o,b ≠ X.env.locals->b ∉ X.fs->b ∉ ch->s.heap.get? b=some o->H b=none->h'.get? b=some o)
  (B:∀b o,b ≠ X.env.locals->b∈X.fs->b ∉ ch->s.heap.get? b=some o->H b=none->∃U,h'.get? b=some { o with slots:=U }) (free:∀b o,b ∉ ch->s.heap.get? b=some o->H b=none->H' b=none)
  (there:∀b o,b ∉ ch->s.heap.get? b=some o->∃M,h'.get? b=some M)
  (P:∀b xs,H b=some (.tup xs)->H' b=some (.tup xs)) (N:∀b o u,H b=some (.frz o u)->H' b=some (.frz o u)) (K:∀b O q,H b=some (.tbl O q)->H' b=some (.tbl O q))
  (ns:∀m,s.heap.Ns X.env.locals m->h'.Ns X.env.locals m) (hok:HOk X.prog X.w H' h') (hg:AllBare g'):
  Inv X pins σ H' { s with heap:=h',gens:=g',drawn:=d',toks:=t' }:=by
 have Q:∀b o,X.s₀.heap.get? b=some o->b ≠ X.env.locals:=λb o e=>aK (aN (ax e) I.ok.above);have lJ:∀b o,X.s₀.heap.get? b=some o->b ∉ X.ex->b ∉ ch:=λb o e a G=>by
  rcases(g b G).1 with z | z
  ·exact a z
  ·exact absurd (aN (ax e) z) (bj _)
 have j:∀x c,X.env.cells.lookup x=some c->∀v,s.heap.IsCell c v->h'.IsCell c v:=λx c e v ⟨o,J,hd⟩=>by
  have y:=λz=>(g c z).2.2.1 x c e rfl
  by_cases hc:c∈X.fs
  ·obtain⟨U,q⟩:=B c o (I.cne x c e) hc y J (I.freeC x c e);exact⟨_,q,hd⟩
  ·exact⟨o,f c o (I.cne x c e) hc y J (I.freeC x c e),hd⟩
 refine⟨I.ok,I.os,hg,⟨λb o e n G a=> ?_,λb o e n G a=> ?_,λb o e n a=> ?_,λb o e a=> ?_,λb xs e=>P b xs (I.base.tups b xs e),λb o xs e=>N b o xs (I.base.frzs b o xs e),λb O q e=>K b O q (I.base.tbls b O q e)⟩, ?_,λx c e=> ?_, ?_,λx c e=> ?_,λp hp=> ?_,hok,I.len⟩
 ·exact f b o (Q b o e) G (lJ b o e a) (I.base.keep b o e n G a) (I.base.free b o e n a)
 ·obtain⟨U,D⟩:=I.base.slot b o e n G a;obtain⟨S,Z⟩:=B b _ (Q b o e) G (lJ b o e a) D (I.base.free b o e n a);exact⟨S,Z⟩
 ·obtain⟨M,D⟩:=I.base.there b o e a;exact free b M (lJ b o e a) D (I.base.free b o e n a)
 ·obtain⟨M,D⟩:=I.base.there b o e a;exact there b M (lJ b o e a) D
 ·obtain⟨m,hn,hl⟩:=I.loc;refine⟨m,ns m hn,λi x v D Z e3=> ?_⟩;obtain⟨u,r,l⟩:=hl i x v D Z e3;refine⟨u,r, ?_⟩;rcases l with l | ⟨k,c,e,z⟩
  ·exact .inl l
  ·exact .inr ⟨k,c,e,j x c e _ z⟩
 ·obtain⟨v,z⟩:=I.cell x c e;exact⟨v,j x c e v z⟩
 ·obtain⟨m,⟨o,_,_,J,_⟩,_⟩:=I.loc;exact free _ o (λz=>(g _ z).2.1 rfl) J I.free
 ·obtain⟨v,o,J,hd⟩:=I.cell x c e;exact free c o (λz=>(g c z).2.2.1 x c e rfl) J (I.freeC x c e)
 ·obtain⟨e,n,ne,nf,d⟩:=I.pin p hp;have y:=λz=>(g p.1 z).2.2.2 p hp rfl;exact⟨f p.1 p.2 ne nf y e n,free p.1 p.2 y e n,ne,nf,d⟩
theorem Inv.un {t' :Nat}(I:Inv X pins σ H s)(u:Un X.fs [] H H' s.heap h')(f:HOk X.prog X.w H' h'):Inv X pins σ H' { s with heap:=h',toks:=t' }:=by
 obtain⟨m,⟨o,B,q,j,r⟩,_⟩:=id I.loc;obtain⟨y,p⟩:=u.any j I.free (by simp)
 exact I.step (ch:=[]) (λ_ z=>nomatch z) (λb o _ g _ e n=>u.keep b o e n g (by simp)) (λb o _ g _ e n=>u.slot b o e n g (by simp)) (λb o _ e n=>u.free b o e n (by simp)) (λb o _ e=>u.there b o e (by simp)) u.tups u.frzs u.tbls (λx k=>by
  obtain⟨v,i,d,a,l⟩:=k;rw[j]at a;cases a;exact⟨_,i,d,p,l⟩) f I.bare
theorem Inv.call {l :Array GenState}{t' :Nat}{v :Drawn}{ch:List Addr}(I:Inv X pins σ H s)(u:Un (lR X.stack) ch H H' s.heap h')(j:HOk X.prog X.w H' h')(B:AllBare l)
  (d:∀b∈ch,(b∈X.ex\/X.s₀.heap.objs.size<=b)/\b ≠ X.env.locals/\(∀x c,X.env.cells.lookup x=some c->c ≠ b)/\∀p∈X.pn++pins,p.1 ≠ b):
  Inv X pins σ H' { s with heap:=h',gens:=l,drawn:=v,toks:=t' }:=by
 obtain⟨m,⟨o,O,N,q,r⟩,_⟩:=id I.loc;obtain⟨M,g⟩:=u.any q I.free λz=>(d _ z).2.1 rfl;exact I.step d (λb o g D a e n=>u.keep b o e n (λz=>(aq.mp (I.stkSub b z)).elim g D) a) (λb o _ _ a e n=>u.any e n a) (λb o a e n=>u.free b o e n a) (λb o a e=>u.there b o e a) u.tups u.frzs u.tbls (λK G=>by
  obtain⟨J,k,i,f,y⟩:=G;rw[q]at f;cases f;exact⟨_,k,i,g,y⟩) j B
theorem Inv.turned {t' :Nat}{it:Addr}(I:Inv X pins σ H s)(k:∀b o,b ≠ it->s.heap.get? b=some o->h'.get? b=some o)(hn:H it=none)(f:it ≠ X.env.locals)
  (j:it∈X.ex\/X.s₀.heap.objs.size<=it) (w:∀x c,X.env.cells.lookup x=some c->c ≠ it) (l:∀p∈X.pn++pins,p.1 ≠ it):Inv X pins σ H { s with heap:=h',toks:=t' }:=by
 have d:∀b u,H b=some u->b ≠ it:=λb u e z=>by rw[z,hn]at e;cases e
 refine I.step (ch:=[it]) (λb i=> ?_) (λb o _ _ a e _=>k b o (λz=>a (by simp[z])) e) (λb o _ _ a e _=>⟨o.slots,k b o (λz=>a (by simp[z])) e⟩) (λ_ _ _ _ n=>n)
  (λb o a e=>⟨o,k b o (λz=>a (by simp[z])) e⟩) (λ_ _ e=>e) (λ_ _ _ e=>e) (λ_ _ _ e=>e) (λm D=> ?_) (λb u e=> ?_) I.bare
 ·have e:=by simpa using i
  subst e;exact⟨j,f,w,l⟩
 ·obtain⟨o,y,g,B,r⟩:=D;exact⟨o,y,g,k _ o (bI f) B,r⟩
 ·refine(I.hok b u e).stay (λc v a q=>k c v ?_ q) (λ_ q=>q) λ_ _ q=>q;rcases a with z | z
  ·rw[z];exact d b u e
  ·exact d c _ z
theorem Inv.tok (I:Inv X pins σ H s)(t:Nat):Inv X pins σ H { s with toks:=t }:=I.un Un.refl I.hok
theorem Inv.kept (I:Inv X pins σ H s)(k:∀b u,s.heap.get? b=some u->h'.get? b=some u):Inv X pins σ H { s with heap:=h',toks:=t' }:=I.un (Un.kept k) (I.hok.kept k)
theorem Inv.laid (I:Inv X pins σ H s)(k:∀b u,s.heap.get? b=some u->h'.get? b=some u)(hp:s.heap.objs.size<=a)(new:Zd X.prog X.w (lC H a o) h' a o):
  Inv X pins σ (lC H a o) { s with heap:=h',toks:=t' }:=I.un (Un.laid k hp (I.hok.fresh hp)) (I.hok.laid k hp new)
theorem Inv.write (I:Inv X pins σ H s)(d:sr (H x))(f:e=x\/H e=some (.own x))(k:∀b u,b ≠ e->s.heap.get? b=some u->h'.get? b=some u)(a:∃u,h'.get? e=some u)
  (new:Zd X.prog X.w (lC H x o) h' x o):Inv X pins σ (lC H x o) { s with heap:=h',toks:=t' }:=I.un (Un.write d f k a) (I.hok.write d f k a new)
theorem Inv.pins_of (I:Inv X pins σ H s)(h:∀p∈pins',s.heap.get? p.1=some p.2/\H p.1=none/\p.1 ≠ X.env.locals/\p.1 ∉ X.fs/\∀v,p.2.data ≠ .cell v):Inv X pins' σ H s:=
 ⟨I.ok,I.os,I.bare,I.base,I.loc,I.cell,I.free,I.freeC,λp hp=>(bF.mp hp).elim (λz=>I.pin p (cN _ z)) (h p),I.hok,I.len⟩
theorem Wl {N:List Str}(d:N.Nodup){i j:Nat}{x:Str}(a:N[i]? =some x)(b:N[j]? =some x):i=j:=by
 obtain⟨k,f⟩:=au.mp a;obtain⟨g,e⟩:=au.mp b;exact(iG d).mp (f.trans e.symm)
theorem ur {M:Model}{A:Around}{E:Value->Shared->Prop}{i:Nat}{x:Str}{v:V}{u:Value}{Q:Unit->Shared->Prop}(I:Inv X pins σ H s)(hN:X.N.Nodup)(hi:X.N[i]? =some x)(D:Loc X.env.scope x)(r:Z2 v u)
  (h:∀s',Inv X pins (σ.set i (some v)) H s' ->(∃a,d7 a s.heap s'.heap/\(a=X.env.locals\/X.env.cells.lookup x=some a))->Q () s') (hf:X.fn x=true\/X.env.scope.names.lookup x=some .local:=by first | exact .inl rfl | exact .inr rfl | assumption):wpAny M A (storeName X.env x u) Q E s:=by
 obtain⟨m,hn,hl⟩:=id I.loc;have hcls:(X.env.scope.kind == .class || (X.env.scope.kind == .module && X.env.locals != X.env.globals))=false:=by rw[I.ok.kind];rfl
 have O:i < σ.length:=by rw[I.len];exact(au.mp hi).1
 have cne:=I.cne;have g:∀{a:Addr} {h' :Heap},(∃o,s.heap.get? a=some o/\H a=none)->d7 a _ h' ->HOk _ X.w H h' :=λ{a h'} ha f b ob e=>by
  obtain⟨_,_,G⟩:=ha;refine(I.hok b ob e).stay (λc w' B q=>(f.2 c ?_).trans q) (λ_ q=>q) λ_ _ q=>q
  rintro rfl
  rcases B with rfl | B
  ·rw[G]at e;cases e
  ·rw[G]at B;cases B
 rcases D with K | K
 ·refine wpAny_storeName_local K hn (λh' hn' f=> ?_) hcls;obtain⟨oL,_,_,hoL,_⟩:=id hn;refine h _ ⟨I.ok,I.os,I.bare,⟨λb o e n S D=> ?_,λb o e n S D=> ?_,I.base.free,λb o e D=> ?_,I.base.tups,I.base.frzs,I.base.tbls⟩,⟨_,hn',λj y v' l J e3=> ?_⟩,λy c e=> ?_,I.free,I.freeC,λp hp=> ?_,g ⟨oL,hoL,I.free⟩ f,by simpa using I.len⟩ ⟨_,f,.inl rfl⟩
  ·exact(f.2 b (aK (aN (ax e) I.ok.above))).trans (I.base.keep b o e n S D)
  ·obtain⟨sl,l⟩:=I.base.slot b o e n S D;exact⟨sl,(f.2 b (aK (aN (ax e) I.ok.above))).trans l⟩
  ·obtain⟨o',l⟩:=I.base.there b o e D;exact⟨o',(f.2 b (aK (aN (ax e) I.ok.above))).trans l⟩
  ·by_cases U:j=i
   ·subst U;rw[hi]at l;cases l;rw[ba O]at J;cases J;exact⟨u,r,.inl ⟨K,by simp⟩⟩
   ·rw[aP (bI U)]at J;obtain⟨u',r',q⟩:=hl j y v' l J e3;refine⟨u',r', ?_⟩;rcases q with ⟨k,e⟩ | ⟨k,c,e,z⟩
    ·refine .inl ⟨k, ?_⟩;have:y ≠ x:=λe=>U (Wl hN l (e ▸ hi));simp[this,e]
    ·exact .inr ⟨k,c,e,z.sameBut f (cne y c e)⟩
  ·obtain⟨w',z⟩:=I.cell y c e;exact⟨w',z.sameBut f (cne y c e)⟩
  ·obtain⟨e,n,ne,nf,d⟩:=I.pin p hp;exact⟨(f.2 p.1 ne).trans e,n,ne,nf,d⟩
 ·have P:X.fn x=true:=by
   rcases hf with z | z
   ·exact z
   ·rw[z]at K;cases K
  obtain⟨c,B⟩:=I.ok.has x (.inl K);obtain⟨w',z⟩:=I.cell x c B;refine wpAny_storeName_cell I.ok.kind K B z (λh' hc' f=> ?_);obtain⟨oc,Z,hocd⟩:=id z;refine h _ ⟨I.ok,I.os,I.bare,⟨λb o e n S D=> ?_,λb o e n S D=> ?_,I.base.free,λb o e D=> ?_,I.base.tups,I.base.frzs,I.base.tbls⟩,⟨m,hn.sameBut f (bI (cne x c B)),λj y v' l J e3=> ?_⟩,λy c' e=> ?_,I.free,I.freeC,λp hp=> ?_,g ⟨oc,Z,I.freeC x c B⟩ f,by simpa using I.len⟩ ⟨c,f,.inr B⟩
  ·exact(f.2 b (aK (aN (ax e) (I.ok.cab x c P B)))).trans (I.base.keep b o e n S D)
  ·obtain⟨sl,l⟩:=I.base.slot b o e n S D;exact⟨sl,(f.2 b (aK (aN (ax e) (I.ok.cab x c P B)))).trans l⟩
  ·obtain⟨o',l⟩:=I.base.there b o e D;exact⟨o',(f.2 b (aK (aN (ax e) (I.ok.cab x c P B)))).trans l⟩
  ·by_cases U:j=i
   ·subst U;rw[hi]at l;cases l;rw[ba O]at J;cases J;exact⟨u,r,.inr ⟨.inl K,c,B,hc'⟩⟩
   ·rw[aP (bI U)]at J;obtain⟨u',r',q⟩:=hl j y v' l J e3;refine⟨u',r', ?_⟩;rcases q with q | ⟨k,c',e,z'⟩
    ·exact .inl q
    ·refine .inr ⟨k,c',e,z'.sameBut f ?_⟩
     rintro rfl
     exact U (Wl hN l (I.ok.inj _ _ _ e B ▸ hi))
  ·by_cases hcc:c' =c
   ·subst hcc;exact⟨_,hc'⟩
   ·obtain⟨w2,z2⟩:=I.cell y c' e;exact⟨w2,z2.sameBut f hcc⟩
  ·obtain⟨e,n,ne,nf,d⟩:=I.pin p hp;refine⟨(f.2 p.1 ?_).trans e,n,ne,nf,d⟩;intro q;rw[q,Z]at e;have q' :=aI e;exact d w' (by rw[← q'];exact hocd)
theorem jX {Q:Unit->Shared->Prop}(I:Inv X pins σ H s)(e:X.N.Nodup)(hi:X.N[i]? =some x)(g:Loc X.env.scope x)(r:Z2 v u)
  (h:∀a,Inv X pins (σ.set i (some v)) H a ->Q () a) (d:X.fn x=true\/X.env.scope.names.lookup x=some .local:=by first | exact .inl rfl | exact .inr rfl | assumption):wpAny M A (storeName X.env x u) Q E s:=
 ur I e hi g r (λa f _=>h a f) d
theorem Inv.call' (I:Inv X pins σ H s)(g:s'.os=s.os)(u:Un (lR X.stack) ch H H' s.heap s'.heap)(a:HOk X.prog X.w H' s'.heap)(f:AllBare s'.gens)
  (d:∀b∈ch,(b∈X.ex\/X.s₀.heap.objs.size<=b)/\b ≠ X.env.locals/\(∀x c,X.env.cells.lookup x=some c->c ≠ b)/\∀p∈X.pn++pins,p.1 ≠ b):Inv X pins σ H' s' :=by
 obtain⟨h',i,k,t',j⟩:=s';have e:=g;subst e;exact I.call u a f d
end
abbrev XK:=Value->Option Addr->Hp->Prop
noncomputable abbrev St:=List (Option V)
abbrev VK:=V->Hp->Prop
abbrev TE:=St->Hp->VK->Prop
abbrev TT:=St->Hp->(Bool->Hp->Prop)->Prop
abbrev TA:=St->Hp->(List V->Hp->Prop)->Prop
structure V9 where
 nx:St->Hp->Prop
 rt:VK
 bk:St->Hp->Prop:=λ_ _=>False
 ct:St->Hp->Prop:=λ_ _=>False
abbrev TS:=V9->St->Hp->Prop
def EP (X:Cx)(a:List (Addr×Obj))(e:St)(Q:VK)(u:Value)(f :Shared):Prop:=∃v d,Inv X a e d f /\Z2 v u/\Q v d
def TP (X:Cx)(a:List (Addr×Obj))(e:St)(Q:Bool->Hp->Prop)(b:Bool)(f :Shared):Prop:=∃d,Inv X a e d f /\Q b d
def AP (X:Cx)(a:List (Addr×Obj))(f:St)(Q:List V->Hp->Prop)(g:List Value)(i :Shared):Prop:=∃e d,Inv X a f d i /\Z3 e g/\Q e d
def SP (X:Cx)(a:List (Addr×Obj))(D:V9)(f:Flow)(e :Shared):Prop:=
 match f with
 | .next=>∃σ' d,Inv X a σ' d e /\D.nx σ' d
 | .brk=>∃σ' d,Inv X a σ' d e /\D.bk σ' d
 | .cont=>∃σ' d,Inv X a σ' d e /\D.ct σ' d
 | .ret u=>∃v σ' d,Inv X a σ' d e /\Z2 v u/\D.rt v d
def PE (X:Cx)(e:Expr)(t:TE):Prop:=
 ∀(a:List (Addr×Obj)) (s:Shared) (d:St) (H:Hp) (Q:VK),Inv X a d H s->t d H Q->wpAny (model X.prog X.w) X.A (eval e X.env) (EP X a d Q) X.xe s
def PT (X:Cx)(e:Expr)(t:TT):Prop:=
 ∀(a:List (Addr×Obj)) (s:Shared) (d:St) (H:Hp) (Q:Bool->Hp->Prop),Inv X a d H s->t d H Q->wpAny (model X.prog X.w) X.A (isTrue e X.env (eval e X.env)) (TP X a d Q) X.xe s
def PW (X:Cx)(e:Expr)(t:TT):Prop:=
 ∀(d:Sem Value) (a:List (Addr×Obj)) (s:Shared) (f:St) (H:Hp) (Q:Bool->Hp->Prop),Inv X a f H s->t f H Q->wpAny (model X.prog X.w) X.A (isTrue e X.env d) (TP X a f Q) X.xe s
theorem PW.pt (h:PW X e t):PT X e t:=h _
def PA (X:Cx)(e:List Expr)(t:TA):Prop:=
 ∀(pos:Pos) (a:List _) (s:Shared) (d:St) (H:Hp) (Q:List V->Hp->Prop),Inv X a d H s->t d H Q->wpAny (model X.prog X.w) X.A (spliced (backTo pos (starEach e X.env))) (AP X a d Q) X.xe s
def PS (X:Cx)(st:Stmt)(t:TS):Prop:=
 ∀(a:List (Addr×Obj)) (s:Shared) (d:St) (H:Hp) (D:V9),Inv X a d H s->t D d H->wpAny (model X.prog X.w) X.A (exec st X.env) (SP X a D) X.xe s
def PSs (X:Cx)(st:List Stmt)(t:TS):Prop:=
 ∀(a:List (Addr×Obj)) (s:Shared) (d:St) (H:Hp) (D:V9),Inv X a d H s->t D d H->wpAny (model X.prog X.w) X.A (execs st X.env) (SP X a D) X.xe s
theorem lz {e:Type}{t:Sem e}{Q d :e->Shared->Prop}(h:wpAny M A t Q E s)(f:∀a s,Q a s->d a s):wpAny M A t d E s:=bV h f λ_ _ x=>x
end L2
namespace L2
open PySem PySem.Spec PyProof.Rows
section
theorem bin (r:PE X a ta)(p:PE X b tb){R:V->V->Hp->Prop}(I:Inv X pins σ H s)(h:ta σ H λx j=>tb σ j λy d=>R x y d)
  {k:Type} {Q:k->Shared->Prop} {f:Value->Value->Sem k}
  (J:∀v u i x y d,Inv X pins σ d i->Z2 x v->Z2 y u->R x y d->wpAny (model X.prog X.w) X.A (f v u) Q X.xe i):
  wpAny (model X.prog X.w) X.A (eval a X.env) (λv e=>wpAny (model X.prog X.w) X.A (eval b X.env) (λu g=>wpAny (model X.prog X.w) X.A (f v u) Q X.xe g) X.xe e) X.xe s:=by
 refine lz (r _ s σ H _ I h) λv q ⟨x,j,B,D,G⟩=> ?_;refine lz (p _ q σ j _ B G) λu i ⟨y,d,l,K,o⟩=> ?_;exact J v u i x y d l D K o
def Yz (i:Nat):TE:=λa H Q=>∃v,a[i]? =some (some v)/\Q v H
def tC (v:V):TE:=λ_ H Q=>Q v H
theorem xO (w:X.N[i]? =some x)(q:ov X.env.scope x)(hd:(x == ("__debug__":Str))=false:=by decide)(g:(x == ("__classdict__":Str))=false:=by decide):PE X (.Name x pos) (Yz i):=by
 intro k s p H Q I h;obtain⟨v,e,h⟩:=h;obtain⟨m,hn,o⟩:=I.loc;obtain⟨u,r,l⟩:=o i x v w e q;have f:EP X _ p Q u s:=⟨v,H,I,r,h⟩;rcases l with ⟨d,y⟩ | ⟨d,c,j,a⟩
 ·exact wpAny_Name (wpAny_loadName_local I.ok.kind d hn y f) hd
 ·rcases d with d | d
  ·exact wpAny_Name (wpAny_loadName_cell I.ok.kind d j a f) hd
  ·exact wpAny_Name (wpAny_loadName_free I.ok.kind d j a f g) hd
theorem G1 {i j pos}:PE X (.Constant (.int i) j pos) (tC (.int i)):=λ_ _ _ H _ I h=>wpAny_Constant_int ⟨.int i,H,I.tok _,⟨_,rfl⟩,h⟩
theorem Ez {b j pos}:PE X (.Constant (.bool b) j pos) (tC (.bl b)):=λ_ _ _ H _ I h=>Constant_bool ⟨.bl b,H,I,rfl,h⟩
theorem xP {j pos}:PE X (.Constant .none j pos) (tC .non):=λ_ _ _ H _ I h=>Constant_none ⟨.non,H,I,rfl,h⟩
theorem xQ {x j pos}:PE X (.Constant (.str x) j pos) (tC (.str x)):=λ_ _ _ H _ I h=>Calls.Constant_str ⟨.str x,H,I.tok _,⟨_,rfl⟩,h⟩
noncomputable def Gl (X:Cx)(x:Str):Prop:=X.env.kindOf x=some .globalImplicit
theorem Wm (I:Inv X pins σ H s)(a:Gl X x)(d:X.mg x=some u)(h:Q u s)
  (hd:(x == ("__debug__":Str))=false:=by decide):wpAny (model X.prog X.w) X.A (eval (.Name x pos) X.env) Q E s:=
 eQ I.ok.kind a (Calls.loadGlobal_global (by rw[I.ok.glob];exact I.mod.glob.keeps I.bk) d h) hd
theorem jf (I:Inv X pins σ H s)(e:Gl X x)(g:X.mg x=none)(a:bootBuiltins x=some u)(h:Q u s)
  (hn:x ≠ "__name__":=by decide) (hd:(x == ("__debug__":Str))=false:=by decide):wpAny (model X.prog X.w) X.A (eval (.Name x pos) X.env) Q E s:=by
 obtain⟨i,f,d⟩:=I.mod.blt;exact eQ I.ok.kind e (Calls.loadGlobal_builtin (by rw[I.ok.glob];exact I.mod.glob.keeps I.bk) g (by rw[I.ok.blt];exact f.keeps I.bk) ((d x hn).trans a) h) hd
theorem YG (a:Gl X x)(d:X.mg x=some u)(r:Z2 v u)(hd:(x == ("__debug__":Str))=false:=by decide):PE X (.Name x pos) (tC v):=
 λ_ _ _ H _ I h=>Wm I a d ⟨v,H,I,r,h⟩ hd
theorem YH (d:Gl X x)(e:X.mg x=none)(a:bootBuiltins x=some u)(r:Z2 v u)(hn:x ≠ "__name__":=by decide)(hd:(x == ("__debug__":Str))=false:=by decide):PE X (.Name x pos) (tC v):=
 λ_ _ _ H _ I h=>jf I d e a ⟨v,H,I,r,h⟩ hn hd
variable {tA tB' :TT}{rest:List Expr}
def AW (t u:TT):TT:=λd H Q=>t d H λc a=>if c=true then u d a Q else Q false a
def EI (t u:TT):TT:=λd H Q=>t d H λc a=>if c=true then Q true a else u d a Q
def BF (t:TT):TT:=λd H Q=>t d H λc a=>Q (!c) a
theorem XZ (g:PT X a tA):PW X (.BoolOp .And [a] pos) tA:=by
 intro i d s f H Q I h;refine isTrue_and (lz (g _ s f H Q I h) λc j e=> ?_);cases c with
 | true=>exact isTrue_and_nil e
 | false=>exact e
theorem G2 (g:PT X a tA):PW X (.BoolOp .Or [a] pos) tA:=by
 intro i d s f H Q I h;refine isTrue_or (lz (g _ s f H Q I h) λc j e=> ?_);cases c with
 | false=>exact isTrue_or_nil e
 | true=>exact e
theorem G4 (k:PT X a tA)(j:PW X (.BoolOp .And (b :: rest) pos) tB'):PW X (.BoolOp .And (a :: b :: rest) pos) (AW tA tB'):=by
 intro l g s e H Q I h;refine isTrue_and (lz (k _ s e H _ I h) λc o ⟨d,f,i⟩=> ?_);cases c with
 | true=>exact j l _ o e d Q f i
 | false=>exact⟨d,f,i⟩
theorem FH (k:PT X a tA)(j:PW X (.BoolOp .Or (b :: rest) pos) tB'):PW X (.BoolOp .Or (a :: b :: rest) pos) (EI tA tB'):=by
 intro l g s e H Q I h;refine isTrue_or (lz (k _ s e H _ I h) λc o ⟨d,f,i⟩=> ?_);cases c with
 | true=>exact⟨d,f,i⟩
 | false=>exact j l _ o e d Q f i
theorem G5 (g:PT X a tA):PT X (.UnaryOp .Not a pos) (BF tA):=by
 intro d s f H Q I h;exact isTrue_not (g _ s f H (λc e=>Q _ e) I h)
def DA (e tb:TE):TE:=λa H Q=>e a H λx d=>∃c,x= .bl c/\if c=true then tb a d Q else Q (.bl false) d
def BO (e tb:TE):TE:=λa H Q=>e a H λx d=>∃c,x= .bl c/\if c=true then Q (.bl true) d else tb a d Q
def C3 (a:TE):TE:=λd H Q=>a d H λx e=>∃c,x= .bl c/\Q (.bl (!c)) e
theorem G6 {op}(h:PE X a t):PE X (.BoolOp op [a] pos) t:=λd s e H Q I f=>BoolOp_one (h _ s e H Q I f)
theorem G7 (k:PE X a ta)(j:PE X (.BoolOp .And (b :: rest) pos) tb):PE X (.BoolOp .And (a :: b :: rest) pos) (DA ta tb):=by
 intro i s f H Q I h;refine BoolOp_and (lz (k _ s f H _ I h) λv o ⟨x,e,g,l,d⟩=> ?_);obtain⟨c,rfl,d⟩:=d;cases l;refine bf ?_;cases c with
 | true=>exact j _ o f e Q g d
 | false=>exact⟨.bl _,e,g,rfl,d⟩
theorem DI (k:PE X a ta)(j:PE X (.BoolOp .Or (b :: rest) pos) tb):PE X (.BoolOp .Or (a :: b :: rest) pos) (BO ta tb):=by
 intro i s f H Q I h;refine BoolOp_or (lz (k _ s f H _ I h) λv o ⟨x,e,g,l,d⟩=> ?_);obtain⟨c,rfl,d⟩:=d;cases l;refine bf ?_;cases c with
 | false=>exact j _ o f e Q g d
 | true=>exact⟨.bl _,e,g,rfl,d⟩
theorem G8 (f:PE X a ta):PE X (.UnaryOp .Not a pos) (C3 ta):=by
 intro e s i H Q I h;refine UnaryOp_ (lz (f _ s i H _ I h) λv l ⟨x,g,j,k,d⟩=> ?_);obtain⟨c,rfl,d⟩:=d;cases k;exact not_of (bf ⟨.bl _,g,j,rfl,d⟩)
def Ha (t:TT)(e tb:TE):TE:=λa H Q=>t a H λc d=>if c=true then e a d Q else tb a d Q
theorem Va (p:PT X c tA)(o:PE X a ta)(l:PE X b tb):PE X (.IfExp c a b pos) (Ha tA ta tb):=by
 intro i s e H Q I h;refine wpAny_IfExp (lz (p _ s e H _ I h) λd k ⟨f,g,j⟩=> ?_);cases d with
 | true=>exact o _ k e f Q g j
 | false=>exact l _ k e f Q g j
end
end L2
namespace L2
open PySem PySem.Spec PyProof.Rows
def SqL (K:aj)(H:Hp)(a:Addr)(xs:List V):Prop:=
 Rd H a (.lst xs)\/
  ∃(o:Obj) (d:Array Value) (n:Nat),K.lookup a=some o/\o.cls= .type "list"/\o.dict=none/\o.data= .seq d n/\d.size<=sizeLine/\Z3 xs d.toList
def SqT (K:aj)(H:Hp)(a:Addr)(xs:List V):Prop:=
 Rd H a (.tup xs)\/
  ∃(o:Obj) (d:Array Value) (n:Nat),K.lookup a=some o/\o.cls= .type "tuple"/\o.data= .seq d n/\d.size<=sizeLine/\Z3 xs d.toList
noncomputable def A2:Value->Option V
 | .none=>some .non
 | .bool b=>some (.bl b)
 | .int i _=>some (.int i)
 | .str x _=>some (.str x)
 | .bytes b _=>some (.byt b)
 | .float b _=>some (.flt b)
 | .ref a=>some (.ref a)
 | .type n=>some (.ty n)
 | _=>none
theorem Z2.abs (r:Z2 x u):A2 u=some x:=by
 cases x with
 | non=>cases r;rfl
 | bl _=>cases r;rfl
 | int _=>obtain⟨t,rfl⟩:=r;rfl
 | str _=>obtain⟨t,rfl⟩:=r;rfl
 | byt _=>obtain⟨t,rfl⟩:=r;rfl
 | flt _=>obtain⟨t,rfl⟩:=r;rfl
 | ref _=>cases r;rfl
 | ty _=>cases r;rfl
theorem Z2.inj (r:Z2 x u)(q:Z2 y u):x=y:=aI (r.abs.symm.trans q.abs)
theorem Z3.inj:∀{xs ys:List V} {a:List Value},Z3 xs a->Z3 ys a->xs=ys
 | _,_,_,.nil,.nil=>rfl
 | _,_,_,.cons r t,.cons d t' =>by rw[r.inj d,Z3.inj t t']
section
variable {X:Cx}{pins:List (Addr×Obj)}{σ:St}{H:Hp}{s:Shared}{a:Addr}{xs ys:List V}
theorem SqL.of {K:aj}(h:H a=some (.lst xs)):SqL K H a xs:= .inl (.inl h)
theorem SqT.of {K:aj}(h:H a=some (.tup xs)):SqT K H a xs:= .inl (.inl h)
theorem Inv.list (I:Inv X pins σ H s)(h:SqL X.K H a xs):∃d:List Value,Z3 xs d/\PlainL s.heap a d.toArray/\xs.length<=sizeLine:=by
 rcases h with h | ⟨o,d,n,f,i,hd,g,j,r⟩
 ·obtain⟨z,d,n,r,e⟩:=h.ok I.hok;exact⟨d,r,⟨_,n,e,rfl,rfl,rfl⟩,z⟩
 ·refine⟨d.toList,r,⟨o,n,I.kIn a o f,i,hd,by simpa using g⟩, ?_⟩
  have e:=r.length;simp only[eL]at e;omega
theorem Inv.tuple (I:Inv X pins σ H s)(h:SqT X.K H a xs):∃d:List Value,Z3 xs d/\IsTup s.heap a d.toArray/\xs.length<=sizeLine:=by
 rcases h with h | ⟨o,d,n,f,i,g,j,r⟩
 ·obtain⟨z,d,r,p,_⟩:=h.ok I.hok;exact⟨d,r,p,z⟩
 ·refine⟨d.toList,r,⟨o,I.kIn a o f,i,n,by simpa using g⟩, ?_⟩
  have e:=r.length;simp only[eL]at e;omega
theorem Inv.list_inj (I:Inv X pins σ H s)(h:SqL X.K H a xs)(h' :SqL X.K H a ys):xs=ys:=by
 obtain⟨k,r,⟨o,n,e,_,_,d⟩,_⟩:=I.list h;obtain⟨f,j,⟨l,p,g,_,_,i⟩,_⟩:=I.list h';rw[e]at g;cases g;rw[d]at i;injection i with d1 _;have:=by simpa using congrArg Array.toList d1
 subst this;exact r.inj j
theorem Inv.tuple_inj (I:Inv X pins σ H s)(h:SqT X.K H a xs)(h' :SqT X.K H a ys):xs=ys:=by
 obtain⟨k,r,⟨o,e,_,n,d⟩,_⟩:=I.tuple h;obtain⟨f,j,⟨l,g,_,p,i⟩,_⟩:=I.tuple h';rw[e]at g;cases g;rw[d]at i;injection i with d1 _;have:=by simpa using congrArg Array.toList d1
 subst this;exact r.inj j
end
noncomputable abbrev Cx.wish (X:Cx)(E:Value->Shared->Prop):Cx:={ X with xe:=E }
abbrev Cx.nox (X:Cx):Cx:=X.wish λ_ _=>False
theorem Cx.Ok.wish {X:Cx}(ok:X.Ok)(E:Value->Shared->Prop):(X.wish E).Ok:=
 ⟨ok.mod,ok.kind,ok.glob,ok.blt,ok.above,ok.inj,ok.has,ok.cab,ok.hd,ok.frames,ok.stk,ok.exf,ok.bs,ok.bsz,ok.noex,ok.exfs,ok.funs,ok.frf⟩
theorem Cx.Ok.unwish {X:Cx}{E:Value->Shared->Prop}(ok:(X.wish E).Ok):X.Ok:=
 ⟨ok.mod,ok.kind,ok.glob,ok.blt,ok.above,ok.inj,ok.has,ok.cab,ok.hd,ok.frames,ok.stk,ok.exf,ok.bs,ok.bsz,ok.noex,ok.exfs,ok.funs,ok.frf⟩
section
variable {X:Cx}{pins:List (Addr×Obj)}{σ:St}{H:Hp}{s:Shared}{E:Value->Shared->Prop}
theorem Inv.wish (I:Inv X pins σ H s)(E:Value->Shared->Prop):Inv (X.wish E) pins σ H s:=⟨I.ok.wish E,I.os,I.bare,I.base,I.loc,I.cell,I.free,I.freeC,I.pin,I.hok,I.len⟩
theorem Inv.unwish (I:Inv (X.wish E) pins σ H s):Inv X pins σ H s:=⟨I.ok.unwish,I.os,I.bare,I.base,I.loc,I.cell,I.free,I.freeC,I.pin,I.hok,I.len⟩
theorem SP.unwish {D:V9}{f:Flow}(h:SP (X.wish E) pins D f s'):SP X pins D f s' :=by
 cases f with
 | next=>obtain⟨σ',a,I,q⟩:=h;exact⟨σ',a,I.unwish,q⟩
 | brk=>obtain⟨σ',a,I,q⟩:=h;exact⟨σ',a,I.unwish,q⟩
 | cont=>obtain⟨σ',a,I,q⟩:=h;exact⟨σ',a,I.unwish,q⟩
 | ret u=>obtain⟨v,σ',a,I,r,q⟩:=h;exact⟨v,σ',a,I.unwish,r,q⟩
theorem PSs.nox {st:List Stmt}{t:TS}(h:PSs X.nox st t):PSs X st t:=λpins s σ H D I a=>
 bV (h _ s σ H D (I.wish _) a) (λ_ _ q=>q.unwish) λ_ _ z=>cx z
end
section
variable {X:Cx}{st:Stmt}{rest:List Stmt}{t u:TS}{e:Expr}{te:TE}{pos:Pos}
def C9:TS:=λD a H=>D.nx a H
def t9 (t u:TS):TS:=λD a H=>t { D with nx:=u D } a H
theorem k6:PSs X [] C9:=λ_ _ a H _ I h=>wpAny_execs_nil ⟨a,H,I,h⟩
theorem Vb (k:PS X st t)(g:PSs X rest u):PSs X (st :: rest) (t9 t u):=by
 intro a s d H D I h;refine wpAny_execs_cons (lz (k _ s d H _ I h) λf l q=> ?_);cases f with
 | next=>
  obtain⟨σ',i,j,q⟩:=q;exact g _ l σ' i D j q
 | ret v=>exact q
 | brk=>exact q
 | cont=>exact q
theorem YI (g:PS X st t):PSs X [st] t:=by
 intro a s d H D I h;refine wpAny_execs_cons (lz (g _ s d H D I h) λf i q=> ?_);cases f with
 | next=>exact wpAny_execs_nil q
 | ret v=>exact q
 | brk=>exact q
 | cont=>exact q
theorem Inv.quiet (I:Inv X pins σ H s):interactive X.env=false:=by simp[interactive,I.ok.kind]
def Dq (te:TE):TS:=λD a H=>te a H λ_ d=>D.nx a d
theorem Ui (f:PE X e te)(i:swapsWith e none pos.line X.env=pure false:=by rfl):PS X (.Expr e pos) (Dq te):=by
 intro d s a H D I h;exact wpAny_Expr_any (lz (f _ s a H _ I h) λv o ⟨x,g,j,l,k⟩=>⟨a,g,j,k⟩) I.quiet i
def A5 (te:TE):TS:=λD a H=>te a H D.rt
theorem xR (g:PE X e te):PS X (.Return (some e) pos) (A5 te):=by
 intro d s a H D I h;exact wpAny_Return_some (lz (g _ s a H _ I h) λv l ⟨x,f,i,j,k⟩=>⟨x,a,f,i,j,k⟩)
def AK (c:TT)(t u:TS):TS:=λD a H=>c a H λb d=>if b=true then t D a d else u D a d
theorem Ej (q:PT X c tc)(p:PSs X a t)(o:PSs X b u):PS X (.If c a b pos) (AK tc t u):=by
 intro j s f H D I h;refine wpAny_If (lz (q _ s f H _ I h) λd l ⟨g,i,k⟩=> ?_);cases d with
 | true=>exact p _ l f g D i k
 | false=>exact o _ l f g D i k
end
abbrev TG:=V->St->Hp->(St->Hp->Prop)->Prop
abbrev oi:=List V->St->Hp->(St->Hp->Prop)->Prop
def PG (X:Cx)(a:Expr)(t:TG):Prop:=
 ∀(d:List (Addr×Obj)) (s:Shared) (e:St) (H:Hp) (v:V) (u:Value) (Q:St->Hp->Prop),Inv X d e H s->Z2 v u->t v e H Q->
  wpAny (model X.prog X.w) X.A (assign a X.env u) (λ_ g =>∃σ' f,Inv X d σ' f g /\Q σ' f) X.xe s
def r9 (X:Cx)(ts:List Expr)(t:oi):Prop:=
 ∀(a:List (Addr×Obj)) (s:Shared) (d:St) (H:Hp) (g:List V) (e:List Value) (Q:St->Hp->Prop),Inv X a d H s->Z3 g e->t g d H Q->
  wpAny (model X.prog X.w) X.A (assignInOrder ((assignEach ts X.env).map (·.2)) e) (λ_ i =>∃σ' f,Inv X a σ' f i /\Q σ' f) X.xe s
section
def wM (i:Nat):TG:=λv a H Q=>Q (a.set i (some v)) H
theorem jN (e:X.N.Nodup)(hi:X.N[i]? =some x)(g:Loc X.env.scope x)(d:X.fn x=true\/X.env.scope.names.lookup x=some .local:=by first | exact .inl rfl | exact .inr rfl | assumption):PG X (.Name x pos) (wM i):=by
 intro a s j H v u Q I r h;exact wpAny_assign_Name (jX I e hi g r (λk f =>⟨_,H,f,h⟩) d)
def Ah:oi:=λd a H Q=>d=[]/\Q a H
def YJ (t:TG)(u:oi):oi:=λe a H Q=>∃v r,e=v :: r/\t v a H λσ' d =>u r σ' d Q
theorem YK:r9 X [] Ah:=by
 intro a s d H g f Q I r h;obtain⟨e,h⟩:=h;exact assignInOrder_nil ⟨d,H,I,h⟩
theorem JM {u:oi}(f:PG X e t)(j:r9 X es u)
  (k:(assignEach (e :: es) X.env).map (·.2)=assign e X.env :: (assignEach es X.env).map (·.2):=by rfl):r9 X (e :: es) (YJ t u):=by
 intro d s i H B y Q I r h;obtain⟨v,x,o,h⟩:=h;subst o;cases r with
 | cons r p=>
  rw[k];refine assignInOrder_cons (lz (f _ s i H _ _ _ I r h) λ_ w ⟨a,g,l,q⟩=> ?_);exact j _ w a g _ _ Q l p q
def sk (K:aj)(n:Nat)(t:oi):TG:=λv d H Q=>∃a xs,v= .ref a/\SqT K H a xs/\xs.length=n/\t xs d H Q
theorem xS {t:oi}(q:X.calm=true)(h:r9 X es t)
  (hn:(assignEach es X.env).length=n:=by rfl) (d:(assignEach es X.env).findIdx? (·.1)=none:=by rfl):PG X (.Tuple es k pos) (sk X.K n t):=by
 intro j s i H v u Q I r f;obtain⟨a,xs,y,p,D,f⟩:=f;subst y;cases r;obtain⟨B,g,l,G⟩:=I.tuple p;refine assign_Tuple_tuple (I.ok.hd q) l (by simp[hn,← D,g.length]) d λh' x=> ?_
 have w:Inv X _ i H { s with heap:=h' }:=I.kept λb o e=>x b o (aK (ax e)) e;exact h _ _ i H xs _ Q w (by simpa using g) f
def pf (te:TE)(g:TG):TS:=λD a H=>te a H λx d=>g x a d D.nx
theorem G9 (i:PE X e te)(f:PG X tg g)(l:swapsWithSole [tg] e pos.line X.env=pure false:=by rfl)(u:swappedStores [tg] e X.env=pure none:=by rfl)
  (j:(assignEach [tg] X.env).map (·.2)=[assign tg X.env]:=by rfl):PS X (.Assign [tg] e pos) (pf te g):=by
 intro d s a H D I h;refine wpAny_Assign_stores (lz (i _ s a H _ I h) λv w ⟨x,k,o,p,r⟩=> ?_) l u;rw[j];exact lz (f _ w a k x v _ o p r) λ_ y q=>q
theorem US (l:X.N.Nodup)(hi:X.N[i]? =some x)(p:Loc X.env.scope x)(f:PE X e te)(k:swapsWith e (some (.Name x pos')) pos.line X.env=pure false:=by rfl)(u:X.fn x=true\/X.env.scope.names.lookup x=some .local:=by first | exact .inl rfl | exact .inr rfl | assumption):
  PS X (.Assign [.Name x pos'] e pos) (pf te (wM i)):=by
 intro a s j H D I h;refine wpAny_Assign_Name (lz (f _ s j H _ I h) λv B ⟨y,g,o,q,r⟩=> ?_) k;exact jX o l hi p q (λw d=>⟨_,g,d,r⟩) u
def Aj (i j:Nat)(d:TA):TS:=λD a H=>d a H λf e=>∃v w,f=[v,w]/\D.nx ((a.set i (some v)).set j (some w)) e
theorem Ga {kt k2 pt2}(Z:X.calm=true)(J:X.N.Nodup)(hi:X.N[i]? =some x)(hj:X.N[j]? =some y)(u:i ≠ j)
  (M:X.env.scope.names.lookup x=some .local) (hy:X.env.scope.names.lookup y=some .local) (U:PA X [a,b] ta)
  (hw:swappedStores [.Tuple [.Name x px,.Name y py] kt pt] (.Tuple [a,b] k2 pt2) X.env=pure (some [x,y]))
  (hs:swapsWithSole [.Tuple [.Name x px,.Name y py] kt pt] (.Tuple [a,b] k2 pt2) pos.line X.env=pure false:=by rfl):
  PS X (.Assign [.Tuple [.Name x px,.Name y py] kt pt] (.Tuple [a,b] k2 pt2) pos) (Aj i j ta):=by
 intro K s G H D I h;refine aa (wpAny_standAt ?_);refine aa (aw ?_);refine aa (Tuple_ (lz (U _ _ s G H _ I h) λus k ⟨vs,B,I1,r1,r⟩=> ?_));obtain⟨v,w,e1,r⟩:=r;subst e1;obtain⟨f,d,rfl,Q,l⟩:∃f d,us=[f,d]/\Z2 v f/\Z2 w d:=by
  cases r1 with
  | cons p q=>
   cases q with
   | cons p' P =>
    cases P;exact⟨_,_,rfl,p,p'⟩
 refine bx ?_ (by show 2<=sizeLine;decide)
 have I2:Inv X _ G B { k with heap:=k.heap.push { cls:= .type "tuple",data:= .seq [f,d].toArray } }:=I1.kept λb o e=>af _ e;rw[hw];refine aa (aw ?_);refine aa (eD (aa (unpackItems_tuple (items:= #[f,d]) (I.ok.hd Z) (IsTup.new _ _) λh' g => ?_)));have I3:=I2.kept (t' :=k.toks) λb o e=>g b o (aK (ax e)) e;refine aa (assignInOrder_cons (wpAny_bindName (jX I3 J hj (.inl hy) l (λs2 S=> ?_) (.inr hy))));refine assignInOrder_cons (wpAny_bindName (jX S J hi (.inl M) Q (λs3 O=>assignInOrder_nil (aw ?_)) (.inr M)));rw[List.set_comm _ _ (bI u)]at O;exact⟨_,B,O,r⟩
end
section
def Gb (c:TT)(tb:TS):TS:=λD a H=>∃W:Nat->St->Hp->Prop,(∃m,W m a H)/\∀m a H,W m a H->
 c a H λb d=>if b=true then ∃N:St->Hp->Prop,(∀σ' e,N σ' e ->∃f,f < m/\W f σ' e)/\tb { D with nx:=N,ct:=N,bk:=D.nx } a d else D.nx a d
theorem Vc (hp:PassesOwn (model X.prog X.w) X.A X.env X.xe)(G:PT X c tc)(Q:PSs X body tb):PS X (.While c body [] pos) (Gb tc tb):=by
 intro u s J H D I h;obtain⟨W,⟨P,w0⟩,e⟩:=h;refine wpAny_While (codeAny_whileLoop (λn M =>∃σ' y,Inv X _ σ' y M /\W n σ' y) ?_ P ⟨J,H,I,w0⟩)
 rintro n O ⟨d,p,K,w1⟩
 refine cL hp (lz (G _ O d p _ K (e n d p w1)) λb B ⟨q,x,g⟩=> ?_);cases b with
 | true=>
  obtain⟨N,r,g⟩:=g;refine cL hp (lz (Q _ B d q _ x g) λf S i=> ?_);cases f with
  | next=>
   obtain⟨a,H3,k,l⟩:=i;obtain⟨j,o,w3⟩:=r a H3 l;exact⟨j,o,a,H3,k,w3⟩
  | cont=>
   obtain⟨a,H3,k,l⟩:=i;obtain⟨j,o,w3⟩:=r a H3 l;exact⟨j,o,a,H3,k,w3⟩
  | brk=>exact i
  | ret v=>exact i
 | false=>
  exact wpAny_execs_nil ⟨d,q,x,g⟩
end
structure It where
 go:Nat->Hp->Prop
 yld:Nat->Hp->V->Hp->Prop
 stop:Nat->Hp->Prop
def Jh (X:Cx)(a:List (Addr×Obj))(H:Hp)(b:Addr):Prop:=
 H b=none/\b ≠ X.env.locals/\b ∉ X.fs/\(b∈X.ex\/X.s₀.heap.objs.size<=b)/\(∀x c,X.env.cells.lookup x=some c->c ≠ b)/\∀p∈X.pn++a,p.1 ≠ b
theorem Inv.fpOk (I:Inv X pins σ H s)(a:s.heap.objs.size<=b)(hn:H' b=none):Jh X pins H' b:=by
 refine⟨hn,dy (aN I.lt a),I.nofs a,.inr (ay I.sz a),λx c e z=> ?_,λp hp z=> ?_⟩
 ·obtain⟨v,q⟩:=I.cell x c e;exact absurd (aN q.lt (by rw[z];exact a)) (bj _)
 ·exact absurd (aN (ax (I.pin p hp).1) (by rw[z];exact a)) (bj _)
structure yQ (P:Program) (w:World) (K:aj) (tg:Expr) (J:It) (fp:List Addr) (it:Addr) (tn:Nat->Heap->Prop):Prop where
 mem:it∈fp
 obj:∀i h,tn i h->∀b∈fp,∃o,h.get? b=some o/\∀v,o.data ≠ .cell v
 keep:∀i h h',tn i h->(∀b∈fp,∀o,h.get? b=some o->h'.get? b=some o)->tn i h'
 item:∀(X:Cx),X.prog=P->X.w=w->X.K=K->X.calm=true->∀(i:Nat) (pins:List (Addr×Obj)) (s:Shared) (σ:St) (H:Hp) (E:Value->Shared->Prop),Inv X pins σ H s->(∀b∈fp,Jh X pins H b)->tn i s.heap->J.go i H->
  wpAny (model P w) X.A (pyNext (.ref it)) (λr s1=>∃u,r=some u/\
   wpAny (model P w) X.A (letOwnedTupleGo tg (.ref it) u) (λ_ s2=>∃x H',Inv X pins σ H' s2/\Z2 x u/\J.yld i H x H' /\tn (i+1) s2.heap/\∀b∈fp,H' b=none) E s1) E s
 done:∀(X:Cx),X.prog=P->X.w=w->X.K=K->X.calm=true->∀(i:Nat) (pins:List (Addr×Obj)) (s:Shared) (σ:St) (H:Hp) (E:Value->Shared->Prop),Inv X pins σ H s->(∀b∈fp,Jh X pins H b)->tn i s.heap->J.stop i H->
  wpAny (model P w) X.A (pyNext (.ref it)) (λr s1=>r=none/\Inv X pins σ H s1) E s
 self:∀(A:Around) (i:Nat) (s:Shared) (Q:Value->Shared->Prop) (E:Value->Shared->Prop),tn i s.heap->Q (.ref it) s->wpAny (model P w) A (pyIter (.ref it)) Q E s
abbrev TI:=St->Hp->(It->Hp->Prop)->Prop
def Cj (X:Cx)(a:List (Addr×Obj))(i:St)(j:Expr)(R:It->Hp->Prop)(d:Value)(f:Shared):Prop:=
 ∃(it:Addr) (fp:List Addr) (g:Nat->Heap->Prop) (J:It) (e :Hp),d= .ref it/\Inv X a i e f/\yQ X.prog X.w X.K j J fp it g/\g 0 f.heap/\(∀b∈fp,Jh X a e b)/\R J e
def PI (X:Cx)(e iter:Expr)(g:TI):Prop:=
 ∀(a:List (Addr×Obj)) (s:Shared) (d:St) (H:Hp) (R:It->Hp->Prop),Inv X a d H s->g d H R->
  wpAny (model X.prog X.w) X.A (eval iter X.env) (λv f=>wpAny (model X.prog X.w) X.A (pyIter v) (Cj X a d e R) X.xe f) X.xe s
theorem yR {Q:Unit->Shared->Prop}(e:s.heap.get? it=some o)(d:o.cls= .type n)(hd:o.data= .fields vs)
  (hn:["enumerate","zip","dict_itemiterator","dict_reverseitemiterator","odict_iterator","itertools.zip_longest","itertools.pairwise"].contains n=false) (a:Q () s):wpAny M A (letOwnedTupleGo tg (.ref it) u) Q E s:=by
 cases tg <;> first
  | exact aw a
  | (cases u <;> first
    | exact aw a
    | (refine aa (wpAny_load e ?_);rw[d,hd];show wpAny M A (if (["enumerate","zip","dict_itemiterator","dict_reverseitemiterator","odict_iterator","itertools.zip_longest","itertools.pairwise"].contains n && vs[0]? == some _)=true then _ else _) Q E s;rw[if_neg (by intro h;rw[hn]at h;cases h)];exact aw a))
def AE (K:aj)(a:Addr):It:=
 ⟨λi H=>∃xs x,SqL K H a xs/\xs[i]? =some x,λi H x d =>d =H/\∀xs,SqL K H a xs->xs[i]? =some x,λi H=>∃xs,SqL K H a xs/\xs.length<=i⟩
def At (K:aj)(a:Addr):It:=
 ⟨λi H=>∃xs x,SqT K H a xs/\xs[i]? =some x,λi H x d =>d =H/\∀xs,SqT K H a xs->xs[i]? =some x,λi H=>∃xs,SqT K H a xs/\xs.length<=i⟩
noncomputable def oQ (lo:Int)(n:Nat):It:=⟨λi _=>i < n,λi H x a =>a =H/\x= .int (lo+i),λi _=>n<=i⟩
theorem YL {P:Program}{w:World}{K:aj}{tg:Expr}(a it:Addr):yQ P w K tg (AE K a) [it] it (λi h=>h.IsListIter it a i) where
 mem:=by simp
 obj:=λi h st b g=>by
  have e:b=it:=by simpa using g
  subst e;obtain⟨o,e,c,d⟩:=st;exact⟨o,e,λv z=>by rw[d]at z;cases z⟩
 keep:=λi h h' st k=>st.at λo e=>k it (by simp) o e
 item:=by
  intro X O G r Z i f s σ H E I q st N;subst O G r;obtain⟨xs,x,l,B⟩:=N;obtain⟨U,y,p,hz⟩:=I.list l;obtain⟨u,hu,ru⟩:=y.get B;obtain⟨Q,S,f2,D,M,J⟩:=q it (by simp)
  refine wpAny_pyNext_list_item st p.isList (x:=u) (by simpa using hu) λh' j sb=> ?_
  have I1:Inv X f σ H { s with heap:=h' }:=I.turned (t' :=s.toks) (λb o g e=>(sb.2 b g).trans e) Q S D M J;obtain⟨o,e,c,d⟩:=id j;exact⟨u,rfl,yR (s:={ s with heap:=h' }) e c d (by decide) ⟨x,H,I1,ru,⟨rfl,λys hy=>by rw[I.list_inj hy l];exact B⟩,j,λb g=>(q b g).1⟩⟩
 done:=by
  intro X O G r Z i f s σ H E I q st N;subst O G r;obtain⟨xs,l,B⟩:=N;obtain⟨U,y,p,hz⟩:=I.list l;obtain⟨Q,S,f2,D,M,J⟩:=q it (by simp)
  have hl:=y.length;exact wpAny_pyNext_list_end (I.ok.hd Z) st p.isList (by simp;omega) λh' eb=>⟨rfl,I.turned (t' :=s.toks) (λb o g e=>eb b o g e) Q S D M J⟩
 self:=λ_ _ _ _ _ st h=>wpAny_pyIter_listiter st h
theorem yS {P:Program}{w:World}{K:aj}{tg:Expr}(a it:Addr):yQ P w K tg (At K a) [it] it (λi h=>h.IsTupleIter it a i) where
 mem:=by simp
 obj:=λi h st b g=>by
  have e:b=it:=by simpa using g
  subst e;obtain⟨o,e,c,d⟩:=st;exact⟨o,e,λv z=>by rw[d]at z;cases z⟩
 keep:=λi h h' st k=>st.at λo e=>k it (by simp) o e
 item:=by
  intro X Q J y Z i f s σ H E I r st O;subst Q J y;obtain⟨xs,x,q,D⟩:=O;obtain⟨j,B,p,hz⟩:=I.tuple q;obtain⟨u,hu,ru⟩:=B.get D;obtain⟨S,U,f2,G,N,M⟩:=r it (by simp)
  refine wpAny_pyNext_tuple_item st (show s.heap.IsTuple a j.toArray from p) (x:=u) (by simpa using hu) λh' l sb=> ?_
  have I1:Inv X f σ H { s with heap:=h' }:=I.turned (t' :=s.toks) (λb o g e=>(sb.2 b g).trans e) S U G N M;obtain⟨o,e,c,d⟩:=id l;exact⟨u,rfl,yR (s:={ s with heap:=h' }) e c d (by decide) ⟨x,H,I1,ru,⟨rfl,λys hy=>by rw[I.tuple_inj hy q];exact D⟩,l,λb g=>(r b g).1⟩⟩
 done:=by
  intro X Q J y Z i f s σ H E I r st O;subst Q J y;obtain⟨xs,q,D⟩:=O;obtain⟨j,B,p,hz⟩:=I.tuple q;obtain⟨S,U,f2,G,N,M⟩:=r it (by simp)
  have hl:=B.length;exact wpAny_pyNext_tuple_end (I.ok.hd Z) st (show s.heap.IsTuple a j.toArray from p) (by simp;omega) λh' eb=>⟨rfl,I.turned (t' :=s.toks) (λb o g e=>eb b o g e) S U G N M⟩
 self:=λ_ _ _ _ _ st h=>wpAny_pyIter_tupleiter st h
theorem yT {P:Program}{w:World}{K:aj}{J:Expr}(it:Addr)(lo:Int)(n:Nat):yQ P w K J (oQ lo n) [it] it (λi h=>IsRangeIter h it (lo+(i:Nat)*1) ((n:Int) - (i:Nat)) 1) where
 mem:=by simp
 obj:=λi h st b d=>by
  have e:b=it:=by simpa using d
  subst e;exact⟨_,st,λv z=>by
   have N :Data.fields _=Data.cell v:=z;cases N⟩
 keep:=λi h h' st k=>k it (by simp) _ st
 item:=by
  intro X y q j l i a s G H E I g st x;subst y q j;obtain⟨B,D,Q,p,u,r⟩:=g it (by simp)
  have W:=Walks.range (prog:=X.prog) (w:=X.w) (I.ok.hd l) it lo 1 n;refine W.item i s _ _ x st λv h' tk S f U=> ?_;obtain⟨t,rfl⟩:=S;have M:Inv X a G H { s with heap:=h',toks:=tk }:=I.turned (λb o d e=>U b o (by simpa using d) e) B D p u r
  refine⟨_,rfl,yR (s:={ s with heap:=h',toks:=tk }) (n:="range_iterator") f rfl rfl (by decide) ⟨.int (lo+i),H,M,⟨t, ?_⟩,⟨rfl,rfl⟩,f,λb d=>(g b d).1⟩⟩
  rw[Int.mul_one]
 done:=by
  intro X y q j l i a s G H E I g st x;subst y q j;obtain⟨B,D,Q,p,u,r⟩:=g it (by simp)
  exact wpAny_pyNext_range_end (I.ok.hd l) st (by have:n<=i:=x;omega) λh' O=>⟨rfl,I.turned (t' :=s.toks) (λb o d e=>O b o d e) B D p u r⟩
 self:=λ_ _ _ _ _ st h=>wpAny_pyIter_rangeiter st h
end L2
namespace L2
open PySem PySem.Spec PyProof.Rows
section
theorem UT {a:List (Addr×Obj)}{d:St}{H:Hp}{s:Shared}{R:It->Hp->Prop}{E:Value->Shared->Prop}{lo hi:Int}{t u v:Tok}{tk:Nat}(I:Inv X a d H s)(i: -(2 ^ 62)<=lo)(k:lo < 2 ^ 62)(j: -(2 ^ 62)<=hi)(l:hi < 2 ^ 62)
  (q:R (oQ lo (hi - lo).toNat) H):wpAny (model X.prog X.w) X.A (pyIter (.ref s.heap.objs.size)) (Cj X a d tg R) E { s with heap:=s.heap.push { cls:= .type "range",data:= .fields #[.int lo t,.int hi u,.int 1 v] },toks:=tk }:=by
 refine wpAny_pyIter_range (IsRange.new ..) (small_one i k j l) ?_;have f:Inv X _ d H { s with heap:=s.heap.push { cls:= .type "range",data:= .fields #[.int lo t,.int hi u,.int 1 v] },toks:=tk }:=I.kept λb o e=>af _ e;refine⟨(s.heap.push _).objs.size,[(s.heap.push _).objs.size],_,_,H,rfl,
  f.kept λb o e=>af _ e,yT _ lo _, ?_,λb g=> ?_,q⟩
 ·have r:lo+((0:Nat))*1=lo:=by simp
  have p:(((hi - lo).toNat):Int) - ((0:Nat))=fo lo hi 1:=by rw[rangeSize_one];split <;> omega
  rw[r,p];exact am _ rfl
 ·have e:b=(s.heap.push { cls:= .type "range",data:= .fields #[.int lo t,.int hi u,.int 1 v] }).objs.size:=by simpa using g
  subst e;exact f.fpOk (ao _) (f.hok.fresh (ao _))
def FZ (a:TA):TI:=λd H R=>a d H λf e=>∃j:Int,f=[.int j]/\ -(2 ^ 62)<=j/\j < 2 ^ 62/\R (oQ 0 j.toNat) e
def Hg (a:TA):TI:=λd H R=>a d H λf e=>∃i j:Int,f=[.int i,.int j]/\(-(2 ^ 62)<=i/\i < 2 ^ 62/\ -(2 ^ 62)<=j/\j < 2 ^ 62)/\R (oQ i (j - i).toNat) e
theorem YM {a:Expr}{f:TA}{p pos:Pos}(i:Gl X "range")(y:X.mg "range"=none)(l:PA X [a] f)(u:starEach [a] X.env=[(false,eval a X.env)]:=by rfl):PI X tg (.Call (.Name "range" p) [a] [] pos) (FZ f):=by
 intro g s o H R I h;refine Call_ (jf I i y boot_range (aZ (lz (l pos _ s o H _ I h) λB J ⟨G,D,v,w,d⟩=> ?_) u rfl));obtain⟨j,e,d,k,q⟩:=d;subst e;cases w with
 | cons r x=>
  cases x;obtain⟨t,rfl⟩:=r;exact call_range_1 (UT v (by omega) (by omega) d k (by simpa using q))
theorem YN (B:Gl X "range")(J:X.mg "range"=none)(o:PA X [a,b] ta)(w:starEach [a,b] X.env=[(false,eval a X.env),(false,eval b X.env)]:=by rfl)(d:starEach [b] X.env=[(false,eval b X.env)]:=by rfl):
  PI X tg (.Call (.Name "range" p) [a,b] [] pos) (Hg ta):=by
 intro k s u H R I h;refine Call_ (jf I B J boot_range (aZ (lz (o pos _ s u H _ I h) λN M ⟨O,K,y,G,f⟩=> ?_) (by rw[w,d]) (by rw[d];rfl)))
 obtain⟨i,j,e,⟨f,l,v,D⟩,q⟩:=f;subst e;cases G with
 | cons r g=>
  cases g with
  | cons x g=>
   cases g;obtain⟨t,rfl⟩:=r;obtain⟨t',rfl⟩:=x;exact call_range_2 (UT y f l v D q)
def AH (j:TI)(g:TG)(tb:TS):TS:=λD a H=>j a H λJ k=>∃W:Nat->Nat->St->Hp->Prop,(∃m,W 0 m a k)/\∀i m a H,W i m a H->
 (J.stop i H/\D.nx a H)\/(J.go i H/\∃N:St->Hp->Prop,(∀σ' d,N σ' d ->∃f,f < m/\W (i+1) f σ' d)/\∀x d,J.yld i H x d ->g x a d λe l=>tb { D with nx:=N,ct:=N,bk:=D.nx } e l)
noncomputable def UU (fp:List Addr)(h:Heap):List (Addr×Obj):=fp.filterMap λb=>(h.get? b).map λo=>(b,o)
theorem jy (a:b∈fp)(e:h.get? b=some o):(b,o)∈UU fp h:=dJ.mpr ⟨b,a,by rw[e];rfl⟩
theorem YO {p:Addr×Obj}(hp:p∈UU fp h):p.1∈fp/\h.get? p.1=some p.2:=by
 obtain⟨b,d,e⟩:=dJ.mp hp;cases q:h.get? b with
 | none=>rw[q]at e;cases e
 | some o=>
  rw[q]at e;have a :=aI e;subst a;exact⟨d,q⟩
theorem Inv.pinned (I:Inv X pins σ H s)(l:∀b∈fp,Jh X pins H b)(j:∀b∈fp,∃o,s.heap.get? b=some o/\∀v,o.data ≠ .cell v):Inv X (pins++UU fp s.heap) σ H s:=
 I.pins_of λp hp=>(bF.mp hp).elim (λz=>I.pin p (aL _ z)) λz=>by
  obtain⟨f,e⟩:=YO z;obtain⟨i,k,g,_⟩:=l p.1 f;obtain⟨o,a,d⟩:=j p.1 f;rw[e]at a;cases a;exact⟨e,i,k,g,d⟩
theorem Inv.unpinned (I:Inv X (pins++pl) σ H s):Inv X pins σ H s:=I.pins_of λp hp=>I.pin p (aL _ (cN _ hp))
theorem Gc (hp:PassesOwn (model X.prog X.w) X.A X.env X.xe)(hc:X.calm=true)(hi:PI X tg iter wi)(hg:PG X tg g)(l:PSs X body tb)
  (hs:∀x,foldedSetIterable iter X.env x=pure x:=by intro _;rfl):PS X (.For tg iter body [] pos) (AH wi g tb):=by
 intro G s σ H D I h;refine wpAny_For (lz (hi _ s σ H _ I h) λv s1 h1=>lz h1 λitv s2 h2=> ?_) hs;obtain⟨it,fp,tn,J,H2,e,I2,T,mq,f2,W,⟨m0,w0⟩,K⟩:=h2;subst e;have q:∀{y :Hp},(∀b∈fp,y b=none)->∀b∈fp,Jh X _ y b:=λhn b l=>⟨hn b l,(f2 b l).2⟩;refine codeAny_forLoop_any (λn s' =>∃i σ' y,Inv X _ σ' y s' /\tn i s'.heap/\(∀b∈fp,y b=none)/\W i n σ' y) ?_ m0 ⟨0,σ,H2,I2,mq,λb l=>(f2 b l).1,w0⟩
 rintro n s3 ⟨i,k,H3,I3,P,M,w3⟩
 rcases K i n k H3 w3 with ⟨O,qn⟩ | ⟨go,N,hN,step⟩
 ·refine cL hp (lz (T.done X rfl rfl rfl hc i _ s3 k H3 _ I3 (q M) P O) λr s4 ⟨hr,I4⟩=> ?_);subst hr;exact wpAny_execs_nil ⟨k,H3,I4,qn⟩
 ·refine cL hp (lz (T.item X rfl rfl rfl hc i _ s3 k H3 _ I3 (q M) P go) λr s4 ⟨u,hr,h4⟩=> ?_);subst hr;refine cL hp (lz h4 λ_ s5 ⟨x,H5,I5,r5,y5,B,Z⟩=> ?_);have S :=I5.pinned (q Z) (T.obj _ _ B);refine cL hp (lz (hg _ s5 k H5 x u _ S r5 (step x H5 y5)) λ_ s6 ⟨U,H6,I6,q6⟩=> ?_);refine cL hp (lz (l _ s6 U H6 _ I6 q6) λf s7 q7=> ?_);have again:∀{a:St} {j:Hp},Inv X (G++UU fp _) a j s7->N a j->∃m,m < n/\∃i σ' y,Inv X _ σ' y s7/\tn i _/\(∀b∈fp,y b=none)/\W i m σ' y :=λ{a j} p Q=>by
   obtain⟨m',hm,w7⟩:=hN a j Q;refine⟨m',hm,i+1,a,j,p.unpinned,T.keep _ _ _ B λb l o e=>(p.pin _ (aL _ (aL _ (jy l e)))).1,λb l=> ?_,w7⟩;obtain⟨o,e,d⟩:=T.obj _ _ B b l;exact(p.pin _ (aL _ (aL _ (jy l e)))).2.1
  cases f with
  | next=>obtain⟨a,j,p,Q⟩:=q7;exact again p Q
  | cont=>obtain⟨a,j,p,Q⟩:=q7;exact again p Q
  | brk=>obtain⟨a,j,p,q7⟩:=q7;exact⟨a,j,p.unpinned,q7⟩
  | ret v=>obtain⟨x7,a,j,p,r7,q7⟩:=q7;exact⟨x7,a,j,p.unpinned,r7,q7⟩
end
end L2
namespace L2
open PySem PySem.Spec PyProof.Rows
abbrev R2:=V->V->Hp->VK->Prop
def lH (X:Cx)(f:Value->Value->Sem Value)(r:R2):Prop:=
 ∀(a:List (Addr×Obj)) (s:Shared) (d:St) (H:Hp) (x y:V) (v u:Value) (Q:VK),Inv X a d H s->Z2 x v->Z2 y u->r x y H Q->
  wpAny (model X.prog X.w) X.A (f v u) (EP X a d Q) X.xe s
def Az (X:Cx)(f:Value->Sem Value)(r:V->Hp->VK->Prop):Prop:=
 ∀(a:List (Addr×Obj)) (s:Shared) (d:St) (H:Hp) (x:V) (v:Value) (Q:VK),Inv X a d H s->Z2 x v->r x H Q->
  wpAny (model X.prog X.w) X.A (f v) (EP X a d Q) X.xe s
def ZB (X:Cx)(f:Value)(r:List V->Hp->VK->Prop):Prop:=
 ∀(a:List (Addr×Obj)) (s:Shared) (d:St) (H:Hp) (xs:List V) (e:List Value) (Q:VK),Inv X a d H s->Z3 xs e->r xs H Q->
  wpAny (model X.prog X.w) X.A (call f e) (EP X a d Q) X.xe s
def BQ (X:Cx)(r:V->Hp->(Bool->Hp->Prop)->Prop):Prop:=
 ∀(a:List _) (s:Shared) (d:St) (H:Hp) (x:V) (v:Value) (Q:Bool->Hp->Prop),Inv X a d H s->Z2 x v->r x H Q->
  wpAny (model X.prog X.w) X.A (truthy v) (TP X a d Q) X.xe s
def sd (r:R2)(d tb:TE):TE:=λa H Q=>d a H λx e=>tb a e λy f=>r x y f Q
def Hk (r:V->Hp->VK->Prop)(a:TE):TE:=λd H Q=>a d H λx e=>r x e Q
def rI (C:Int->Int->Prop)(g:Int->Int->V):R2:=λx y H Q=>∃i j,x= .int i/\y= .int j/\C i j/\Q (g i j) H
def nL (g:Int->Int->V):R2:=λx y H Q=>∃i j,x= .int i/\y= .int j/\Q (g i j) H
def rU (g:Int->V):V->Hp->VK->Prop:=λx H Q=>∃i,x= .int i/\Q (g i) H
section
theorem Aw (q:PE X a ta)(o:PE X b tb){R:V->V->Hp->Prop}(I:Inv X pins σ H s)
  (h:ta σ H λx j=>tb σ j λy d=>R x y d) {Q:Value->Shared->Prop} {f:Value->Value->Sem Value}
  (G:∀v u i x y d,Inv X pins σ d i->Z2 x v->Z2 y u->R x y d->wpAny (model X.prog X.w) X.A (f v u) Q X.xe i):
  wpAny (model X.prog X.w) X.A (eval a X.env) (λv e=>wpAny (model X.prog X.w) X.A (eval b X.env) (λu g=>wpAny (model X.prog X.w) X.A (f v u) Q X.xe g) X.xe e) X.xe s:=by
 refine lz (q _ s σ H _ I h) λv p ⟨x,j,r,B,D⟩=> ?_;refine lz (o _ p σ j _ r D) λu i ⟨y,d,k,J,l⟩=> ?_;exact G v u i x y d k B J l
theorem D9 (l:lH X (binaryOp op) r)(i:PE X a ta)(f:PE X b tb):PE X (.BinOp a op b pos) (sd r ta tb):=by
 intro d s j H Q I h;exact wpAny_BinOp (Aw i f I h λv u g x y k p e o q=>l _ g j k x y v u Q p e o q)
theorem ER {op:UnaryOp}{r:V->Hp->VK->Prop}(i:Az X (unaryOp op) r)(f:PE X a ta):PE X (.UnaryOp op a pos) (Hk r ta):=by
 intro e s d H Q I h;exact UnaryOp_ (lz (f _ s d H _ I h) λv o ⟨x,g,j,k,l⟩=>i _ o d g x v Q j k l)
theorem Am {f:Value->Value->Sem Value}{C:Int->Int->Prop}{g:Int->Int->Int}
  (rule:∀(i j:Int) (t u:Tok) (s:Shared) (Q:Value->Shared->Prop) (E:Value->Shared->Prop),C i j->Q (.int (g i j) s.toks) { s with toks:=s.toks+1 }->wpAny (model X.prog X.w) X.A (f (.int i t) (.int j u)) Q E s):
  lH X f (rI C λi j=> .int (g i j)):=by
 intro a s l H x y v u Q I d k h;obtain⟨i,j,rfl,rfl,e,q⟩:=h;obtain⟨t,rfl⟩:=d;obtain⟨t',rfl⟩:=k;exact rule i j t t' s _ _ e ⟨.int _,H,I.tok _,⟨_,rfl⟩,q⟩
theorem pY {f:Value->Value->Sem Value}{g:Int->Int->Int}
  (rule:∀(i j:Int) (t u:Tok) (s:Shared) (Q:Value->Shared->Prop) (E:Value->Shared->Prop),Q (.int (g i j) s.toks) { s with toks:=s.toks+1 }->wpAny (model X.prog X.w) X.A (f (.int i t) (.int j u)) Q E s):
  lH X f (nL λi j=> .int (g i j)):=by
 intro a s k H x y v u Q I d e h;obtain⟨i,j,rfl,rfl,q⟩:=h;obtain⟨t,rfl⟩:=d;obtain⟨t',rfl⟩:=e;exact rule i j t t' s _ _ ⟨.int _,H,I.tok _,⟨_,rfl⟩,q⟩
theorem sY {f:Value->Value->Sem Value}{g:Int->Int->Bool}
  (rule:∀(i j:Int) (t u:Tok) (s:Shared) (Q:Value->Shared->Prop) (E:Value->Shared->Prop),Q (.bool (g i j)) s->wpAny (model X.prog X.w) X.A (f (.int i t) (.int j u)) Q E s):
  lH X f (nL λi j=> .bl (g i j)):=by
 intro a s k H x y v u Q I d e h;obtain⟨i,j,rfl,rfl,q⟩:=h;obtain⟨t,rfl⟩:=d;obtain⟨t',rfl⟩:=e;exact rule i j t t' s _ _ ⟨.bl _,H,I,rfl,q⟩
noncomputable def Bw (i j:Int):Prop:=0 < j/\j < 1073741824
noncomputable def Ug (i j:Int):Prop:=(-(2 ^ 64) < i/\i < 2 ^ 64)\/(-(2 ^ 64) < j/\j < 2 ^ 64)
theorem Ug.ok (h:Ug i j):IntMulOk i j:=by
 rcases h with ⟨a,d⟩ | ⟨a,d⟩
 ·exact .of_left (intBits_le_64 a d)
 ·exact .of_right (intBits_le_64 a d)
theorem Ge:lH X (binaryOp .Add) (nL λi j=> .int (i+j)):=pY λ_ _ _ _ _ _ _ q=>add_int q
theorem Gf:lH X (binaryOp .Sub) (nL λi j=> .int (i - j)):=pY λ_ _ _ _ _ _ _ q=>sub_int q
theorem Gg:lH X (binaryOp .Mult) (rI Ug λi j=> .int (i*j)):=Am λ_ _ _ _ _ _ _ a q=>mul_int q a.ok
theorem k7:lH X (binaryOp .FloorDiv) (rI Bw λi j=> .int (i / j)):=Am λi j _ _ _ _ _ a q=>by
 have e:=a.1;have d:=a.2;exact floordiv_int (by omega) (by rw[Int.fdiv_eq_ediv_of_nonneg i (by omega)];exact q) (.inl (PyProof.noPylong_small (by omega)))
theorem Gh:lH X (binaryOp .Mod) (rI (λ_ j=>0 < j) λi j=> .int (i % j)):=Am λi j _ _ _ _ _ a q=>by
 exact mod_int' (by omega) (by rw[Int.fmod_eq_emod_of_nonneg i (by omega)];exact q)
theorem Dw {f:Value->Sem Value}{g:Int->Int}
  (rule:∀(i:Int) (t:Tok) (s:Shared) (Q:Value->Shared->Prop) (E:Value->Shared->Prop),Q (.int (g i) s.toks) { s with toks:=s.toks+1 }->wpAny (model X.prog X.w) X.A (f (.int i t)) Q E s):
  Az X f (rU λi=> .int (g i)):=by
 intro a s e H x v Q I d h;obtain⟨i,rfl,q⟩:=h;obtain⟨t,rfl⟩:=d;exact rule i t s _ _ ⟨.int _,H,I.tok _,⟨_,rfl⟩,q⟩
theorem Gi:Az X (unaryOp .USub) (rU λi=> .int (-i)):=Dw λ_ _ _ _ _ q=>neg_int q
theorem YQ:lH X (binaryOp .Add) (λx y H Q=>∃i k,x= .int i/\y= .bl k/\Q (.int (i+b2i k)) H):=by
 intro a s f H x y v u Q I d e h;obtain⟨i,k,rfl,rfl,q⟩:=h;obtain⟨t,rfl⟩:=d;cases e;exact add_int_bool ⟨.int _,H,I.tok _,⟨_,rfl⟩,q⟩
end
section
theorem EV:lH X (compareOp .Lt) (nL λi j=> .bl (decide (i < j))):=sY λ_ _ _ _ _ _ _ q=>lt_int q
theorem DP:lH X (compareOp .LtE) (nL λi j=> .bl (decide (i<=j))):=sY λ_ _ _ _ _ _ _ q=>le_int q
theorem CZ:lH X (compareOp .Gt) (nL λi j=> .bl (decide (j < i))):=sY λ_ _ _ _ _ _ _ q=>gt_int q
theorem Eh:lH X (compareOp .GtE) (nL λi j=> .bl (decide (j<=i))):=sY λ_ _ _ _ _ _ _ q=>ge_int q
theorem jY (b:Expr)(h:op ≠ .In:=by decide)(d:op ≠ .NotIn:=by decide):behindInMarks op b=false:=by
 have e:(op == CmpOp.In)=false:=by cases op <;> first | rfl | exact absurd rfl h
 have a:(op == CmpOp.NotIn)=false:=by cases op <;> first | rfl | exact absurd rfl d
 cases b <;> simp[behindInMarks,e,a]
theorem k8 (l:lH X (compareOp op) r)(i:PE X a ta)(f:PE X b tb)(w:behindInMarks op b=false):PE X (.Compare a [op] [b] pos) (sd r ta tb):=by
 intro d s j H Q I h;exact wpAny_Compare1 (Aw i f I h λv u g x y k p e o q=>l _ g j k x y v u Q p e o q) w
def Gj (t:TE):TT:=λa H Q=>t a H λx d =>∃k,x= .bl k/\Q k d
theorem YR (K:lH X (compareOp op) r)(j:PE X a ta)(J:PE X b tb)(P:behindInMarks op b=false):PT X (.Compare a [op] [b] pos) (Gj (sd r ta tb)):=by
 intro f s d H Q I h;refine wpAny_isTrue_Compare1 (lz (j _ s d H _ I h) λv D ⟨x,l,w,M,N⟩=>lz (J _ D d l _ w N) λu i ⟨y,o,B,O,g⟩=>
  lz (K _ i d o x y v u _ B M O g) λc S ⟨z,H3,q,G,k,e,p⟩=> ?_) P
 subst e;cases G;exact bf ⟨H3,q,p⟩
def xT (r j :R2)(f tb tc:TE):TE:=λa H Q=>f a H λx g=>tb a g λy i=>r x y i λz H3=>∃k,z= .bl k/\
 (if k=true then tc a H3 λd e=>j y d e Q else Q (.bl false) H3)
theorem Vd (ho:lH X (compareOp op) r)(g :lH X (compareOp op') r')(G:PE X a ta)(hb:PE X b tb)(J:PE X c tc)
  (hm:lastMarks [op,op'] [b,c]=false:=by with_unfolding_all rfl):PE X (.Compare a [op,op'] [b,c] pos) (xT r r' ta tb tc):=by
 intro l s f H Q I h;refine Compare_chain (lz (G _ s f H _ I h) λv U ⟨x,K,N,r1,q1⟩=>chain_link (lz (hb _ U f K _ N q1) λu D ⟨y,M,O,o,p⟩=>
  lz (ho _ D f M x y v u _ O r1 o p) λd s3 ⟨z,H3,j,S,k,e,i⟩=> ?_)) hm
 subst e;cases S;refine bf ?_;cases k with
 | false=>exact ite_ff ⟨.bl _,H3,j,rfl,i⟩
 | true=>exact ite_tt (chain_last (lz (J _ s3 f H3 _ j i) λq s4 ⟨P,B,w,r4,Z⟩=>g _ s4 f B y P u q Q w o r4 Z))
theorem Ve (ho:lH X (compareOp op) r)(g :lH X (compareOp op') r')(M:PE X a ta)(hb:PE X b tb)(N:PE X c tc)
  (hm:lastMarks [op,op'] [b,c]=false:=by with_unfolding_all rfl):PT X (.Compare a [op,op'] [b,c] pos) (Gj (xT r r' ta tb tc)):=by
 intro l s f H Q I h;refine isTrue_chain (lz (M _ s f H _ I h) λv s1 ⟨x,O,S,r1,q1⟩=>test_link (lz (hb _ s1 f O _ S q1) λu K ⟨y,P,I2,o,q⟩=>
  lz (ho _ K f P x y v u _ I2 r1 o q) λd s3 ⟨z,H3,j,r3,k,e,i⟩=> ?_)) hm
 subst e;cases r3;refine bf ?_;cases k with
 | false=>
  obtain⟨k',B,p⟩:=i;cases B;exact ite_ff ⟨H3,j,p⟩
 | true=>
  refine ite_tt (test_last (lz (N _ s3 f H3 _ j i) λD s4 ⟨z',J,G,r4,q4⟩=>lz (g _ s4 f J y z' u D _ G o r4 q4) λd' s5 ⟨z2,Z,I5,w,k2,U,q5⟩=> ?_));subst U;cases w;exact bf ⟨Z,I5,q5⟩
def oK (K:aj)(x:V)(H:Hp)(k:Bool):Prop:=
 match x with
 | .non=>k=false
 | .bl b=>k=b
 | .int i=>k=(i != 0)
 | .str y=>y.length<=sizeLine/\k=((y.length:Int) != 0)
 | .byt y=>y.size<=sizeLine/\k=((y.size:Int) != 0)
 | .ref p=>(∃xs,SqL K H p xs/\k= !xs.isEmpty)\/(∃xs,SqT K H p xs/\k= !xs.isEmpty)\/∃a,H p=some (.dK a)/\k= !a.isEmpty
 | _=>False
theorem yU {e:Type}{a:List (e×V)}{d:List (e×Value)}(r:KV a d):(!d.isEmpty)= !a.isEmpty:=by
 cases r <;> rfl
theorem wY (r:Z3 xs its):(!its.toArray.isEmpty)= !xs.isEmpty:=by
 cases r <;> simp
theorem ut:(sizeLine:Nat) < 2 ^ 63:=by decide
theorem Gk:BQ X (λx H Q=>∃k,oK X.K x H k/\Q k H):=by
 intro w s B H x v Q I f h;obtain⟨k,e,q⟩:=h;have D:=cO;cases x with
 | non=>
  cases f;have a :k=false:=e;subst a;exact truthy_none ⟨H,I,q⟩
 | bl b=>
  cases f;have a :k=b:=e;subst a;exact bf ⟨H,I,q⟩
 | int i=>
  obtain⟨t,rfl⟩:=f;have a :k=(i != 0):=e;subst a;exact PySem.P.truthy_int ⟨H,I,q⟩
 | str y=>
  obtain⟨t,rfl⟩:=f;obtain⟨hy,a⟩:y.length<=sizeLine/\k=((y.length:Int) != 0):=e;subst a;exact PySem.P.truthy_str (by omega) ⟨H,I.tok _,q⟩
 | byt y=>
  obtain⟨t,rfl⟩:=f;obtain⟨hy,a⟩:y.size<=sizeLine/\k=((y.size:Int) != 0):=e;subst a;exact PySem.W.truthy_bytes (by omega) ⟨H,I.tok _,q⟩
 | ref p=>
  cases f;have a :=e;rcases a with ⟨xs,g,a⟩ | ⟨xs,g,a⟩ | ⟨j,g,a⟩
  ·subst a;obtain⟨o,r,pl,u⟩:=I.list g;have d:=r.length;exact wpAny_truthy_list pl.isList (by simp only[aD];omega) ⟨H,I.tok _,by rw[wY r];exact q⟩
  ·subst a;obtain⟨o,r,pl,u⟩:=I.tuple g;have d:=r.length;exact truthy_tuple pl (by simp only[aD];omega) ⟨H,I.tok _,by rw[wY r];exact q⟩
  ·subst a;obtain⟨u,hS,l,r,m⟩:j.length<=sizeLine/\(p == sysModules)=false/\∃l,KV j l/\s.heap.DictOf _ p l:=I.hok p _ g;have d:=Paired.length r;exact wpAny_truthy_dict hS m (by omega) ⟨H,I.tok _,by rw[yU r];exact q⟩
 | _=>exact(e).elim
theorem Vf (j:PE X a ta)(i:∀d,isTrue a X.env d=(do let v ← d;standAt a.pos;holding [v] (truthy v))):
  PT X a (λe H Q=>ta e H λx f =>∃k,oK X.K x f k/\Q k f):=by
 intro g s e H Q I h;exact isTrue_plain (lz (j _ s e H _ I h) λv r ⟨x,l,o,p,q⟩=>Gk _ r e l x v Q o p q) (i _)
theorem yV:lH X (binaryOp .Add) (λx y H Q=>∃i j,x= .str i/\y= .str j/\i.length+j.length<=sizeLine/\Q (.str (i++j)) H):=by
 intro a s g H x y v u Q I d f h;obtain⟨i,j,rfl,rfl,e,q⟩:=h;obtain⟨t,rfl⟩:=d;obtain⟨t',rfl⟩:=f;exact add_str (λt' tk=>⟨.str _,H,I.tok _,⟨_,rfl⟩,q⟩) e
theorem ZX (r:Z3 [x] us):∃u,us=[u]/\Z2 x u:=by
 cases r with
 | cons a d=>cases d;exact⟨_,rfl,a⟩
theorem yW (r:Z3 [x,y] us):∃u a,us=[u,a]/\Z2 x u/\Z2 y a :=by
 cases r with
 | cons e d=>
  cases d with
  | cons f g=>cases g;exact⟨_,_,rfl,e,f⟩
theorem Vg:ZB X (.builtin "abs") (λxs H Q=>∃i,xs=[.int i]/\Q (.int (if i < 0 then -i else i)) H):=by
 intro a s e H xs d Q I r h;obtain⟨i,rfl,q⟩:=h;obtain⟨u,rfl,t,rfl⟩:=ZX r;exact call_abs_int λu tk=>⟨.int _,H,I.tok _,⟨_,rfl⟩,q⟩
theorem YS (e:X.calm=true):ZB X (.builtin "max") (λxs H Q=>∃i j,xs=[.int i,.int j]/\Q (.int (if j > i then j else i)) H):=by
 intro d s l H xs f Q I r h;obtain⟨i,j,rfl,q⟩:=h;obtain⟨u,g,rfl,⟨t,rfl⟩,⟨t',rfl⟩⟩:=yW r;refine max_two_ints (I.ok.hd e) λh' tk k=>⟨_,H,I.kept k, ?_,q⟩
 by_cases a:j > i
 ·rw[if_pos a,if_pos a];exact⟨_,rfl⟩
 ·rw[if_neg a,if_neg a];exact⟨_,rfl⟩
theorem YT (e:X.calm=true):ZB X (.builtin "min") (λxs H Q=>∃i j,xs=[.int i,.int j]/\Q (.int (if j < i then j else i)) H):=by
 intro d s l H xs f Q I r h;obtain⟨i,j,rfl,q⟩:=h;obtain⟨u,g,rfl,⟨t,rfl⟩,⟨t',rfl⟩⟩:=yW r;refine min_two_ints (I.ok.hd e) λh' tk k=>⟨_,H,I.kept k, ?_,q⟩
 by_cases a:j < i
 ·rw[if_pos a,if_pos a];exact⟨_,rfl⟩
 ·rw[if_neg a,if_neg a];exact⟨_,rfl⟩
theorem YU:ZB X (.type "int") (λxs H Q=>(∃i,xs=[.int i]/\Q (.int i) H)\/∃k,xs=[.bl k]/\Q (.int (if k then 1 else 0)) H):=by
 intro a s f H xs e Q I r h;rcases h with ⟨i,rfl,q⟩ | ⟨k,rfl,q⟩
 ·obtain⟨u,rfl,t,rfl⟩:=ZX r;exact call_int_int ⟨.int i,H,I,⟨_,rfl⟩,q⟩
 ·obtain⟨u,rfl,d⟩:=ZX r;cases d;exact call_int_bool ⟨.int _,H,I.tok _,⟨_,rfl⟩,q⟩
end
end L2
namespace L2
open PySem PySem.Spec PyProof.Rows
structure z2y (h:Heap) (x dx C:Addr) (mA:Str->Option Value):Prop where
 obj:h.get? x=some (fS C dx)
 ns:h.Ns1 dx mA
 ne:dx ≠ x
theorem YV {h:Heap}{i:Addr}{g:Str->Option Value}(n:h.Ns1 i g):∃f,h.get? i=some f/\∀name,fY name f=some (g name):=by
 obtain⟨o,j,u,p,hd,k,_,r⟩:=n;refine⟨o,p,λname=> ?_⟩;have e:=r name;unfold nsFind findBy at e;rw[← Array.find?_toList]at e;unfold fY;rw[hd];dsimp only;split
 ·rename_i y q;rw[q]at e;exact congrArg _ e
 ·rename_i q;rw[q]at e;have a:j.toList.any (·.refKey)=false:=by
   rw[il];intro y hy;obtain⟨z,t,d⟩:=k y (Array.mem_toList_iff.mp hy);simp[DictEntry.refKey,d]
  have l :¬ j.toList.any (·.refKey)=true:=by rw[a];exact aA
  rw[if_neg l];exact congrArg _ e
theorem z2y.look (I:z2y h x dx C mA):∃a,PySem.W.InstAt h x (fS C dx) C (some a)/\∀name,fY name a=some (mA name):=
 let ⟨a,ho,hl⟩:=YV I.ns
 ⟨a,⟨I.obj,rfl,rfl,ho⟩,hl⟩
section
theorem k9 (i:HOk P w H h)(e:H a=some (.ins C dx fs)):∃g,z2y h a dx C g/\(∀f,tP (fs.lookup f) (g f))/\PySem.Within g (fs.map (·.1))/\fs.length<=1000/\H dx=some (.own a):=by
 obtain⟨d,z,j,ob,g,n,r,q⟩:=(show Zd P w H h a _ from i a _ e);exact⟨g,⟨ob,n,j⟩,r,q,z,d⟩
end
structure Cls (K:aj) (C:Addr):Prop where
 pg:iH K C Str.empty=true
 hd:PySem.W.hasDictIn K C=true
 po:PySem.W.plainOver K C=true
 sa:dP K (.ref C) "__setattr__"=some (some (.builtin "object.__setattr__"))
theorem Cls.get {K:aj}{C:Addr}(c:Cls K C)(f:Str):iH K C f=true:=c.pg
section
end
section
end
section
inductive yX (K:aj) (H:Hp):V->Value->Prop where
 | non:yX K H .non (.type "NoneType")
 | bl (x:Bool):yX K H (.bl x) (.type "bool")
 | int (i:Int):yX K H (.int i) (.type "int")
 | str (x:Str):yX K H (.str x) (.type "str")
 | flt (x:UInt64):yX K H (.flt x) (.type "float")
 | lst {a:Addr} {xs:List V} (e:H a=some (.lst xs)):yX K H (.ref a) (.type "list")
 | frz {a:Addr} {o:Obj} {xs:List V} (e:H a=some (.frz o (.lst xs))):yX K H (.ref a) (.type "list")
 | tup {a:Addr} {xs:List V} (e:H a=some (.tup xs)):yX K H (.ref a) (.type "tuple")
 | dK {a:Addr} {kvs:List (mE×V)} (e:H a=some (.dK kvs)):yX K H (.ref a) (.type "dict")
 | dT {a:Addr} {kvs:List (List mE×V)} (e:H a=some (.dT kvs)):yX K H (.ref a) (.type "dict")
 | ins {a C dx:Addr} {fs:List (Str×V)} (e:H a=some (.ins C dx fs)) (cl:Cls K C) (ha:dP K (.ref C) "__class__"=some (some (.builtin "object.__class__")))
   (hn:im K (.builtin "object.__class__") "__get__"=some (some (.builtin "getset_descriptor.__get__"))) (htk:iX K (.builtin "object.__class__")=some true)
   (hm:i8 K C (.type "object")=some true):yX K H (.ref a) (.ref C)
theorem YW (I:Inv X pins σ H s)(d:Z2 x u)(D:yX X.K H x t)(e:aW X.K t c=some b)(h:∀tk,Q (.bool b) { s with toks:=tk }):
  wpAny (model X.prog X.w) A (call (.builtin "isinstance") [u,c]) Q E s:=by
 cases D with
 | non=>cases (d);exact bL PySem.W.kitx_none I.kIn True.intro e (λz=>nomatch z) h
 | bl y=>cases (d);exact bL PySem.W.kitx_bool I.kIn True.intro e (λz=>nomatch z) h
 | int i=>obtain⟨t,q⟩:=(d);cases q;exact bL PySem.W.kitx_int I.kIn True.intro e (λz=>nomatch z) h
 | str y=>obtain⟨t,q⟩:=(d);cases q;exact bL PySem.W.kitx_str I.kIn True.intro e (λz=>nomatch z) h
 | flt y=>obtain⟨t,q⟩:=(d);cases q;exact bL PySem.W.kitx_float I.kIn True.intro e (λz=>nomatch z) h
 | @lst a xs f=>
  cases (d);obtain⟨_,_,n,_,g⟩:=(show Zd _ X.w H _ a _ from I.hok a _ f);exact bL io I.kIn ⟨_,g,rfl⟩ e (λz=>nomatch z) h
 | @frz a ob xs f=>
  cases (d);obtain⟨_,_,_,n,_,g⟩:=(show Zd _ X.w H _ a _ from I.hok a _ f);exact bL io I.kIn ⟨_,g,rfl⟩ e (λz=>nomatch z) h
 | @tup a xs f=>
  cases (d);obtain⟨_,_,_,p,_⟩:=(show Zd _ X.w H _ a _ from I.hok a _ f);obtain⟨o,g,j,_⟩:=p;exact bL PySem.W.kitx_tuple I.kIn ⟨o,g,j⟩ e (λz=>nomatch z) h
 | @dK a l f=>
  cases (d);obtain⟨_,_,S,_,p⟩:=(show Zd _ X.w H _ a _ from I.hok a _ f);obtain⟨o,B,v,g,j,_⟩:=p;exact bL ip I.kIn ⟨o,g,j.1⟩ e (λz=>nomatch z) h
 | @dT a l f=>
  cases (d);obtain⟨_,_,xs,_,o,B,v,g,j,_⟩:=(show Zd _ X.w H _ a _ from I.hok a _ f);exact bL ip I.kIn ⟨o,g,j.1⟩ e (λz=>nomatch z) h
 | @ins a C P fs f cl r hn k G=>
  cases (d);obtain⟨M,O,_⟩:=k9 I.hok f;obtain⟨N,J,_⟩:=O.look;exact bL (PySem.W.kitx_own (cl.get _) cl.hd r hn k G) I.kIn J e (λz=>nomatch z) h
end
end L2
namespace L2
open PySem PySem.Spec PyProof.Rows
structure ZY (k:Nat) (A:Around):Prop where
 hd:A.handled=none
 dp:A.depth+3*k+5 < recursionLimit
 un:A.units+16*k+200 < cLine
 gd:A.guards=some []
theorem ZY.mono (r:ZY k A)(h:j<=k):ZY j A:=⟨r.hd,by have:=r.dp;omega,by have:=r.un;omega,r.gd⟩
theorem ZY.deeper (r:ZY (k+1) A)(env:Env):ZY k (A.deeper env):=
 ⟨r.hd,by have:=r.dp;show A.depth+1+3*k+5 < _;omega,by have:=r.un;show A.units+3+16*k+200 < _;omega,r.gd⟩
theorem ZY.depth (r:ZY k A):A.depth < recursionLimit:=by have:=r.dp;omega
theorem ZY.units (r:ZY k A):A.units+64 < cLine:=by have:=r.un;omega
def o8:TA:=λ_ H Q=>Q [] H
def Gm (d:TE)(tr:TA):TA:=λa H Q=>d a H λx e=>tr a e λxs f=>Q (x :: xs) f
section
theorem zT:PA X [] o8:=λ_ _ _ _ H Q I h=>iq ⟨[],H,I,.nil,h⟩
theorem zw (g:PE X e te)(hr:PA X es t)(k:starEach (e :: es) X.env=(false,eval e X.env) :: starEach es X.env:=by rfl):PA X (e :: es) (Gm te t):=by
 intro pos d s a H Q I h;rw[k];refine ib (lz (g _ s a H _ I h) λu r ⟨x,i,l,o,p⟩=> ?_);exact lz (hr pos _ r a i _ l p) λw y ⟨xs,j,q,v,f⟩=>⟨x :: xs,j,q,.cons o v,f⟩
def BK (t:TA):TE:=λd H Q=>t d H λxs a=>xs.length<=sizeLine/\∀p,a p=none->Q (.ref p) (lC a p (.tup xs))
def tI (t:TA):TE:=λd H Q=>t d H λxs a=>xs.length<=sizeLine/\∀p,a p=none->Q (.ref p) (lC a p (.lst xs))
theorem Gn {x1}(h:PA X es t):PE X (.Tuple es x1 pos) (BK t):=by
 intro d s j H Q I g;refine wpAny_Tuple_spliced (lz (h pos _ s j H _ I g) λf l ⟨xs,i,a,r,z,q⟩=>⟨by rw[← r.length];exact z, ?_⟩)
 have k:=a.hok.fresh (ao _);refine⟨.ref _,lC i _ _,a.laid (λb u e=>af _ e) (ao _) ?_,rfl,q _ k⟩;exact⟨z,f,r,⟨_,am _ rfl,rfl,_,rfl⟩,.inr ⟨_,am _ rfl,rfl⟩⟩
theorem xU (h:PA X es t):PE X (.List es pos) (tI t):=by
 intro d s j H Q I g;refine wpAny_List_spliced (lz (h pos _ s j H _ I g) λf l ⟨xs,i,a,r,z,q⟩=>⟨by rw[← r.length];exact z, ?_⟩)
 have k:=a.hok.fresh (ao _);refine⟨.ref _,lC i _ _,a.laid (λb u e=>af _ e) (ao _) ?_,rfl,q _ k⟩;exact⟨z,f,0,r,am _ rfl⟩
end
abbrev Sp:=List V->Hp->VK->XK->Prop
abbrev m5:=List Env->Hp->Shared->XK->Value->Shared->Prop
structure xV (P:Program) (w:World) (K:aj) (mg:Str->Option Value) (base:Heap) (A:Around) (outer:List Env) (s:Shared) (H:Hp):Prop where
 frames:A.frames=some outer
 mod:Mod K mg base
 bs:∀b o,base.get? b=some o->s.heap.get? b=some o/\H b=none
 bsz:base.objs.size<=s.heap.objs.size
 funs:s.heap.FunFrames base outer
 frf:∀b∈lR outer,H b=none
 hok:HOk P w H s.heap
 bare:AllBare s.gens
def CE (outer:List Env)(P:Program)(w:World)(H:Hp)(s:Shared)(Q:VK)(u:Value)(a :Shared):Prop:=
 ∃v d,a.os=s.os/\AllBare a.gens/\Un (lR outer) [] H d s.heap a.heap/\HOk P w d a.heap/\Z2 v u/\Q v d
def CR (CX:m5)(outer:List Env)(P:Program)(w:World)(H:Hp)(s:Shared)(Q:VK)(E:XK)(r:Result)(a :Shared):Prop:=
 match r with
 | .ok (.ret u)=>CE outer P w H s Q u a
 | .ok _=>False
 | .error e=>CX outer H s E e a
structure Jj (P:Program) (w:World) (K:aj) (mg:Str->Option Value) (base:Heap) (CX:m5) (k:Nat) (f:Addr) (fd:FuncData) (ps:List Str) (sp:Sp):Prop where
 len:∀vs H Q E,sp vs H Q E->vs.length=ps.length
 run:∀(A:Around) (outer:List Env) (s:Shared) (H:Hp) (args:Args) (us:List Value) (vs:List V) (Q:VK) (E:XK),ZY k A->xV P w K mg base A outer s H->BindsTo s fd args (ps.zip us)->Z3 vs us->sp vs H Q E->
  codeAny (model P w) A (.call (.ref f) args) (CR CX outer P w H s Q E) s
section
theorem Inv.env0 (I:Inv X pins σ H s):xV X.prog X.w X.K X.mg X.base X.A X.stack s H:=
 ⟨I.ok.frames,I.ok.mod,I.bs,ay I.ok.bsz I.sz,I.stack,I.stkFree,I.hok,I.bare⟩
theorem Inv.after (I:Inv X pins σ H s)(h:CE X.stack X.prog X.w H s Q u s'):EP X pins σ Q u s' :=by
 obtain⟨v,i,os,a,un,e,r,q⟩:=h;obtain⟨j,g,d,t,f⟩:=s';obtain rfl:f =s.os:=os;exact⟨v,i,I.call un e a (λb z=>absurd z (by simp)),r,q⟩
end
def Hj (sp:Sp)(a:List V)(E:XK)(t:TA):TE:=λd H Q=>t d H λf e=>sp (f++a) e Q E
noncomputable def Binds (K:aj)(f:FuncData)(e:List Str)(d:List Value):Prop:=
 ∀(s:Shared) (a:List Value),K.In s.heap->(a++d).length=e.length->BindsTo s f ⟨a,[]⟩ (e.zip (a++d))
theorem Binds.all {K:aj}{f:FuncData}{d:List Str}(h:∀a:List Value,a.length=d.length->bindArgs f ⟨a,[]⟩=pure (d.zip a)):Binds K f d []:=λs a _ e=>by
 rw[bo]at e ⊢;exact .of_eq (h a e)
def Zq (CX:m5)(X:Cx)(E:XK):Prop:=∀(a:List (Addr×Obj)) (f:St) (H:Hp) (s:Shared) (e:Value) (d :Shared),Inv X a f H s->CX X.stack H s E e d ->X.xe e d
section
theorem Go (F:Jj X.prog X.w X.K X.mg X.base CX k f fd ps sp)(hr:ZY k X.A)(g:Binds X.K fd ps ds)(hd:Z3 dvs ds)(i:Zq CX X E)
  (I:Inv X pins σ H s) (r:Z3 vs us) (h:sp (vs++dvs) H Q E):wpAny (model X.prog X.w) X.A (call (.ref f) us) (EP X pins σ Q) X.xe s:=by
 have d:=r.append hd;have l:(us++ds).length=ps.length:=by rw[← d.length];exact F.len _ _ _ _ h
 refine wpAny_call (d8 (F.run X.A _ s H _ _ _ Q E hr I.env0 (g s us I.kIn l) d h) λr j a=> ?_);cases r with
 | error e=>exact i _ σ H s e j I a
 | ok o=>
  cases o with
  | ret u=>exact I.after a
  | next=>exact cx a
  | brk=>exact cx a
  | cont=>exact cx a
theorem Wn (F:Jj X.prog X.w X.K X.mg X.base CX k f fd ps sp)(hr:ZY k X.A)(l:Gl X x)(D:X.mg x=some (.ref f))(j:cG X.K (.ref f)=true)(u:Binds X.K fd ps ds)(hd:Z3 dvs ds)(B:Zq CX X E)
  (v:PA X (e :: es) t) (d:(x == ("__debug__":Str))=false:=by decide) (o:starEach (e :: es) X.env=(false,eval e X.env) :: starEach es X.env:=by rfl) (a:(backTo pos (starEach es X.env)).any (·.1)=false:=by rfl):
  PE X (.Call (.Name x p) (e :: es) [] pos) (Hj sp dvs E t):=by
 intro i s y H Q I h;refine cH (Wm I l D ?_ d);refine PySem.W.callWith_K I.ok.mod.kin j (lz (v pos _ s y H _ I h) λG N ⟨M,J,g,r,q⟩=>⟨g.kIn, ?_⟩) o a;exact Go F hr u hd B g r q
end
def PK (X:Cx)(e:List Keyword)(t:TA):Prop:=
 ∀(pos:Pos) (a:List (Addr×Obj)) (s:Shared) (d:St) (H:Hp) (Q:List V->Hp->Prop),Inv X a d H s->t d H Q->wpAny (model X.prog X.w) X.A (evalAll ((backToKw pos (keywordEach e X.env)).map (·.2))) (AP X a d Q) X.xe s
section
variable {kws:List Keyword}{nm:Option Str}
theorem Gp:PK X [] o8:=λ_ _ _ _ H Q I h=>wpAny_evalAll_nil ⟨[],H,I,.nil,h⟩
theorem YX (g:PE X e te)(hr:PK X kws t):PK X (⟨nm,e,kpos⟩ :: kws) (Gm te t):=by
 intro pos d s a H Q I h;refine wpAny_evalAll_cons (aa (lz (g _ s a H _ I h) λu q ⟨x,i,k,l,o⟩=>aa (wpAny_standAt (aw ?_))));exact lz (hr pos _ q a i _ k o) λv w ⟨xs,j,p,r,f⟩=>⟨x :: xs,j,p,.cons l r,f⟩
variable {g:List Value->List Value->List Value}{gV:List V->List V->List V}
end
structure j2 (N P:List Str) (sc:Scope):Prop where
 kind:sc.kind= .function
 co:sc.isCoroutine=false
 gen:sc.isGenerator=false
 nd:N.Nodup
 pre:N.take P.length=P
 par:∀x∈P,sc.names.lookup x=some .local\/sc.names.lookup x=some .cell
 nofree:∀y∈sc.names,y.2 ≠ .free
theorem uu {kindOf:Str->Option NameKind}{x:Str}:∀{binds:List (Str×Value)} {m:Str->Option Value},(∀v,(x,v) ∉ binds)->bindL kindOf binds m x=m x
 | [],_,_=>rfl
 | (n,v) :: r,m,h=>by
  unfold bindL;rw[uu λw a=>h w (ac _ a)];split
  ·have:x ≠ n:=by rintro rfl;exact h v ag
   simp[this]
  ·rfl
theorem uv {kindOf:Str->Option NameKind}{x:Str}:∀{binds:List (Str×Value)} {m:Str->Option Value},(∀v,(x,v) ∉ binds)->bindC kindOf binds m x=m x
 | [],_,_=>rfl
 | (n,v) :: r,m,h=>by
  unfold bindC;rw[uv λw a=>h w (ac _ a)];split
  ·rfl
  ·have:x ≠ n:=by rintro rfl;exact h v ag
   simp[this]
theorem uw {kindOf:Str->Option NameKind}{x:Str}{v:Value}:∀{P:List Str} {a:List Value} {i:Nat} {m:Str->Option Value},P.Nodup->P[i]? =some x->a[i]? =some v->kindOf x=some .local->
  bindL kindOf (P.zip a) m x=some v
 | [],_,_,_,_,h,_,_=>by simp at h
 | _ :: _,[],_,_,_,_,h,_=>by simp at h
 | p :: P,w :: a,0,m,nd,d,e,f=>by
  simp at d e;subst d;subst e;show bindL _ ((p,w) :: P.zip a) m p=_;unfold bindL;rw[uu λv g=>(dI.mp nd).1 (cM g).1,if_pos f];simp
 | p :: P,w :: a,i+1,m,nd,d,e,f=>by
  show bindL _ ((p,w) :: P.zip a) m x=_;exact uw (dI.mp nd).2 (by simpa using d) (by simpa using e) f
theorem ux {kindOf:Str->Option NameKind}{x:Str}{v:Value}:∀{P:List Str} {a:List Value} {i:Nat} {m:Str->Option Value},P.Nodup->P[i]? =some x->a[i]? =some v->kindOf x ≠ some .local->
  bindC kindOf (P.zip a) m x=some v
 | [],_,_,_,_,h,_,_=>by simp at h
 | _ :: _,[],_,_,_,_,h,_=>by simp at h
 | p :: P,w :: a,0,m,nd,d,e,f=>by
  simp at d e;subst d;subst e;show bindC _ ((p,w) :: P.zip a) m p=_;unfold bindC;rw[uv λv g=>(dI.mp nd).1 (cM g).1,if_neg f];simp
 | p :: P,w :: a,i+1,m,nd,d,e,f=>by
  show bindC _ ((p,w) :: P.zip a) m x=_;exact ux (dI.mp nd).2 (by simpa using d) (by simpa using e) f
def start (N:List Str)(a:List V):St:=a.map some++ai (N.length - a.length) none
def jO (CX:m5)(P:Program)(w:World)(K:aj)(mg:Str->Option Value)(base:Heap)(N:List Str)(a:Str)(scope:Scope)(f:Addr)(cd:Value)(A:Around)(outer:List Env)(s:Shared)(H:Hp)(E:XK):Cx where
 prog:=P
 w:=w
 K:=K
 mg:=mg
 base:=base
 A:=A.deeper (envOfC a scope s.heap.objs.size f cd)
 N:=N
 s₀:=s
 H₀:=H
 env:=envOfC a scope s.heap.objs.size f cd
 outer:=outer
 stack:=envOfC a scope s.heap.objs.size f cd :: outer
 ex:=[]
 calm:=true
 fn:=λ_=>true
 pn:=[]
 xe:=λe i =>wpAny (model P w) (A.deeper (envOfC a scope s.heap.objs.size f cd)) (leaving (envOfC a scope s.heap.objs.size f cd) e) (λ_ d =>CX outer H s E e d) (λg d =>CX outer H s E g d) i
theorem UV {a:Scope}{n:Nat}{x:Str}(h:a.names.lookup x=some .cell):∃c,(cellsFrom n a.names []).lookup x=some c:=by
 have q:=fM _ n [] (.inl h);exact dD.mp q
theorem YY {CX:m5}{P:Program}{w:World}{K:aj}{I:Str->Option Value}{base:Heap}{N B:List Str}{d:Str}{scope:Scope}{f:Addr}{cd:Value}{A:Around}{outer:List Env}{s O:Shared}{H:Hp}{E:XK}{J:List Value}{o:List V}
  (S:j2 N B scope) (hd:A.handled=none) (j:xV P w K I base A outer s H) (hl:o.length=B.length) (r:Z3 o J)
  (x:InCallC s s.heap.objs.size (bindL (envOfC d scope s.heap.objs.size f cd).kindOf (B.zip J) λ_=>none) (cellsFrom (s.heap.objs.size+1) scope.names []) (bindC (envOfC d scope s.heap.objs.size f cd).kindOf (B.zip J) λ_=>none) O):
  Inv (jO CX P w K I base N d scope f cd A outer s H E) [] (start N o) H O:=by
 have U:=by have:=congrArg List.length S.pre;rw[bX]at this;omega
 obtain⟨G,tk,rfl,Q⟩:=x.done;have l:∀b,b ∉ (jO CX P w K I base N d scope f cd A outer s H E).ex:=λb z=>absurd (show b∈([]:List _) from z) (by simp)
 refine⟨⟨j.mod,S.kind,rfl,rfl,ao _,λy z c G g=> ?_,λy hy=> ?_,λy c _ h=> ?_,λ_=>hd,fZ j.frames,.inr ⟨rfl,rfl⟩,λb z=>absurd z (l b),j.bs,j.bsz,λb _ _=>l b,λb z=>absurd z (l b),j.funs,j.frf⟩,
  rfl,j.bare,Un.kept Q,⟨_,x.toInCall.ns,λi y v G g h3=> ?_⟩,λy c h=>⟨_,x.cell y c h⟩,j.hok.fresh (ao _),λy c h=> ?_,λp hp=>absurd (show p∈([]:List _) from hp) (by simp),j.hok.kept Q, ?_⟩
 ·exact name_of_addr x.apart (bu G) (bu g)
 ·rcases hy with hy | hy
  ·exact UV hy
  ·exact absurd rfl (S.nofree _ (bu hy))
 ·exact fL (x.above y c (bu h))
 ·have hi:i < o.length:=by
   unfold start at g
   by_cases hi:i < o.length
   ·exact hi
   ·rw[aQ (by simpa using hi)]at g
    rw[aJ]at g;split at g <;> cases g
  have Z:o[i]? =some v:=by
   unfold start at g;rw[aV (by simpa using hi),av]at g
   cases e:o[i]? with
   | none=>rw[e]at g;cases g
   | some a=>rw[e]at g;cases g;rfl
  obtain⟨u,M,X⟩:=r.get Z;have hp:B[i]? =some y:=by
   rw[← S.pre,dE (by omega)];exact G
  have D:B.Nodup:=by rw[← S.pre];exact S.nd.sublist (List.take_sublist _ _)
  refine⟨u,X, ?_⟩;rcases S.par y (bc hp) with k | k
  ·exact .inl ⟨k,uw D hp M k⟩
  ·obtain⟨c,e⟩:=UV k;refine .inr ⟨.inl k,c,e, ?_⟩;have q:=x.cell y c e;rw[ux D hp M (by show scope.names.lookup y ≠ _;rw[k];decide)]at q
   exact q
 ·exact j.hok.fresh (fL (x.above y c (bu h)))
 ·unfold start;show _=N.length;rw[az,ah,aT];omega
theorem Vh {CX:m5}{P:Program}{w:World}{K:aj}{O:Str->Option Value}{base:Heap}{k:Nat}{f:Addr}{name a:Str}{d:Arguments}{body:List Stmt}{scope:Scope}{dV kV G pm cdv ct oc:Value}{an od:Option Addr}
  {Z:Array (Option Value)} {N U:List Str} {sp:Sp} (lk:K.lookup f=some ⟨oc,od,.func (cz name a d body scope dV kV G pm an cdv ct),Z⟩) (hcd:eR K cdv a=true) (S:j2 N U scope)
  (len:∀l H Q E,sp l H Q E->l.length=U.length)
  (j:∀(A:Around) (outer:List Env) (s:Shared) (H:Hp) (l:List V) (Q:VK) (E:XK),ZY k (A.deeper (envOfC a scope s.heap.objs.size f cdv))->sp l H Q E->
   ∃t,PSs (jO CX P w K O base N a scope f cdv A outer s H E) body t/\t { nx:=λ_ g =>Q .non g,rt:=Q } (start N l) H):
  Jj P w K O base CX (k+1) f (cz name a d body scope dV kV G pm an cdv ct) U sp:=by
 refine⟨len,λA outer s H args us l Q E hr D hb r B=> ?_⟩;have hl:=len _ _ _ _ B;have KX:=D.mod.kin.keeps λb o e=>(D.bs b o e).1;have lim:=D.mod.nolimit.keeps λb o e=>(D.bs b o e).1;have i:∀y∈U.zip us,scope.names.lookup y.1=some _\/(scope.names.lookup y.1=some _/\((cellsFrom (s.heap.objs.size+1) _ []).lookup y.1).isSome=true):=λ⟨n,v⟩ hy=>by
  rcases S.par n (cM hy).1 with q | q
  ·exact .inl q
  ·exact .inr ⟨q,fM _ _ _ (.inl q)⟩
 refine codeAny_call_function hr.depth (KX _ _ lk) rfl S.co S.gen rfl (PySem.W.codeRec_of KX hcd) (hb _ _ _ _ ?_);refine wpAny_newFunctionEnv_cells S.kind i λenv he s1 x=> ?_;subst he;refine⟨lim.keeps x.toInCall.keep,codeAny_func ?_⟩;obtain⟨t,ht,hq⟩:=j A _ s H l Q E (hr.deeper _) B;have I:Inv (jO CX P w K O _ N _ _ f cdv A _ s H E) [] _ H s1:=YY S hr.hd D hl r x;refine bV (ht [] s1 _ H _ I hq) (λfl X p=> ?_) λe X p=>p;have M:∀{σ' :St} {g :Hp} {v:V} {u:Value},Inv (jO CX P w K O base N a scope f cdv A outer s H E) [] σ' g X ->Z2 v u->Q v g ->CE _ P w H s Q u X :=
  λ{σ' g v u} J rv q=>⟨v,g,J.os,J.bare,J.base,J.hok,rv,q⟩
 cases fl with
 | ret u=>
  obtain⟨v,σ',g,J,rv,q⟩:=p;exact M J rv q
 | next=>
  obtain⟨σ',g,J,q⟩:=p;exact M (v:=V.non) J rfl q
 | brk=>
  obtain⟨_,_,_,q⟩:=p;exact cx q
 | cont=>
  obtain⟨_,_,_,q⟩:=p;exact cx q
end L2
namespace L2
open PySem PySem.Spec PyProof.Rows
section
variable {X:Cx}{x:Str}{p pos:Pos}{e:Expr}{es:List Expr}{t:TA}{id T:String}{r:List V->Hp->VK->Prop}
def Cg (r:List V->Hp->VK->Prop)(t:TA):TE:=λd H Q=>t d H λf a=>r f a Q
theorem ZZ (o:ZB X (.builtin id) r)(i:Gl X x)(G:X.mg x=none)(u:bootBuiltins x=some (.builtin id))(l:PA X (e :: es) t)(hn:x ≠ "__name__":=by decide)(d:(x == ("__debug__":Str))=false:=by decide)
  (j:starEach (e :: es) X.env=(false,eval e X.env) :: starEach es X.env:=by rfl) (a:(backTo pos (starEach es X.env)).any (·.1)=false:=by rfl):PE X (.Call (.Name x p) (e :: es) [] pos) (Cg r t):=by
 intro g s f H Q I h;refine cH (jf I i G u ?_ hn d);exact PyProof.Rows.callWith_builtin1 (lz (l pos _ s f H _ I h) λk D ⟨y,q,v,w,B⟩=>o _ D f q y k Q v w B) j a
theorem jZ (o:ZB X (.type T) r)(i:Gl X x)(G:X.mg x=none)(u:bootBuiltins x=some (.type T))(l:PA X (e :: es) t)(hn:x ≠ "__name__":=by decide)(d:(x == ("__debug__":Str))=false:=by decide)
  (j:starEach (e :: es) X.env=(false,eval e X.env) :: starEach es X.env:=by rfl) (a:(backTo pos (starEach es X.env)).any (·.1)=false:=by rfl):PE X (.Call (.Name x p) (e :: es) [] pos) (Cg r t):=by
 intro g s f H Q I h;refine cH (jf I i G u ?_ hn d);exact aZ (lz (l pos _ s f H _ I h) λk D ⟨y,q,v,w,B⟩=>o _ D f q y k Q v w B) j a
end
end L2
namespace HT
open PySem PyProof.Rows
noncomputable def lexLt:List Int->List Int->Bool
 | [],[]=>false
 | [],_ :: _=>true
 | _ :: _,[]=>false
 | x :: xs,y :: ys=>if x=y then lexLt xs ys else decide (x < y)
theorem lexLt_cons (x y:Int)(xs ys:List Int):lexLt (x :: xs) (y :: ys)=if x=y then lexLt xs ys else decide (x < y):=rfl
theorem Wo:lexLt [] []=false:=rfl
theorem wN (y:Int)(ys:List Int):lexLt [] (y :: ys)=true:=rfl
theorem wO (x:Int)(xs:List Int):lexLt (x :: xs) []=false:=rfl
theorem Vi (A:Around)(s:Shared)(a:Int)(t:Tok)(c:Int)(u:Tok):∃e,cS A s (.int a t) (.int c u) e/\(e=true↔a=c):=
 ⟨(a == c),cS.int_int a t c u,by simp⟩
theorem Vj (A:Around)(s:Shared)(a:Int)(t:Tok)(c:Int)(u:Tok)(prog:Program)(w:World)(E:Value->Shared->Prop)(Q:Value->Shared->Prop)(h:Q (.bool (decide (a < c))) s):
  wpAny (model prog w) A (richCompare .Lt (.int a t) (.int c u)) Q E s:=
 (PyProof.Rows.lt_int h:wpAny _ A _ Q E s)
section
open PySem.SeqAt
open PySem.AutoSeq1 (wpAny_loadPart')
open PySem.MeetsSeq PySem.MeetsSeq2 PySem.MeetsSeq3
theorem Wp (l b:Addr)(items f:Array Value)(n n2:Nat)(dd Q:Option Addr)(X N:Array (Option Value))(ns J:List Int)(hi:IntsAre items.toList ns)(S:IntsAre f.toList J):
  Meets (Builtin.«tuple.__lt__» ⟨[.ref l,.ref b],[]⟩)
   (λ_ R s=>s.heap.get? l=some { cls:= .type "tuple",dict:=dd,data:= .seq items n,slots:=X }/\s.heap.get? b=some { cls:= .type "tuple",dict:=Q,data:= .seq f n2,slots:=N }/\
    R (.ok (.ret (.bool (lexLt ns J)))) s):=
 .of_wp λprog w A R s h=>by
  obtain⟨hp,g,d,tk,os⟩:=s;obtain⟨hl,hb,h⟩:=h;have f2:=AutoSeq1.sub_tuple_tuple;have z1:items.size=ns.length:=by rw[← hi.length];simp
  have z2:f.size=J.length:=by rw[← S.length];simp
  wp_walk using wpAny_loadPart' hl,wpAny_loadPart' hb,wpAny_forIn_list _ (λrest b P =>b.1=none/\P =⟨hp,g,d,tk,os⟩/\∃(M K:List Value) (k j :List Int),rest=M.zip K/\
   IntsAre M k /\IntsAre K j /\k.length+f.size=j.length+items.size/\R (.ok (.ret (.bool (lexLt k j)))) ⟨hp,g,d,tk,os⟩) _
  case turn=>
   rintro⟨y,x⟩ rest b P ⟨B,rfl,M,K,k,j,o,D,p,i,r⟩
   cases D with
   | nil=>rw[List.zip_nil_left]at o;cases o
   | cons a t I =>
    cases p with
    | nil=>rw[List.zip_nil_right]at o;cases o
    | cons c u G =>
     rw[d9]at o;injection o with hyx hrest;injection hyx with hy hx;subst hy hx;rw[lexLt_cons]at r;simp only[ar]at i;obtain⟨e,he,v⟩:=Vi A.in1 ⟨hp,g,d,tk,os⟩ a t c u;refine aa (he prog w _ _ ?_);cases e with
     | true=>
      rw[if_pos (v.mp rfl)]at r
      wp_walk
      exact⟨rfl,rfl,_,_,_,_,hrest,I,G,by omega,r⟩
     | false=>
      rw[if_neg (λq=>absurd (v.mpr q) aA)]at r;have O:=Vj A.in1 ⟨hp,g,d,tk,os⟩ a t c u prog w
      wp_walk using O
      exact⟨_,rfl,by simpa using r⟩
  case fin=>
   rintro⟨b1,b2⟩ P ⟨B,rfl,M,K,k,j,o,D,p,i,r⟩
   simp only at B;subst B;have U:lexLt k j =decide (items.size < f.size):=by
    cases D with
    | nil=>
     cases p with
     | nil=>
      simp only[bw]at i;rw[Wo];exact(decide_eq_false (by omega)).symm
     | cons c u Z=>
      simp only[bw,ar]at i;rw[wN];exact(decide_eq_true (by omega)).symm
    | cons a t U=>
     cases p with
     | nil=>
      simp only[bw,ar]at i;rw[wO];exact(decide_eq_false (by omega)).symm
     | cons c u Z=>
      rw[d9]at o;cases o
   rw[U]at r
   wp_walk
   exact⟨_,rfl,by simpa[Builtin.Tuple.tupleCompareSizes] using r⟩
  case h=>
   exact⟨rfl,rfl,items.toList,f.toList,ns,J,rfl,hi,S,by omega,h⟩
end
section
theorem lt_tupInts (v:IsTup s.heap l items)(p:IsTup s.heap b items2)(hi:IntsAre items.toList ns)(u:IntsAre items2.toList ms)
  (o:A.units < cLine) (h:Q (.bool (lexLt ns ms)) s):wpAny (model prog w) A (compareOp .Lt (.ref l) (.ref b)) Q E s:=by
 obtain⟨⟨cls,dd,data,q⟩,i,r,n,hd⟩:=id v;obtain⟨⟨j,g,data2,d⟩,a,f,k,e⟩:=id p;subst r hd f e;exact richCompare_meets_room (op:= .Lt) ⟨_,i,rfl⟩ ⟨_,a,rfl⟩ PySem.F.slot_tuple_lt PySem.F.entry_tuple_lt (PySem.F.args_tuple_lt_2 _ _) (Wp l b _ _ n k dd g q d ns ms hi u)
  ⟨i,a,show Value.bool _ ≠ Value.notImplemented/\Q _ s from ⟨(λx=>nomatch x),h⟩⟩ o
theorem cat_tup (r:IsTup s.heap t vs.toArray)(u:IsTup s.heap b ws.toArray)(p:vs ≠ [])
  (v:ws=[]->Q (.ref t) s) (y:ws ≠ []->Q (.ref s.heap.objs.size) { s with heap:=s.heap.push { cls:= .type "tuple",data:= .seq (vs++ws).toArray } })
  (hsz:vs.length+ws.length<=sizeLine):wpAny (model prog w) A (binaryOp .Add (.ref t) (.ref b)) Q E s:=by
 obtain⟨⟨cls,dd,data,o⟩,g,x,n,hd⟩:=id r;obtain⟨⟨q,f,data2,d⟩,a,k,l,j⟩:=id u;subst x hd k j;have e:vs.toArray++ws.toArray=(vs++ws).toArray:=by simp
 by_cases i:ws=[]
 ·exact concat_meets ⟨_,g,rfl⟩ ⟨_,a,rfl⟩ noFill_tuple_add seq_tuple_add dQ dM (dF _ _)
   (tuple_addW1 t b _ _ n l dd f o d (by simpa using p) (by simp[i])) ⟨g,a,v i⟩
 ·refine concat_meets ⟨_,g,rfl⟩ ⟨_,a,rfl⟩ noFill_tuple_add seq_tuple_add dQ dM (dF _ _)
   (tuple_addW2 t b _ _ n l dd f o d (by simpa using p) (by simpa using i) (by exact hsz)) ⟨g,a, ?_⟩
  rw[e];exact y i
noncomputable def sIx (n d:Nat):Option Int->Nat
 | none=>d
 | some v=>if v < 0 then (v+(n:Int)).toNat else min v.toNat n
theorem sIx_none (n d:Nat):sIx n d none=d:=rfl
theorem sIx_nat (n d k:Nat):sIx n d (some (k:Int))=min k n:=by
 show (if (k) < 0 then ((k:Int)+(n)).toNat else min _ n)=min k n
 rw[if_neg (by omega),a_]
theorem YZ (v:Int)(n d:Nat):(if v < 0 then max (v+(n:Int)) 0 else min v (n:Int))=((sIx n d (some v):Nat):Int):=by
 show (if v < 0 then max _ 0 else min v (n))=(((if v < 0 then (v+(n)).toNat else min _ n):Nat):Int)
 by_cases a:v < 0
 ·simp only[if_pos a];omega
 ·simp only[if_neg a];omega
theorem yY (lo hi:Option Int)(n:Nat):eZ lo hi 1 (n:Int)=(((sIx n 0 lo:Nat):Int),((sIx n n hi:Nat):Int)):=by
 refine Prod.ext ?_ ?_
 ·cases lo with
  | none=>rfl
  | some v=>exact YZ v n 0
 ·cases hi with
  | none=>rfl
  | some v=>exact YZ v n n
theorem yZ (i j:Nat):dA (i:Int) (j:Int) 1=j - i:=by
 unfold dA;split <;> omega
theorem wZ {o:Option Int}{Q:Option Int->Shared->Prop}(p:IsPart v o)(h:Q o s):wpAny (model prog w) A (Builtin.Slice.slicePartIndex v) Q E s:=by
 cases p with
 | none=>exact slicePart_none h
 | int i t=>exact slicePart_int h
theorem sliceApplied_gen {lo hi:Option Int}{Q:Int×Int×Nat->Shared->Prop}(e:s.heap.IsSliceOf sl vl vu .none)(pl:IsPart vl lo)(f:IsPart vu hi)
  (h:Q (((sIx n 0 lo:Nat):Int),1,sIx n n hi - sIx n 0 lo) s):wpAny (model prog w) A (Builtin.Slice.sliceApplied (.ref sl) (pure (n:Int))) Q E s:=by
 obtain⟨os,a,g,d⟩:=id e;refine aa (aa (bz a d rfl (aa (bz a d rfl (aa (bz a d rfl (aw ?_)))))));refine aa (slicePart_none ?_);refine aa (wZ pl (aa (wZ f (aa (aw ?_)))));show wpAny _ _ (match eZ lo hi 1 _ with | (lo,hi)=>pure (lo,(1:Int),dA lo hi 1)) _ _ s
 rw[yY lo hi n];show wpAny _ _ (pure _) _ _ s;rw[yZ];exact aw h
theorem Vk (xs:Array Value)(i k:Nat):((aU k).filterMap λ(m:Nat)=>xs[((i:Int)+(m:Int)*1).toNat]?).toArray=((xs.toList.drop i).take k).toArray:=by
 have e:(λ(m:Nat)=>xs[((i:Int)+(m)*1).toNat]?)=λm=>xs[i+m]? :=by
  funext m
  have:((i:Int)+(m)*1).toNat=i+m:=by omega
  rw[this]
 rw[e];have:=pick_run xs i k;rw[List.filterMap_map]at this;have a:((λx=>xs[x]?) ∘ λx=>i+x)=λm=>xs[i+m]? :=rfl;rw[a]at this;rw[this]
theorem getItem_tuple_cut {lo hi:Option Int}(d:IsTup s.heap t items)(j:s.heap.IsSliceOf sl vl vu .none)(pl:IsPart vl lo)(k:IsPart vu hi)
  (l:¬ (sIx items.size 0 lo=0/\sIx items.size items.size hi=items.size))
  (h:Q (.ref s.heap.objs.size) { s with heap:=s.heap.push { cls:= .type "tuple",data:= .seq ((items.toList.drop (sIx items.size 0 lo)).take (sIx items.size items.size hi - sIx items.size 0 lo)).toArray } })
  (hsz:items.size<=sizeLine):wpAny (model prog w) A (getItem (.ref t) (.ref sl)) Q E s:=by
 have a:sizeOk (.seq ((items.toList.drop (sIx items.size 0 lo)).take (sIx items.size items.size hi - sIx items.size 0 lo)).toArray):=by
  show ((items.toList.drop _).take _).toArray.size<=sizeLine;rw[aD,bX,ce,eL];omega
 obtain⟨os,f,e,o⟩:=id j;have g:s.TypeIs (.ref sl) _:=⟨os,f,e⟩;unfold getItem
 try with_reducible refine bM ?_
 refine aa (wpAny_sequenceKey d.typeIs (by decide) ?_)
 refine aa (bJ d.typeIs bA
  (cf bA d.typeIs entry_tuple_getitem ?_ (args_tuple_getitem _ _)))
 show wpAny _ _ (eT _ >>= _) _ _ s;refine aa (tupleItemsOf_ d ?_);refine aa (wpAny_typeOf g ?_);refine aa (sliceApplied_gen j pl k ?_);have i:¬ ((((sIx items.size 0 lo):Int) == 0 && (1:Int) == 1 && (sIx items.size items.size hi - sIx items.size 0 lo) == items.size)=true):=by
  intro q;rw[ae,ae]at q;have r:=eq_of_beq q.1.1;have p:=eq_of_beq q.2;exact l ⟨by omega,by omega⟩
 show wpAny _ _ (if (((sIx _ 0 lo:Nat):Int) == 0 && (1) == 1 && (sIx _ _ hi - sIx _ 0 lo) == items.size)=true then _ else _) _ _ s
 rw[if_neg i,Vk]
 first
  | exact aa (bx (aw ⟨_,rfl,aw h⟩) a)
  | exact aa _
  | exact aa _
  | exact aa _
end
end HT
namespace L2
open PySem PySem.Spec PyProof.Rows
abbrev TO:=St->Hp->(Option Int->Hp->Prop)->Prop
def PO (X:Cx)(e:Option Expr)(t:TO):Prop:=
 ∀(a:List (Addr×Obj)) (s:Shared) (d:St) (H:Hp) (Q:Option Int->Hp->Prop),Inv X a d H s->t d H Q->
  wpAny (model X.prog X.w) X.A (evalPart e X.env) (λu g =>∃o f,Inv X a d f g /\IsPart u o/\Q o f) X.xe s
def ka:TO:=λ_ H Q=>Q none H
def E2 (t:TE):TO:=λd H Q=>t d H λx a=>∃i,x= .int i/\Q (some i) a
theorem W0 {ns:List Int}:∀{a:List Value},Z3 (ns.map V.int) a->IntsAre a ns:=by
 induction ns with
 | nil=>intro a r;cases r;exact .nil
 | cons n ns f=>
  intro a r;cases r with
  | cons d g=>
   obtain⟨t,e⟩:=d;subst e;exact .cons n t (f g)
section
variable {X:Cx}{e:Expr}{te:TE}{lo hi:Option Expr}{tl th:TO}{pos p2:Pos}
theorem kb:PO X none ka:=by
 intro a s d H Q I h;exact aw ⟨none,H,I,.none,h⟩
theorem kd (h:PE X e te):PO X (some e) (E2 te):=by
 intro a s f H Q I l;refine lz (h _ s f H _ I l) λu o ⟨x,d,g,j,k⟩=> ?_;obtain⟨i,rfl,q⟩:=k;obtain⟨t,rfl⟩:=j;exact⟨some i,d,g,.int i t,q⟩
def SlR (X:Cx)(r:V->Option Int->Option Int->Hp->VK->Prop):Prop:=
 ∀(a:List (Addr×Obj)) (s:Shared) (f:St) (H:Hp) (x:V) (v vl g:Value) (lo hi:Option Int) (d:Addr) (Q:VK),Inv X a f H s->Z2 x v->s.heap.IsSliceOf d vl g .none->IsPart vl lo->IsPart g hi->r x lo hi H Q->
  ∃T id,typeLookup (.type T) "__getitem__"=pure (some (.builtin id))/\s.TypeIs v T/\wpAny (model X.prog X.w) X.A (getItem v (.ref d)) (EP X a f Q) X.xe s
theorem SlR.or {r j :V->Option Int->Option Int->Hp->VK->Prop}(h:SlR X r)(h' :SlR X j):SlR X (λx lo hi H Q=>r x lo hi H Q\/j x lo hi H Q):=by
 intro k s f H x v vl l lo hi d Q I a g pl i q;rcases q with q | q
 ·exact h _ s f H x v vl l lo hi d Q I a g pl i q
 ·exact h' _ s f H x v vl l lo hi d Q I a g pl i q
def FS (r:V->Option Int->Option Int->Hp->VK->Prop)(te:TE)(tl th:TO):TE:=λa H Q=>te a H λx d=>tl a d λl f=>th a f λu H3=>r x l u H3 Q
theorem Vl {r:V->Option Int->Option Int->Hp->VK->Prop}(hr:SlR X r)(N:PE X e te)(U:PO X lo tl)(k:PO X hi th):PE X (.Subscript e (.Slice lo hi none p2) pos) (FS r te tl th):=by
 intro d s a H Q I h;refine Subscript_ (lz (N _ s a H _ I h) λv K ⟨x,w,G,P,S⟩=> ?_);refine wpAny_Slice (lz (U _ K a w _ G S) λvl p ⟨l,y,J,pl,j⟩=>lz (k _ p a y _ J j) λf g ⟨u,H3,D,O,B⟩=> ?_);refine aw ?_;have o:Inv X _ a H3 { g with heap:=g.heap.push { cls:= .type "slice",data:= .fields #[vl,f,.none] } }:=D.kept λb ob q=>af _ q;obtain⟨T,id,hT,i,M⟩:=hr _ _ a H3 x v vl f l u _ Q o P (Heap.IsSliceOf.new ..) pl O B;exact tail_any i hT M (by with_unfolding_all rfl)
noncomputable def gK (xs:List V)(lo hi:Option Int):List V:=(xs.drop (HT.sIx xs.length 0 lo)).take (HT.sIx xs.length xs.length hi - HT.sIx xs.length 0 lo)
theorem JX (xs:List V)(lo hi:Option Int):(gK xs lo hi).length<=xs.length:=by
 unfold gK;rw[bX,ce];omega
def tU (K:aj):V->Option Int->Option Int->Hp->VK->Prop:=λx lo hi H Q=>∃a xs,x= .ref a/\SqT K H a xs/\
 ¬ (HT.sIx xs.length 0 lo=0/\HT.sIx xs.length xs.length hi=xs.length)/\∀p,H p=none->Q (.ref p) (lC H p (.tup (gK xs lo hi)))
theorem Gq:SlR X (tU X.K):=by
 intro j s y H x v vl B lo hi w Q I k l pl o h;obtain⟨a,xs,rfl,u,p,q⟩:=h;cases k;obtain⟨f,r,g,i⟩:=I.tuple u;have d:f.toArray.size=xs.length:=by exact r.length.symm
 refine⟨"tuple",_,bA.lookup,g.typeIs, ?_⟩;refine HT.getItem_tuple_cut g l pl o (by rw[d];exact p) ?_ (by rw[d];exact i)
 rw[d];refine⟨.ref _,_,I.laid (λb ob q=>af _ q) (ao _) ?_,rfl,q _ (I.hok.fresh (ao _))⟩;exact⟨ay (JX xs lo hi) i,_,(r.drop _).take _,ITN.new _ _⟩
def Hh (K:aj):R2:=λx y H Q=>∃a b xs ys,x= .ref a/\y= .ref b/\SqT K H a xs/\SqT K H b ys/\xs ≠ []/\xs.length+ys.length<=sizeLine/\
 (ys=[]->Q (.ref a) H)/\(ys ≠ []->∀p,H p=none->Q (.ref p) (lC H p (.tup (xs++ys))))
theorem Z3.nil_iff (r:Z3 xs us):us=[]↔xs=[]:=by
 cases r with
 | nil=>simp
 | cons _ _=>simp
theorem ke:lH X (binaryOp .Add) (Hh X.K):=by
 intro i s M H x y v u Q I k G h;obtain⟨a,b,xs,ys,rfl,rfl,o,B,r,g,D,l⟩:=h;cases k;cases G;obtain⟨J,f,p,_⟩:=I.tuple o;obtain⟨j,d,p2,_⟩:=I.tuple B;refine HT.cat_tup p p2 (λz=>r (f.nil_iff.mp z)) (λz=>⟨.ref a,H,I,rfl,D (d.nil_iff.mp z)⟩) (λz=> ?_) (by rw[← f.length,← d.length];exact g)
 refine⟨.ref _,_,I.laid (λb ob q=>af _ q) (ao _) ?_,rfl,l (λw=>z (d.nil_iff.mpr w)) _ (I.hok.fresh (ao _))⟩;exact⟨by rw[az];exact g,_,f.append d,ITN.new _ _⟩
end
end L2
namespace L2
open PySem PySem.Spec PyProof.Rows
noncomputable def nY (n:Nat)(i:Int):Option Nat:=if 0<=i then (if i < n then some i.toNat else none) else if -(n:Int)<=i then some (i+n).toNat else none
def mj {a:Type}(xs:List a)(i:Int):Option a:=(nY xs.length i).bind λj=>xs[j]?
theorem kg (h:nY n i=some j):seqIndex? i n=some j/\j < n/\ -(n:Int)<=i/\i < n:=by
 unfold nY at h
 by_cases d:0<=i
 ·rw[if_pos d]at h
  by_cases a:i < n
  ·rw[if_pos a]at h;have e:=aI h;exact⟨by rw[seqIndex_of d a,e],by omega,by omega,a⟩
  ·rw[if_neg a]at h;cases h
 ·rw[if_neg d]at h
  by_cases a: -(n)<=i
  ·rw[if_pos a]at h;have e:=aI h;exact⟨by rw[seqIndex_neg (by omega) a,e],by omega,a,by omega⟩
  ·rw[if_neg a]at h;cases h
theorem Uj {a:Type}{xs:List a}{v:a}(h:mj xs i=some v):∃j,seqIndex? i xs.length=some j/\xs[j]? =some v/\j < xs.length/\ -(xs.length:Int)<=i/\i < xs.length:=by
 unfold mj at h;cases e:nY _ i with
 | none=>rw[e]at h;cases h
 | some j=>
  rw[e]at h;obtain⟨k,f,d,g⟩:=kg e;exact⟨j,k,h,f,d,g⟩
theorem Zu {a:Type}{xs:List a}{j:Nat}{v:a}(h:xs[j]? =some v):mj xs (j:Int)=some v:=by
 have d:=(au.mp h).1;have e:nY xs.length (j)=some j:=by
  unfold nY;rw[if_pos (by omega),if_pos (by omega)];simp
 unfold mj;rw[e];exact h
noncomputable def Wq (b:Expr):Prop:=∀o i,subscripted b false o i=operate [o,i] (getItem o i)
def IxR (X:Cx)(r:R2):Prop:=
 ∀(e a:Expr) (d:List (Addr×Obj)) (s:Shared) (f:St) (H:Hp) (x y:V) (v u:Value) (Q:VK),Inv X d f H s->Z2 x v->Z2 y u->r x y H Q->
  subscripted a false v u=operate [v,u] (getItem v u)->wpAny (model X.prog X.w) X.A (subscriptTail e a v u) (EP X d f Q) X.xe s
def rR (X:Cx)(id:String)(r:V->List V->Hp->VK->Prop):Prop:=
 ∀(a:List (Addr×Obj)) (s:Shared) (d:St) (H:Hp) (x:V) (xs:List V) (v:Value) (e:List Value) (Q:VK),Inv X a d H s->Z2 x v->Z3 xs e->r x xs H Q->
  wpAny (model X.prog X.w) X.A (call (.builtin id) (v :: e)) (EP X a d Q) X.xe s
section
variable {X:Cx}{a b:Expr}{ta tb:TE}{pos:Pos}
theorem IxR.or (h:IxR X r)(h' :IxR X r'):IxR X (λx y H Q=>r x y H Q\/r' x y H Q):=by
 intro e d j s g H x y v u Q I f k q i;rcases q with q | q
 ·exact h _ _ _ s g H x y v u Q I f k q i
 ·exact h' _ _ _ s g H x y v u Q I f k q i
theorem kh (hr:IxR X r)(i:PE X a ta)(f:PE X b tb)(l:Wq b):PE X (.Subscript a b pos) (sd r ta tb):=by
 intro d s j H Q I h;exact Subscript_ (Aw i f I h λv u g x y k p e o q=>hr a b _ g j k x y v u Q p e o q (l _ _))
def pB (K:aj):R2:=λx y H Q=>∃p xs i v,x= .ref p/\y= .int i/\SqL K H p xs/\mj xs i=some v/\Q v H
def pq (K:aj):R2:=λx y H Q=>∃p xs i v,x= .ref p/\y= .int i/\SqT K H p xs/\mj xs i=some v/\Q v H
def p8:R2:=λx y H Q=>∃z i c,x= .str z/\y= .int i/\z.length<=sizeLine/\mj z.cps.toList i=some c/\Q (.str ⟨#[c]⟩) H
theorem ki:IxR X (pB X.K):=by
 intro f g D s O H x y v u Q I M ry h B;obtain⟨p,xs,i,z,rfl,rfl,N,Z,q⟩:=h;cases M;obtain⟨t,rfl⟩:=ry;obtain⟨o,r,pl,hz⟩:=I.list N;obtain⟨j,e,P,h3,S,U⟩:=Uj Z;obtain⟨w,J,k⟩:=r.get P;have hl:=r.length;have hn:=ut;have d:EP X _ O Q w s:=⟨z,H,I,k,q⟩
 by_cases G:0<=i
 ·have l:=by
   rw[seqIndex_of G U]at e;exact aI e
  exact item_listR pl.isList G (by omega) (by rw[l];simpa using J) d B
 ·have l:(i+(o.toArray.size)).toNat=j:=by
   rw[seqIndex_neg (by omega) S]at e
   rw[aD,← hl];exact aI e
  exact subscriptTail_builtinR pl.isList.typeIs slot_list_getitem.lookup
   (wpAny_getItem_list_neg pl.isList (by omega) (by rw[aD] <;> omega) (by omega) (by rw[l];simpa using J) ⟨rfl,d⟩) B
theorem Gr:IxR X (pq X.K):=by
 intro d e k s D H x y v u Q I l N h J;obtain⟨p,xs,i,z,rfl,rfl,o,M,q⟩:=h;cases l;obtain⟨t,rfl⟩:=N;obtain⟨O,r,pl,U⟩:=I.tuple o;obtain⟨j,B,G,h3,Z,h5⟩:=Uj M;obtain⟨w,S,f⟩:=r.get G;have P:=r.length;have hn:=ut;have g:EP X _ D Q w s:=⟨z,H,I,f,q⟩;exact subscriptTail_builtinR pl.typeIs slot_tuple_getitem.lookup
  (getItem_tuple pl (by omega) (by omega) (by rw[aD,← P];exact B) (by simpa using S) ⟨rfl,g⟩) J
theorem Gs:IxR X p8:=by
 intro d e g s M H x y v u Q I k G h p;obtain⟨z,i,c,rfl,rfl,K,D,q⟩:=h;obtain⟨t,rfl⟩:=k;obtain⟨t',rfl⟩:=G;obtain⟨j,f,l,N,o,w⟩:=Uj D;have J:z.cps.toList.length=z.length:=by simp[Str.length]
 rw[J]at f o w;have hn:=ut;exact tail_any (typeIs_str s z t) slot_str_getitem.lookup (getItem_str (by
  have B:decide (i < -(2 ^ 63))=false:=decide_eq_false (by omega)
  have r:decide (i ≥ 2 ^ 63)=false:=decide_eq_false (by omega)
  rw[B,r,Bool.or_false]) (by rw[f];simpa using l) ⟨.str _,H,I.tok _,⟨_,rfl⟩,q⟩) p
def EB (K:aj):R2:=λx y H Q=>pB K x y H Q\/pq K x y H Q\/p8 x y H Q
theorem qa:IxR X (EB X.K):=ki.or (Gr.or Gs)
theorem uy (lo hi:Option Int)(n:Nat):(sliceBounds lo hi none n).1=((HT.sIx n 0 lo:Nat):Int)/\(sliceBounds lo hi none n).2.1=((HT.sIx n n hi:Nat):Int)/\(sliceBounds lo hi none n).2.2=1:=by
 refine⟨?_, ?_,rfl⟩
 ·cases lo with
  | none=>simp[sliceBounds,HT.sIx]
  | some i=>
   simp only[sliceBounds,HT.sIx,iI,show (1) > 0 by decide,if_true]
   by_cases h:i < 0
   ·simp only[h,if_true] <;> omega
   ·simp only[h,if_false] <;> omega
 ·cases hi with
  | none=>simp[sliceBounds,HT.sIx]
  | some i=>
   simp only[sliceBounds,HT.sIx,iI,show (1) > 0 by decide,if_true]
   by_cases h:i < 0
   ·simp only[h,if_true] <;> omega
   ·simp only[h,if_false] <;> omega
theorem Wr (d:List Value)(lo hi:Option Int):slicePick d.toArray lo hi none=((d.drop (HT.sIx d.length 0 lo)).take (HT.sIx d.length d.length hi - HT.sIx d.length 0 lo)).toArray:=by
 obtain⟨g,f,e⟩:=uy lo hi _;unfold slicePick;rw[g,f,e];simp only[sliceRange_one,pick_run,aD] <;> rfl
def Ar (K:aj):V->Option Int->Option Int->Hp->VK->Prop:=λx lo hi H Q=>∃a xs,x= .ref a/\SqL K H a xs/\∀p,H p=none->Q (.ref p) (lC H p (.lst (gK xs lo hi)))
theorem kl:SlR X (Ar X.K):=by
 intro f s u H x v vl w lo hi p Q I g j pl k h;obtain⟨a,xs,rfl,l,q⟩:=h;cases g;obtain⟨o,r,e,i⟩:=I.list l;have d:=r.length;refine⟨"list",_,slot_list_getitem.lookup,e.isList.typeIs, ?_⟩;refine wpAny_getItem_list_slice e.isList j pl k .none (by simp) ?_ (by rw[aD] <;> omega)
 rw[Wr,← d];refine⟨.ref _,_,I.laid (λb ob q=>af _ q) (ao _) ?_,rfl,q _ (I.hok.fresh (ao _))⟩;exact⟨ay (JX xs lo hi) i,_,0,(r.drop _).take _,am _ rfl⟩
theorem uz:ZB X (.builtin "len") (λxs H Q=>∃p ys,xs=[.ref p]/\(SqL X.K H p ys\/SqT X.K H p ys)/\Q (.int ys.length) H):=by
 intro i s o H xs l Q I r h;obtain⟨p,ys,rfl,e,q⟩:=h;obtain⟨u,rfl,j⟩:=ZX r;cases j;have hn:=ut;rcases e with e | e
 ·obtain⟨g,f,pl,k⟩:=I.list e;have d:=f.length;exact Calls.call_len_list pl.isList (by simp only[aD] <;> omega) ⟨.int _,H,I.tok _,⟨s.toks+1,by rw[aD,d]⟩,q⟩
 ·obtain⟨g,f,pl,k⟩:=I.tuple e;have d:=f.length;exact len_tuple pl (by simp only[aD] <;> omega) ⟨.int _,H,I.tok _,⟨s.toks+1,by rw[aD,d]⟩,q⟩
theorem uA:ZB X (.builtin "len") (λxs H Q=>∃z,xs=[.str z]/\z.length<=sizeLine/\Q (.int z.length) H):=by
 intro d s g H xs e Q I r h;obtain⟨z,rfl,f,q⟩:=h;obtain⟨u,rfl,t,rfl⟩:=ZX r;have hn:=ut;exact len_str (by omega) ⟨.int _,H,I.tok _,⟨_,rfl⟩,q⟩
theorem ZB.or {r g :List V->Hp->VK->Prop}(h:ZB X f r)(h' :ZB X f g):ZB X f (λxs H Q=>r xs H Q\/g xs H Q):=by
 intro i s d H xs e Q I j q;rcases q with q | q
 ·exact h _ s d H xs e Q I j q
 ·exact h' _ s d H xs e Q I j q
theorem Ws:ZB X (.type "tuple") (λxs H Q=>∃p ys,xs=[.ref p]/\((SqL X.K H p ys/\∀l,H l=none->Q (.ref l) (lC H l (.tup ys)))\/(SqT X.K H p ys/\Q (.ref p) H))):=by
 intro x s j H xs D Q I r h;obtain⟨p,ys,rfl,h⟩:=h;obtain⟨u,rfl,y⟩:=ZX r;cases y;rcases h with ⟨f,q⟩ | ⟨f,q⟩
 ·obtain⟨d,g,pl,i⟩:=I.list f;have k:=g.length;refine call_tuple_list pl.isList (λh' kp=> ?_) (by simp only[aD] <;> omega)
  have v:Inv X _ j H { s with heap:=h' }:=I.kept kp;have B:Inv X _ j (lC H _ (.tup ys)) { s with heap:=h'.push _ }:=
   v.laid (λb o e=>af _ e) (ao _) (show Zd _ X.w _ _ _ _ from ⟨i,d,g,ITN.new _ _⟩)
  exact⟨.ref _,_,B,rfl,q _ (v.hok.fresh (ao _))⟩
 ·obtain⟨d,g,pl,i⟩:=I.tuple f;exact call_tuple_same pl ⟨.ref p,H,I,rfl,q⟩
def Ci (K:aj)(T:String)(x:V)(H:Hp):Prop:=match x with
 | .str _=>T="str"
 | .int _=>T="int"
 | .ref p=>(T="list"/\∃xs,SqL K H p xs)\/(T="tuple"/\∃o,K.lookup p=some o/\o.cls= .type "tuple"/\o.dict=none)\/
   (T="dict"/\((∃d,H p=some (.dK d))\/∃d,H p=some (.dT d)))\/(T="set"/\∃S n,H p=some (.set S n))
 | _=>False
theorem Gu (I:Inv X pins σ H s)(r:Z2 x v)(f:Ci X.K T x H):
  s.TypeIs v T/\∀a,v= .ref a->∃ob,s.heap.get? a=some ob/\ob.dict=none:=by
 cases x with
 | str z=>
  obtain⟨t,rfl⟩:=r;cases (f);exact⟨typeIs_str s z t,λ_ e=>nomatch e⟩
 | int i=>
  obtain⟨t,rfl⟩:=r;cases (f);exact⟨typeIs_int s i t,λ_ e=>nomatch e⟩
 | ref p=>
  cases r;rcases f with ⟨rfl,xs,k⟩ | ⟨rfl,o,d,l,hd⟩ | ⟨rfl,d⟩ | ⟨rfl,S,n,d⟩
  ·obtain⟨q,_,pl,_⟩:=I.list k;refine⟨pl.isList.typeIs,λa e=> ?_⟩;cases e;obtain⟨o,n,e,c,hd,_⟩:=pl;exact⟨o,e,hd⟩
  ·refine⟨⟨o,I.kIn p o d,l⟩,λa e=> ?_⟩;cases e;exact⟨o,I.kIn _ o d,hd⟩
  ·have z:∃o,s.heap.get? p=some o/\o.ExactDict:=by
    rcases d with ⟨j,d⟩ | ⟨j,d⟩
    ·obtain⟨_,_,_,_,o,_,_,e,ex,_⟩:=I.hok p _ d;exact⟨o,e,ex⟩
    ·obtain⟨_,_,_,_,o,_,_,e,ex,_⟩:=I.hok p _ d;exact⟨o,e,ex⟩
   obtain⟨o,e,ex⟩:=z;refine⟨⟨o,e,ex.1⟩,λa g=> ?_⟩;cases g;exact⟨o,e,ex.2.1⟩
  ·obtain⟨o,_,_,_,e,ex,_⟩:=I.hok p _ d;refine⟨⟨o,e,ex.1⟩,λa g=> ?_⟩;cases g;exact⟨o,e,ex.2.1⟩
 | _=>exact cx f
def E4 (K:aj)(T:String)(r:V->List V->Hp->VK->Prop)(g:TE)(t:TA):TE:=λe H Q=>g e H λx d=>Ci K T x d/\t e d λxs f=>r x xs f Q
variable {o e:Expr}{es:List Expr}{to:TE}{t:TA}{name:Str}{apos cpos:Pos}{T id:String}{r:V->List V->Hp->VK->Prop}
theorem qb (pa:PlainAttrs T)(j:Slot T name id)(l:typeOf (.builtin id)=pure (.type "method_descriptor"))(hm:rR X id r)(Z:PE X o to)(D:PA X (e :: es) t)
  (g:attributeBase o name X.env (eval o X.env)=eval o X.env:=by rfl)
  (i:((backTo cpos (starEach (e :: es) X.env)).all (λx=> !x.1) && (backToKw cpos (keywordEach [] X.env)).all (λx=>x.1.isSome)
   && decide ((e :: es).length+([]:List Keyword).length+(if ([]:List Keyword).isEmpty then 0 else 1) < 30))=true:=by rfl)
  (f:(apos.endLine == cpos.line)=true:=by rfl) (O:starEach (e :: es) X.env=(false,eval e X.env) :: starEach es X.env:=by rfl) (d:(backTo cpos (starEach es X.env)).any (·.1)=false:=by rfl):
  PE X (.Call (.Attribute o name apos) (e :: es) [] cpos) (E4 X.K T r to t):=by
 intro q s k H Q I h;refine wpAny_Call_method_late g i f rfl (lz (Z _ s k H _ I h) λv S ⟨x,J,p,w,ty,q1⟩=> ?_);obtain⟨G,M⟩:=Gu p w ty;refine⟨T,id,pa,j,l,G,M, ?_⟩;have u:=D cpos _ S k J _ p q1;rw[O]at u ⊢;refine Calls.callWith_builtin (by show (false || (backTo _ _).any _)=false;rw[d] <;> rfl) (f_ ?_)
 exact lz u λU B ⟨vs,N,P,r2,y⟩=>hm _ B k N x vs v U Q P w r2 y
end
end L2
namespace L2
open PySem PySem.Spec PyProof.Rows
def Ct (X:Cx)(id:String)(r:V->List V->Hp->VK->Prop):Prop:=
 ∀(a:List (Addr×Obj)) (s:Shared) (d:St) (H:Hp) (x:V) (xs:List V) (v:Value) (e:List Value) (Q:VK),Inv X a d H s->Z2 x v->Z3 xs e->r x xs H Q->
  wpAny (model X.prog X.w) X.A (call (.builtin id) (v :: e)) (EP X a d Q) X.xe s
theorem Z3.one:∀{x:V} {a:List Value},Z3 [x] a->∃u,a=[u]/\Z2 x u
 | _,_,.cons r .nil=>⟨_,rfl,r⟩
theorem Z3.rep (h:Z3 xs us):∀k:Nat,Z3 (ai k xs).flatten (ai k us).flatten
 | 0=> .nil
 | k+1=>by
  exact Z3.append h (Z3.rep h k)
theorem J6 (a:List Value):∀(k:Nat) (acc:List Value),
  eU (λf g=>f++g) acc.toArray (ai k a.toArray)=(acc++(ai k a).flatten).toArray
 | 0,acc=>by simp
 | k+1,acc=>by
  have e:acc.toArray++a.toArray=(acc++a).toArray:=by simp
  have d:(acc++a)++(ai k a).flatten=acc++(ai (k+1) a).flatten:=by
   rw[bH,e_,bg]
  rw[← d,← J6 a k _,← e,bH,List.foldl_cons]
section
theorem Inv.lset {d a :List Value}{n:Nat}{f:Array Value->Array Value}{t' :Nat}(I:Inv X pins σ H s)(o:H l=some (.lst xs))
  (e:s.heap.get? l=some { cls:= .type "list",data:= .seq d.toArray n }) (p:f d.toArray=a.toArray) (k:Z3 ys a) (i:ys.length<=sizeLine):
  Inv X pins σ (lC H l (.lst ys)) { s with heap:=s.heap.update l (fN f),toks:=t' }:=by
 have q:=PySem.IsL.update e f;rw[p]at q;refine I.write (by rw[o];exact trivial) (.inl rfl) (λr u j g=>(bb _ _ (bI j)).trans g) ⟨_,q⟩ ?_
 exact⟨i,a,_,k,q⟩
theorem Inv.lnew (I:Inv X pins σ H s)(a:Z3 ys its)(d:ys.length<=sizeLine):
  Inv X pins σ (lC H s.heap.objs.size (.lst ys)) { s with heap:=s.heap.push { cls:= .type "list",data:= .seq its.toArray },toks:=t' }:=
 I.laid (λ_ _ q=>af _ q) (ao _) ⟨d,its,0,a,am _ rfl⟩
theorem Inv.fresh (I:Inv X pins σ H s):H s.heap.objs.size=none:=I.hok.fresh (ao _)
theorem Inv.lstM (I:Inv X pins σ H s)(d:H l=some (.lst xs)):xs.length<=sizeLine/\∃(a:List Value) (n:Nat),Z3 xs a/\xs.length=a.length/\s.heap.get? l=some { cls:= .type "list",data:= .seq a.toArray n }:=by
 obtain⟨z,a,n,r,e⟩:=I.hok l _ d;exact⟨z,a,n,r,r.length,e⟩
theorem UW (h:n<=sizeLine):dG n=false:=by
 exact decide_eq_false (by omega)
end
section
variable {X:Cx}
def km:V->List V->Hp->VK->Prop:=λx a H Q=>∃l xs y,x= .ref l/\a=[y]/\H l=some (.lst xs)/\xs.length < sizeLine/\Q .non (lC H l (.lst (xs++[y])))
theorem uB:Ct X "list.append" km:=by
 intro a s p H x w v k Q I f g h;obtain⟨l,xs,y,rfl,rfl,d,o,q⟩:=h;cases f;obtain⟨u,rfl,i⟩:=g.one;obtain⟨z,j,n,r,B,e⟩:=I.lstM d;refine dL F.slot_list_append ⟨_,e,rfl⟩ F.entry_list_append (F.args_list_append_2 _ _) (PySem.list_append l _ n u (by rw[aD];omega)) ⟨e, ?_⟩
 refine⟨.non,_,I.lset d e (by simp) (r.append (.cons i .nil)) ?_,rfl,q⟩
 rw[az,aC];omega
def kn:V->List V->Hp->VK->Prop:=λx d H Q=>∃l b xs a,x= .ref l/\d=[.ref b]/\H l=some (.lst xs)/\H b=some (.lst a)/\xs.length+a.length<=sizeLine/\Q .non (lC H l (.lst (xs++a)))
theorem qc:Ct X "list.extend" kn:=by
 intro g s J H x O v K Q I k o h;obtain⟨l,b,xs,M,rfl,rfl,i,j,G,q⟩:=h;cases k;obtain⟨u,rfl,B⟩:=o.one;cases B;obtain⟨z,f,n,r,P,e⟩:=I.lstM i;obtain⟨N,a,y,D,w,p⟩:=I.lstM j;have hsz:f.toArray.size+a.toArray.size<=sizeLine:=by rw[aD,aD];omega
 have d:¬ (!f.toArray.isEmpty && dG (f.toArray.size+a.toArray.size))=true:=by
  rw[UW hsz,Bool.and_false];exact aA
 refine dL F.slot_list_extend ⟨_,e,rfl⟩ F.entry_list_extend (F.args_list_extend_2 _ _)
  (AutoSeq1.list_extend_list_list_0 l _ n b _ y d (by omega) (by omega)) ⟨e,p, ?_⟩
 refine⟨.non,_,I.lset i e (by simp) (r.append D) ?_,rfl,q⟩
 rw[az];omega
def t7:R2:=λx y H Q=>∃l b xs a,x= .ref l/\y= .ref b/\H l=some (.lst xs)/\H b=some (.lst a)/\xs.length+a.length<=sizeLine/\∀p,H p=none->Q (.ref p) (lC H p (.lst (xs++a)))
theorem Gv:lH X (binaryOp .Add) t7:=by
 intro f s G H x y v u Q I i w h;obtain⟨l,b,xs,K,rfl,rfl,k,g,D,q⟩:=h;cases i;cases w;obtain⟨z,d,n,r,N,e⟩:=I.lstM k;obtain⟨M,a,J,B,o,j⟩:=I.lstM g;refine PySem.P.add_list e j ?_ (by rw[aD,aD];omega)
 have p:d.toArray++a.toArray=(d++a).toArray:=by simp
 rw[p];exact⟨.ref _,_,I.lnew (r.append B) (by rw[az];omega),rfl,q _ I.fresh⟩
def BI:R2:=λx y H Q=>∃l k xs,x= .ref l/\y= .int k/\H l=some (.lst xs)/\ -(2 ^ 63)<=k/\k < 2 ^ 63/\xs.length*k.toNat<=sizeLine/\
 ∀p,H p=none->Q (.ref p) (lC H p (.lst (ai k.toNat xs).flatten))
theorem Jk {d:Type}(xs:List d)(k:Nat):(ai k xs).flatten.length=k*xs.length:=by
 induction k with
 | zero=>simp
 | succ k a=>rw[bH,e_,az,a,eN,dR]
theorem Gw:lH X (binaryOp .Mult) BI:=by
 intro D s U H x y v u Q I G S h;obtain⟨l,k,xs,rfl,rfl,M,J,K,B,q⟩:=h;cases G;obtain⟨t,rfl⟩:=S;obtain⟨z,d,n,r,O,e⟩:=I.lstM M;have j:d.toArray.size*k.toNat<=sizeLine:=by rw[aD,← O];exact B
 have i:¬ d.toArray.size*k.toNat > (2 ^ 63 - 1) / 8:=by
  have:(sizeLine)<=(2 ^ 63 - 1) / 8:=by decide
  omega
 have o:¬ (!Builtin.List.listFitsIndex k)=true:=by
  rw[fitsIndex_both J K];exact aA
 have f:¬ dG (d.toArray.size*k.toNat)=true:=by
  rw[UW j];exact aA
 have g:eU (λp w=>p++w) #[] (ai (if d.toArray.isEmpty=true then 0 else k.toNat) d.toArray)=(ai k.toNat d).flatten.toArray:=by
  have P:∀m,eU (λp w=>p++w) #[] _=(ai m d).flatten.toArray:=λm=>by
   have:=J6 d m [];exact this
  rw[P];cases d with
  | nil=>simp
  | cons a Z =>rw[if_neg (by simp)]
 refine wpAny_binaryOp_repeat_ref (by decide) ⟨_,e,rfl⟩ (λN =>typeIs_int N k t) noFill_list_mul iY eK repeat_list iJ.lookup
  (dL eK (typeIs_int s k t) iK (ir _ _) (int___rmul___int_list k t l _ n)
   ⟨e,rfl,⟨_,e,rfl⟩,dL F.slot_list_mul ⟨_,e,rfl⟩ F.entry_list_mul (F.args_list_mul_2 _ _) (AutoListH.list___mul___list_int_3 l _ n k t o i f) ⟨e, ?_⟩⟩)
 rw[g];exact⟨.ref _,_,I.lnew (r.rep _) (by rw[Jk,dz];exact B),rfl,q _ I.fresh⟩
end
section
end
section
end
end L2
namespace Att
open PySem PySem.W PySem.Calls PyProof.Rows
theorem JY {P:Params}:∀(ns:List Int) (d:List Value),WellAll P h d (ns.map WData.int)->IntsAre d ns:=by
 intro ns
 induction ns with
 | nil=>
  intro d w;cases w;exact .nil
 | cons n ns e=>
  intro d w;cases w with
  | cons a b=>
   cases a;exact .cons _ _ (e _ b)
theorem qd {l:OpenLaw}(hn:l.most=some n){P:Params}{args:List WData}
  (e:l.row.toRowW.claim.pre args=true) (o:WellAll P h vals args):
  ∃a p ns,vals=[Value.ref a]/\args=[WData.list (ns.map WData.int)]/\h.get? a=some { cls:= .type "list",data:= .seq p.toArray }/\IntsAre p ns/\ns.length<=n:=by
 have k:=(pre_splitW e).1;have w:=(pre_splitW e).2;obtain⟨d,r,rfl,v,y⟩:=hasAllW_cons k;obtain rfl:=hasAllW_nil y;obtain⟨xs,rfl,x⟩:=hasW_list v;obtain⟨ns,rfl⟩:=items_int x;have g:ns.length<=n:=by
  have i:=by
   have i:=(holds_andW w).1;rw[hn]at i;exact i
  have j:=condW_of i (w_not (w_lt w_lit (w_len_list (w_arg rfl))));rw[ah]at j;refine Nat.le_of_not_lt λq=> ?_;have u :(n) < ((ns.length):Int):=by omega
  first
   | (rw[decide_eq_true u]at j;exact absurd j (by decide))
   | (simp at j)
 cases o with
 | cons w1 w2=>
  cases w2;cases w1 with
  | list B f=>exact⟨_,_,ns,rfl,rfl,B,JY ns _ f,g⟩
theorem qe (l:OpenLaw)(args:List WData):l.row.toRowW.claim.post args (.bool true) args=true:=
 postW_of
  (show WShape.has [] _ _=true by first | rfl | decide | simp[WShape.has,WShape.arms,WShape.armsAll])
  (show (WTm.eq _ _).value [] _=some _ from w_eq_bool (w_res rfl) w_lit) rfl
theorem attach_call {l:OpenLaw}{XP:(Str->Option Value)->Heap->Prop}{N:World->Heap->Prop}{d:DefRec}
  (hn:l.most=some n) (B:d.params.defaults=[])
  (call:∀(w:World) (s₀ e:Shared) (x K:Str->Option Value) (v:Addr) (o:Obj) (J cd i:Value) (a:Addr) (j:List Value) (ns:List Int),
   Ground q loose [] XP w s₀ x K e.heap->N w e.heap->
   e.heap.get? v=some o->o.data= .func (docDef d.name d.params d.body d.scope J cd i)->e.heap.CodeRec cd d.name->x d.name=some (.ref v)->
   e.heap.get? a=some { cls:= .type "list",data:= .seq j.toArray }->IntsAre j ns->ns.length<=n->e.gens= #[]->
   codeAny (model l.prog w) callerA (.call (.ref v) ⟨[.ref a],[]⟩) (λr y =>r= .ok (.ret (.bool true))/\OldK e.heap y.heap/\y.os=e.os/\AllBare y.gens) e):
  WalkO q loose XP N l.row.toRowW d [] (λf j=>lc f j):=by
 intro w s₀ e x K G Y v o J cd i dV kV ho hd D P I hg args Q as u O hrd M S;obtain rfl:dV= .none:=Dflts.none P B;obtain rfl:kV= .none:=Dflts.noKw P;obtain⟨a,j,ns,rfl,rfl,k,g,p⟩:=qd hn u M;refine enter_call (d8 (call w _ _ x K v o J cd i a j ns G Y ho (fd_plain hd) D I k g p hg) λr y U=> ?_);obtain⟨rfl,X,h3,Z⟩:=U;exact⟨.inl ⟨.bool _,.bool _,[],rfl,λ_=>rfl,.bool _,qe l _,λ_=>⟨List.Pairwise.nil,λ_ hm=>(nomatch hm)⟩⟩,X,h3,Z⟩
end Att
namespace L2
open PySem PySem.Spec PyProof.Rows
theorem J7:∀{a:List Value} {ns:List Int},IntsAre a ns->Z3 (ns.map V.int) a
 | _,_,.nil=> .nil
 | _,_,.cons n t h=> .cons ⟨t,rfl⟩ (J7 h)
end L2
namespace L2
open PySem PySem.Spec PyProof.Rows
end L2
namespace L2
open PySem PySem.Spec PyProof.Rows
noncomputable def jm (s:Stmt):Arguments:=match s with
 | .FunctionDef _ a _ _ _ _ _ _ _ _=>a
 | _=>{ posonlyargs:=[],args:=[],vararg:=none,kwonlyargs:=[],kw_defaults:=[],kwarg:=none,defaults:=[] }
noncomputable def zR (s:Stmt):List Stmt:=match s with
 | .FunctionDef _ _ b _ _ _ _ _ _ _=>b
 | _=>[]
noncomputable def zf (s:Stmt):Scope:=match s with
 | .FunctionDef _ _ _ _ _ _ a _ _ _=>a
 | _=>{ kind:= .function,names:=[],isGenerator:=false,isCoroutine:=false }
abbrev mw:m5:=λ_ _ _ _ _ _=>False
structure Fun (K:aj) (x qual:Str) (st:Stmt) (f:Addr) (fd:FuncData):Prop where
 ex:∃(oc:Value) (od:Option Addr) (kV doc pm:Value) (an:Option Addr) (cdv ct:Value) (osl:Array (Option Value)),
  fd=cz x qual (jm st) (zR st) (zf st) .none kV doc pm an cdv ct/\K.lookup f=some ⟨oc,od,.func fd,osl⟩/\eR K cdv qual=true
 kp:cG K (.ref f)=true
section
variable {P:Program}{w:World}{K:aj}{mg:Str->Option Value}{base:Heap}
theorem Fun.ok {x a:Str}{st:Stmt}{f:Addr}{l:FuncData}{N i:List Str}{k:Nat}{sp:Sp}(F:Fun K x a st f l)(S:j2 N i (zf st))(len:∀e H Q E,sp e H Q E->e.length=i.length)
  (d:∀(cdv:Value) (A:Around) (outer:List Env) (s:Shared) (H:Hp) (e:List V) (Q:VK) (E:XK),ZY k (A.deeper (envOfC a (zf st) s.heap.objs.size f cdv))->sp e H Q E->
   ∃t,PSs (jO mw P w K mg base N a (zf st) f cdv A outer s H E).nox (zR st) t/\t { nx:=λ_ p =>Q .non p,rt:=Q } (start N e) H):Jj P w K mg base mw (k+1) f l i sp:=by
 obtain⟨B,y,kV,r,v,u,cdv,ct,o,rfl,lk,g⟩:=F.ex;refine Vh lk g S len λA outer s H e Q E hr j=> ?_;obtain⟨t,h,q⟩:=d cdv A _ s H e Q E hr j;exact⟨t,h.nox,q⟩
theorem Fun.binds {x a:Str}{st:Stmt}{f:Addr}{k:FuncData}{e:List Str}(F:Fun K x a st f k)
  (h:∀(kV d j:Value) (i:Option Addr) (cdv ct:Value) (g:List Value),g.length=e.length->bindArgs (cz x a (jm st) (zR st) (zf st) .none kV d j i cdv ct) ⟨g,[]⟩=pure (e.zip g)):Binds K k e []:=by
 obtain⟨q,p,kV,d,j,i,cdv,ct,o,rfl,lk,l⟩:=F.ex;exact .all (h kV d j i cdv ct)
theorem Gx {x a:Str}{st:Stmt}{f:Addr}{o:Value}{j g:Option Addr}{e:Array (Option Value)}{kV d i cdv ct:Value}(l:K.lookup f=some ⟨o,j,.func (cz x a (jm st) (zR st) (zf st) .none kV d i g cdv ct),e⟩)
  (c:eR K cdv a=true) (k:cG K (.ref f)=true):Fun K x a st f (cz x a (jm st) (zR st) (zf st) .none kV d i g cdv ct):=⟨⟨o,j,kV,d,i,g,cdv,ct,e,rfl,l,c⟩,k⟩
end
section
theorem pv (i:Nat)(e:X.N[i]? =some x:=by rfl)(d:ov X.env.scope x:=by first | exact Or.inl rfl | exact Or.inr (Or.inl rfl) | exact Or.inr (Or.inr rfl))(hd:(x == ("__debug__":Str))=false:=by decide)
  (a:(x == ("__classdict__":Str))=false:=by decide):PE X (.Name x pos) (Yz i):=xO e d hd a
end
def zl (H a :Hp):Prop:=∀b o,H b=some o->a b=some o
theorem zl.refl (H:Hp):zl H H:=λ_ _ h=>h
theorem zl.trans (a:zl H H1)(b:zl H1 H2):zl H H2:=λc o h=>b c o (a c o h)
theorem zl.free (e:zl H H')(h:H' l=Option.none):H l=Option.none:=by
 cases q:H l with
 | none=>rfl
 | some o=>
  rw[e l o q]at h;cases h
end L2
namespace L2
open PySem PySem.Spec PyProof.Rows PySem.W
theorem UX (h:env.frame=some L):lR (env :: outer)=L :: lR outer:=by
 unfold lR;rw[dB,h]
structure UY (P:Program) (w:World) (outer:List Env) (H:Hp) (s s' :Shared) (ea:Addr) (cls a0:Value) (B:Heap) (H' :Hp):Prop where
 os:s'.os=s.os
 bare:AllBare s'.gens
 fly:dS B outer ea cls a0 s'.heap
 hok:HOk P w H' B
 un:Un (lR outer) [] H H' s.heap s'.heap
 inB:∀b o,s.heap.get? b=some o->b ∉ lR outer->(H b=none->B.get? b=some o)/\∃o',B.get? b=some o'
def lE (P:Program)(w:World):m5:=λouter H s E e g =>∃a cls f B d,e= .ref a/\UY P w outer H s g a cls f B d /\E cls none d
section
variable {X:Cx}{pins:List (Addr×Obj)}{σ:St}{H H' :Hp}{s s' :Shared}{ea:Addr}{cls a0:Value}{B:Heap}{h' h'' :Heap}
theorem Inv.frNf (I:Inv X pins σ H s):∀b∈lR X.stack,H b=none/\∃o,s.heap.get? b=some o/\∀d,o.data ≠ .fields d:=λb a=>⟨I.stkFree b a,(I.stack.mem a).2⟩
theorem UY.on (L:UY P w outer H s s' ea cls a0 B H')(l:∀b∈lR outer,H b=none/\∃o,s.heap.get? b=some o/\∀x,o.data ≠ .fields x)
  (j:dS B outer ea cls a0 h') (i:s'.heap.UpToSlots h'):UY P w outer H s { s' with heap:=h' } ea cls a0 B H' where
 os:=L.os
 bare:=L.bare
 fly:=j
 hok:=L.hok
 inB:=L.inB
 un:=by
  have d:∀b o,s.heap.get? b=some o->H b=none->b∈lR outer->∃i,h'.get? b=some { o with slots:=i }:=λb o e n a=>by
   obtain⟨g,k⟩:=L.un.slot b o e n a (by simp)
   obtain⟨_,y,q,u⟩:=l b a;rw[e]at q;cases q;obtain⟨f,v⟩:=i b _ k u;exact⟨f,v⟩
  exact⟨λb o e n a _=>j.1 b o ((L.inB b o e a).1 n),λb o e n a _=>d b o e n a,L.un.free,λb o e _=>by
   by_cases a:b∈lR outer
   ·obtain⟨g,k⟩:=d b o e (l b a).1 a;exact⟨_,k⟩
   ·obtain⟨p,r⟩:=(L.inB b o e a).2;exact⟨p,j.1 b p r⟩,L.un.tups,L.un.frzs,L.un.tbls⟩
theorem Inv.old (I:Inv X pins σ H s)(f:X.stack=X.env :: X.outer)(d:X.env.frame=some X.env.locals)(e:X.s₀.heap.get? b=some o)(a:b ∉ lR X.outer):b ∉ lR X.stack:=by
 rw[f,UX d];intro z;rcases aq.mp z with z | z
 ·exact absurd (aN (ax e) I.ok.above) (by rw[z];exact bj _)
 ·exact a z
theorem Uk {X:Cx}(e:X.stack=X.env :: X.outer)(d:X.env.frame=some X.env.locals){b:Addr}(a:b∈lR X.outer):b∈lR X.stack:=by
 rw[e,UX d];exact ac _ a
theorem UY.out (I:Inv X pins σ H s)(i:X.stack=X.env :: X.outer)(k:X.env.frame=some X.env.locals)(hex:X.ex=[])(L:UY X.prog X.w X.stack H s s' ea cls a0 B H')
  (u:dS B X.outer ea cls a0 h') (p:s'.heap.UpToSlots h'):UY X.prog X.w X.outer X.H₀ X.s₀ { s' with heap:=h' } ea cls a0 B H' where
 os:=L.os.trans I.os
 bare:=L.bare
 fly:=u
 hok:=L.hok
 inB:=λb o e a=>by
  have nx:b ∉ X.ex:=by rw[hex];simp
  obtain⟨g,d⟩:=I.base.there b o e nx;have j :=I.old i k e a;exact⟨λn=>(L.inB b o (I.base.keep b o e n a nx) j).1 (I.base.free b o e n nx),(L.inB b g d j).2⟩
 un:=by
  have nx:∀b,b ∉ X.ex:=λb=>by rw[hex];simp
  have f:∀b o,X.s₀.heap.get? b=some o->X.H₀ b=none->b∈lR X.outer->∃p,h'.get? b=some { o with slots:=p }:=λb o e n a=>by
   obtain⟨l,d⟩:=I.base.slot b o e n a (nx b);have M:=I.base.free b o e n (nx b);obtain⟨D,K⟩:=L.un.slot b _ d M (Uk i k a) (by simp)
   obtain⟨_,O,y,J⟩:=I.frNf b (Uk i k a);rw[d]at y;cases y;obtain⟨r,N⟩:=p b _ K J;exact⟨r,N⟩
  refine⟨λb o e n a _=> ?_,λb o e n a _=>f b o e n a,λb o e n _=> ?_,λb o e _=> ?_,λb xs e=>L.un.tups b xs (I.base.tups b xs e),λb o xs e=>L.un.frzs b o xs (I.base.frzs b o xs e),λb x q e=>L.un.tbls b x q (I.base.tbls b x q e)⟩
  ·exact u.1 b o ((L.inB b o (I.base.keep b o e n a (nx b)) (I.old i k e a)).1 (I.base.free b o e n (nx b)))
  ·obtain⟨g,d⟩:=I.base.there b o e (nx b);exact L.un.free b g d (I.base.free b o e n (nx b)) (by simp)
  ·by_cases a:b∈lR X.outer
   ·obtain⟨l,d⟩:=f b o e (I.ok.frf b a) a;exact⟨_,d⟩
   ·obtain⟨g,d⟩:=I.base.there b o e (nx b);obtain⟨v,G⟩:=(L.inB b g d (I.old i k e a)).2;exact⟨v,u.1 b v G⟩
theorem UY.made (I:Inv X pins σ H s)(k:X.stack=X.env :: X.outer)(l:X.env.frame=some X.env.locals)(hex:X.ex=[]){J:List Value}(K:Heap.MadeExcOf s.heap h' ea cls J)
  (v:dS (hideAll s.heap (lR X.stack)) X.outer ea cls a0 h'') (r:h'.UpToSlots h''):UY X.prog X.w X.outer X.H₀ X.s₀ { s with heap:=h'' } ea cls a0 (hideAll s.heap (lR X.stack)) H where
 os:=I.os
 bare:=I.bare
 fly:=v
 hok:=λa o e=>(I.hok a o e).stay (λb u d q=>hideAll_get _ q λz=>by
   have:=I.stkFree b z;rcases d with rfl | d
   ·rw[e]at this;cases this
   ·rw[d]at this;cases this) (λ_ q=>q) λ_ _ q=>q
 inB:=λb o e d=>by
  have nx:b ∉ X.ex:=by rw[hex];simp
  obtain⟨j,g⟩:=I.base.there b o e nx;have i :=I.old k l e d;exact⟨λn=>hideAll_get _ (I.base.keep b o e n d nx) i,j,hideAll_get _ g i⟩
 un:=by
  have nx:∀b,b ∉ X.ex:=λb=>by rw[hex];simp
  have f:∀b o,X.s₀.heap.get? b=some o->X.H₀ b=none->b∈lR X.outer->∃r,h''.get? b=some { o with slots:=r }:=λb o e n d=>by
   obtain⟨p,g⟩:=I.base.slot b o e n d (nx b);obtain⟨_,M,y,D⟩:=I.frNf b (Uk k l d);rw[g]at y;cases y;obtain⟨x,G⟩:=r b _ (K.keeps b _ g) D;exact⟨x,G⟩
  refine⟨λb o e n d _=> ?_,λb o e n d _=>f b o e n d,λb o e n _=>I.base.free b o e n (nx b),λb o e _=> ?_,I.base.tups,I.base.frzs,I.base.tbls⟩
  ·exact v.1 b o (hideAll_get _ (I.base.keep b o e n d (nx b)) (I.old k l e d))
  ·by_cases d:b∈lR X.outer
   ·obtain⟨p,g⟩:=f b o e (I.ok.frf b d) d;exact⟨_,g⟩
   ·obtain⟨j,g⟩:=I.base.there b o e (nx b);exact⟨j,v.1 b j (hideAll_get _ g (I.old k l e d))⟩
end
section
variable {P:Program}{w:World}{K:Frag}{mg:Str->Option Value}{base:Heap}{N:List Str}{qual:Str}{scope:Scope}{f:Addr}{cd:Value}{A:Around}{outer:List Env}{s:Shared}{H:Hp}{E:XK}
theorem Vm:Zq (lE P w) (jO (lE P w) P w K mg base N qual scope f cd A outer s H E) E:=by
 intro a p o r e q I ⟨d,cls,l,B,i,g,L,hE⟩;subst g;exact wpAny_leaves_onW I.ok.frames rfl L.fly λh' k j=>⟨d,cls,l,B,i,rfl,L.out I rfl rfl rfl k j,hE⟩
theorem qf {x:Str}{C:Addr}{v y:List Value}{X Bb a B g J:String}{np d pos:Pos}{e:Expr}{t:TA}(O:OwnCls x C v a mg base)(Fn:ExcBaseFacts X a J y)(p:v.contains (.type X)=true)(FB:ExcBaseFacts Bb B g v)
  (hg:Gl (jO (lE P w) P w K mg base N qual scope f cd A outer s H E) x) (ha:PA (jO (lE P w) P w K mg base N qual scope f cd A outer s H E) [e] t)
  (j:starEach [e] (envOfC qual scope s.heap.objs.size f cd)=[(false,eval e (envOfC qual scope s.heap.objs.size f cd))]) (hd:(x == ("__debug__":Str))=false:=by decide):
  PS (jO (lE P w) P w K mg base N qual scope f cd A outer s H E) (.Raise (some (.Call (.Name x np) [e] [] d)) none pos) (λ_ G k=>t G k λvs l=>vs.length<=sizeLine/\E (.ref C) none l):=by
 intro S s1 G k D I hw;obtain⟨tl,N',nm,q,bs,hdct,sn,sub,ab,col,dd,k0,k1,k2,k3,k5,mN,hC,hN,Q,T⟩:=O.obj;have hp:(backTo d (starEach [e] (envOfC qual scope s.heap.objs.size f cd))).any (·.1)=false:=by rw[j];rfl
 refine wpAny_Raise_call_subU (nm:=nm) (q:=q) (N:=N') (bs:=bs) (hdct:=hdct) (sn:=sn) (sub:=sub) (ab:=ab) (col:=col) (dd:=dd) (k0:=k0) (k1:=k1) (k2:=k2) (k3:=k3) (k5:=k5)
  Fn p FB (T.hasType FB.hasBase) (I.ok.hd rfl) hp Q (Wm I hg O.bound ⟨rfl, ?_⟩ hd)
 have Z:=ha d _ s1 G k _ I hw;have M :starEach [e] (jO (lE P w) P w K mg base N _ _ f cd A outer s H E).env=[(false,eval e _)]:=j;rw[M]at Z ⊢;refine f_ (lz Z λus s2 ⟨vs,l,i,r,hl,hE⟩=>⟨rfl,by rw[← r.length];exact hl,i.bk _ _ hC,hN.keeps i.bk,T.keeps i.bk,λh' ea U=> ?_⟩)
 have u:∀env∈(jO (lE P w) P w K mg base N qual scope f cd A outer s H E).stack,∀b,env.frame=some b->b∈lR _:=λenv j b hb=>dJ.mpr ⟨env,j,hb⟩;exact wpAny_leaves_madeW i.ok.frames rfl (λb o q=>of_hideAll _ q) (funFrames_hide i.stack u) U λh'' t' fl _ _ sl=>
  ⟨ea,.ref C,.ref t',_,l,rfl,UY.made i rfl rfl rfl U fl sl,hE⟩
end
end L2
namespace L2
open PySem PySem.Spec PyProof.Rows PySem.W
theorem Zd.there (x:Zd P w H h a o):∃ob,h.get? a=some ob:=by
 cases o with
 | lst xs=>obtain⟨_,_,_,_,e⟩:=x;exact⟨_,e⟩
 | tup xs=>obtain⟨_,_,_,⟨_,e,_⟩,_⟩:=x;exact⟨_,e⟩
 | dK d=>obtain⟨_,_,_,_,o,_,_,e,_⟩:=x;exact⟨_,e⟩
 | dT d=>obtain⟨_,_,_,_,o,_,_,e,_⟩:=x;exact⟨_,e⟩
 | set S n=>obtain⟨o,_,_,_,e,_⟩:=x;exact⟨_,e⟩
 | ins C j fs=>obtain⟨_,_,_,e,_⟩:=x;exact⟨_,e⟩
 | own y=>obtain⟨_,e⟩:=x;exact⟨_,e⟩
 | xd fs=>obtain⟨_,⟨_,_,_,e,_⟩,_⟩:=x;exact⟨_,e⟩
 | rng lo hi=>obtain⟨_,_,_,e⟩:=x;exact⟨_,e⟩
 | frz ob u=>obtain⟨e,_⟩:=x;exact⟨_,e⟩
 | tbl i q=>obtain⟨_,e,_⟩:=x;exact⟨_,e⟩
 | met f y=>exact⟨_,(x)⟩
 | ext g=>obtain⟨_,e,_⟩:=x;exact e
noncomputable def Y0 (cls:Value)(a:Addr)(h:Heap):Prop:=∃o,h.get? a=some o/\o.cls=cls
theorem Y0.ok (x:Y0 cls a h):Zd P w H h a (.ext (Y0 cls a)):=
 ⟨x,let ⟨o,e,_⟩:=x;⟨o,e⟩,λ_ _ ⟨o,e,c⟩ k=>⟨o,k o e,c⟩⟩
noncomputable abbrev Cx.try' (X:Cx)(pn:List (Addr×Obj))(xe:Value->Shared->Prop):Cx:={ X with pn:=pn,xe:=xe }
noncomputable abbrev Cx.mark' (X:Cx)(e:Value):Cx:={ X with A:=X.A.mark (some e),calm:=false,xe:=λ_ _=>False }
section
variable {X:Cx}{pins pins' :List (Addr×Obj)}{σ:St}{H H' :Hp}{s s' :Shared}{xe:Value->Shared->Prop}
theorem Cx.Ok.try' (ok:X.Ok){pn:List (Addr×Obj)}:(X.try' pn xe).Ok:=
 ⟨ok.mod,ok.kind,ok.glob,ok.blt,ok.above,ok.inj,ok.has,ok.cab,ok.hd,ok.frames,ok.stk,ok.exf,ok.bs,ok.bsz,ok.noex,ok.exfs,ok.funs,ok.frf⟩
theorem Cx.Ok.untry {pn:List (Addr×Obj)}(ok:(X.try' pn xe).Ok):X.Ok:=
 ⟨ok.mod,ok.kind,ok.glob,ok.blt,ok.above,ok.inj,ok.has,ok.cab,ok.hd,ok.frames,ok.stk,ok.exf,ok.bs,ok.bsz,ok.noex,ok.exfs,ok.funs,ok.frf⟩
theorem Inv.try' (I:Inv X pins σ H s)(xe:Value->Shared->Prop):Inv (X.try' (X.pn++pins) xe) [] σ H s:=
 ⟨I.ok.try',I.os,I.bare,I.base,I.loc,I.cell,I.free,I.freeC,λp hp=>I.pin p (by simpa using hp),I.hok,I.len⟩
theorem Inv.untry (I:Inv (X.try' (X.pn++pins) xe) pins' σ H s):Inv X pins σ H s:=
 ⟨I.ok.untry,I.os,I.bare,I.base,I.loc,I.cell,I.free,I.freeC,λp hp=>I.pin p (cN _ hp),I.hok,I.len⟩
theorem Inv.mark' (I:Inv X pins σ H s)(e:Value):Inv (X.mark' e) pins σ H s:=
 ⟨⟨I.ok.mod,I.ok.kind,I.ok.glob,I.ok.blt,I.ok.above,I.ok.inj,I.ok.has,I.ok.cab,λz=>(by cases z),I.ok.frames,I.ok.stk,I.ok.exf,I.ok.bs,I.ok.bsz,I.ok.noex,I.ok.exfs,I.ok.funs,I.ok.frf⟩,I.os,I.bare,I.base,I.loc,I.cell,I.free,I.freeC,I.pin,I.hok,I.len⟩
theorem Inv.unmark (I:Inv (X.mark' e) pins σ H s)(hd:X.calm=true->X.A.handled=none):Inv X pins σ H s:=
 ⟨⟨I.ok.mod,I.ok.kind,I.ok.glob,I.ok.blt,I.ok.above,I.ok.inj,I.ok.has,I.ok.cab,hd,I.ok.frames,I.ok.stk,I.ok.exf,I.ok.bs,I.ok.bsz,I.ok.noex,I.ok.exfs,I.ok.funs,I.ok.frf⟩,I.os,I.bare,I.base,I.loc,I.cell,I.free,I.freeC,I.pin,I.hok,I.len⟩
theorem SP.untry {D:V9}{f:Flow}(h:SP (X.try' (X.pn++pins) xe) pins' D f s'):SP X pins D f s' :=by
 cases f with
 | next=>obtain⟨σ',H',I,q⟩:=h;exact⟨σ',H',I.untry,q⟩
 | brk=>obtain⟨σ',H',I,q⟩:=h;exact⟨σ',H',I.untry,q⟩
 | cont=>obtain⟨σ',H',I,q⟩:=h;exact⟨σ',H',I.untry,q⟩
 | ret u=>obtain⟨v,σ',H',I,r,q⟩:=h;exact⟨v,σ',H',I.untry,r,q⟩
theorem ko {Q:Unit->Shared->Prop}(I:Inv X pins σ H s)(U:X.N.Nodup)(hi:X.N[i]? =some n)(hl:X.env.kindOf n=some .local)(h:∀s',Inv X pins (σ.set i none) H s' ->Q () s'):
  wpAny M A (do bindName X.env n .none;unbindBehindTheSuite X.env n pos) Q E s:=by
 obtain⟨m,hn,x⟩:=id I.loc;have l:(X.env.scope.kind == .class || (X.env.scope.kind == .module && X.env.locals != X.env.globals))=false:=by rw[I.ok.kind];rfl
 refine wpAny_nameGoes_keeps hl hn l λh' v G a=> ?_;refine h _ ⟨I.ok,I.os,I.bare,⟨λb o e n B g=> ?_,λb o e n B g=> ?_,I.base.free,λb o e g=> ?_,I.base.tups,I.base.frzs,I.base.tbls⟩,⟨_,G,λj y v' f w e3=> ?_⟩,λy c e=> ?_,I.free,I.freeC,λp hp=> ?_,λb ob e=> ?_,by simpa using I.len⟩
 ·exact(a.2 b (aK (aN (ax e) I.ok.above))).trans (I.base.keep b o e n B g)
 ·obtain⟨P,f⟩:=I.base.slot b o e n B g;exact⟨P,(a.2 b (aK (aN (ax e) I.ok.above))).trans f⟩
 ·obtain⟨O,f⟩:=I.base.there b o e g;exact⟨O,(a.2 b (aK (aN (ax e) I.ok.above))).trans f⟩
 ·by_cases D:j=i
  ·subst D;have r:j < σ.length:=by rw[I.len];exact(au.mp hi).1
   rw[ba r]at w;cases w
  ·rw[aP (bI D)]at w;obtain⟨u',Z,q⟩:=x j y v' f w e3;refine⟨u',Z, ?_⟩;rcases q with ⟨k,e⟩ | ⟨k,c,e,z⟩
   ·refine .inl ⟨k, ?_⟩;have:y ≠ n:=λe=>D (Wl U f (e ▸ hi));simp[this,e]
   ·exact .inr ⟨k,c,e,z.sameBut a (I.cne y c e)⟩
 ·obtain⟨J,z⟩:=I.cell y c e;exact⟨J,z.sameBut a (I.cne y c e)⟩
 ·obtain⟨e,n,K,S,d⟩:=I.pin p hp;exact⟨(a.2 p.1 K).trans e,n,K,S,d⟩
 ·refine(I.hok b ob e).stay (λc J u q=>(a.2 c ?_).trans q) (λ_ q=>q) λ_ _ q=>q
  rintro rfl
  rcases u with rfl | u
  ·rw[I.free]at e;cases e
  ·rw[I.free]at u;cases u
end
section
theorem Y1 {K:Frag}{e:Addr}{cls c:Value}{t:Expr}{n:Str}{j:Stmt}{d:List Stmt}{pos:Pos}{rest:List ExceptHandler}{Q:Flow->Shared->Prop}(B:exmOne K cls c=some true)
  (h:wpAny (model prog w) (A.mark (some (.ref e))) (eval t env) (λv a=>v=c/\K.In a.heap/\(∃x,a.heap.get? e=some x/\x.cls=cls)/\
   wpAny (model prog w) (A.mark (some (.ref e))) (setFlight (.ref e) none) (λ_ i=>
     wpAny (model prog w) (A.mark (some (.ref e))) (storeName env n (.ref e)) (λ_ g=>
      wpAny (model prog w) (A.mark (some (.ref e))) (execs (j :: d) env)
       (λf k=>wpAny (model prog w) A (do bindName env n .none;unbindBehindTheSuite env n pos) (λ_ u=>Q f u) E k)
       (λ_ _=>False) g) (λ_ _=>False) i) (λ_ _=>False) a) (λ_ _=>False) s):
  wpAny (model prog w) A (handleBy (.ref e) env (.ExceptHandler (some t) (some n) (j :: d) pos :: rest)) Q E s:=by
 refine wpAny_handleBy_cons (codeAny_handlers_test (bV h (λv a h₁=> ?_) λ_ _ y=>y.elim)) (by intro q;cases q)
 obtain⟨rfl,X,⟨x,G,l⟩,D⟩:=h₁;have LT:Looks (model prog w) a.heap (typeOf (.ref e)) cls:=by
  rw[← l];exact(Looks.ld G).andThen .now
 refine(exm_one X LT B) _ _ _ _ (λb o q=>q) (codeAny_handlers_suite_as ?_);exact bV D (λ_ i p=>bV p (λ_ g r=>bV r (λ_ _ y=>y) λ_ _ y=>y.elim) λ_ _ y=>y.elim) λ_ _ y=>y.elim
end
end L2
namespace L2
open PySem PySem.Spec PyProof.Rows PySem.W
section
theorem Inv.caught (I:Inv X pins σ H s)(L:UY X.prog X.w X.stack H s s' ea cls a0 B H')(d:dS B X.stack ea cls a0 h3)(e:s'.heap.UpToSlots h3):Inv X pins σ H' { s' with heap:=h3 }:=
 have a:=L.on I.frNf d e
 I.call' a.os a.un (L.hok.kept d.1) a.bare (λb z=>absurd z (by simp))
theorem UY.fresh (L:UY P w outer H s s' ea cls a0 B H'):H' ea=none:=by
 cases q:H' ea with
 | none=>rfl
 | some o=>
  obtain⟨ob,e⟩:=(L.hok ea o q).there;have:=L.fly.2.1;rw[e]at this;cases this
theorem Inv.caughtX (I:Inv X pins σ H s)(L:UY X.prog X.w X.stack H s s' ea cls a0 B H')(j:dS B X.stack ea cls a0 h3)(v:s'.heap.UpToSlots h3):Inv X pins σ (lC H' ea (.ext (Y0 cls ea))) { s' with heap:=h3 }:=by
 have a:=L.on I.frNf j v;have d:=L.fresh;obtain⟨M,N,k,x,hd,_⟩:=j.first;have i:∀b o,s.heap.get? b=some o->b ≠ ea:=λb o e z=>by
  subst z
  by_cases f:b∈lR X.stack
  ·obtain⟨n,D,G,y⟩:=I.frNf b f;obtain⟨r,l⟩:=a.un.slot b D G n f (by simp)
   rw[k]at l;cases l;exact y N hd
  ·obtain⟨O,p⟩:=(L.inB b o e f).2;have:=L.fly.2.1;rw[p]at this;cases this
 have g:∀b u,H' b=some u->b ≠ ea:=λb u e z=>by rw[z,d]at e;cases e
 refine I.call' a.os ⟨a.un.keep,a.un.slot,λb o e n J=> ?_,a.un.there,λb xs e=> ?_,λb o xs e=> ?_,λb K q e=> ?_⟩ ?_ a.bare (λb z=>absurd z (by simp))
 ·rw[zm (i b o e)];exact a.un.free b o e n J
 ·have:=a.un.tups b xs e;rw[zm (g b _ this)];exact this
 ·have:=a.un.frzs b o xs e;rw[zm (g b _ this)];exact this
 ·have:=a.un.tbls b K q e;rw[zm (g b _ this)];exact this
 ·intro b u e
  by_cases f:b=ea
  ·subst f;rw[zB]at e;cases e;exact Y0.ok ⟨M,k,x⟩
  ·rw[zm f]at e;exact((L.hok.kept j.1) b u e).stay (λ_ _ _ q=>q) (λc q=>by rw[zm (g c _ q)];exact q) (λc xs q=>by rw[zm (g c _ q)];exact q) λc o u q=>by rw[zm (g c _ q)];exact q
end
theorem kq {tb:XK->TS}
  (Z:X.stack=X.env :: X.outer) (hf:X.env.frame=some X.env.locals) (hN:X.N.Nodup)
  (hi:X.N[i]? =some n) (S:X.env.scope.names.lookup n=some .local) (hk:X.N[k]? =some y) (hy:X.env.scope.names.lookup y=some .local)
  (hg:Gl X c) (hm:X.mg c=some (.ref C))
  (hb:∀(o :XK) (pn:List (Addr×Obj)) (xe:Value->Shared->Prop),Zq (lE X.prog X.w) (X.try' pn xe) o ->PSs (X.try' pn xe) body (tb o))
  (hs:swapsWith (.Name n np) (some (.Name y yp)) apos.line X.env=pure false:=by rfl)
  (hdc:(c == ("__debug__":Str))=false:=by decide) (hdn:(n == ("__debug__":Str))=false:=by decide) (hcd:(n == ("__classdict__":Str))=false:=by decide):
  PS X (.Try body [.ExceptHandler (some (.Name c cp)) (some n) [.Assign [.Name y yp] (.Name n np) apos] hp] [] [] pos)
   (λD M H=>∃o :XK,(∀(cls:Value) (d:Option Addr) (r :Hp) (a:Addr) (σ' :St),o cls d r ->exmOne X.K cls (.ref C)=some true/\(r a=none->σ'.length=M.length->M.length=X.N.length->D.nx (((σ'.set i (some (.ref a))).set k (some (.ref a))).set i none) (lC r a (.ext (Y0 cls a)))))/\tb o D M H):=by
 intro l s M H D I ⟨o,hE,hw⟩;have x:Zq (lE X.prog X.w) (X.try' (X.pn++l) λe s1=>wpAny (model X.prog X.w) X.A (noteFrame e X.env) (λ_ s2=>wpAny (model X.prog X.w) X.A (setFlight e none) (λ_ s3=>wpAny (model X.prog X.w) X.A (handleBy e X.env [.ExceptHandler (some (.Name c cp)) (some n) [.Assign [.Name y yp] (.Name n np) apos] hp]) (SP X l D) X.xe s3) X.xe s2) X.xe s1) o :=by
  intro pins' σ' H1 s1 e s' I1 ⟨a,cls,a0,B,r,he,L,hw'⟩;subst he;have Q:=I1.untry;have fr:X.A.frames=some (X.env :: X.outer):=by rw[← Z];exact Q.ok.frames
  refine wpAny_looks_onW fr hf (Z ▸ L.fly) λq G sl1=> ?_;refine wpAny_landsW G λh2 g U=> ?_;rw[← Z]at g;have p:=sl1.trans U;have I2:=Q.caught L g p;obtain⟨hm1,hD⟩:=hE cls _ r a σ' hw';refine Y1 hm1 ?_;refine Wm (I2.mark' _) hg hm ⟨rfl,I2.kIn,g.there, ?_⟩ hdc;refine lands_againW g λh3 fl3 sl3=> ?_;have I3:=Q.caughtX L fl3 (p.trans sl3);have j:=Q.len;refine jX (X:=X.mark' (.ref a)) (I3.mark' _) hN hi (.inl S) (v:= .ref a) rfl (λs4 I4=> ?_) (.inr S);have O:i < σ'.length:=by rw[j];exact(au.mp hi).1
  have hs1:=YI (US (X:=X.mark' (.ref a)) hN hk (.inl hy) (xO hi (.inl S) hdn hcd) hs (.inr hy));have hr:=hs1 _ s4 _ _ { nx:=λJ H5=>J=(σ'.set i _).set k _/\H5=lC r a _,rt:=λ_ _=>False } I4 ⟨.ref a,ba O,rfl,rfl⟩;refine bV hr (λf s5 P=> ?_) λ_ _ z=>z;cases f with
  | next=>
   obtain⟨J,H5,I5,rfl,rfl⟩:=P;refine ko (I5.unmark I.ok.hd) hN hi S λs6 I6=> ?_;exact⟨_,_,I6,hD L.fresh (j.trans I.len.symm) I.len⟩
  | brk=>obtain⟨_,_,_,z⟩:=P;exact z.elim
  | cont=>obtain⟨_,_,_,z⟩:=P;exact z.elim
  | ret u=>obtain⟨_,_,_,_,_,z⟩:=P;exact z.elim
 have hr:=hb o _ _ x [] s M H D (I.try' _) hw;refine wpAny_Try_except (bV hr (λf s1 q=> ?_) λ_ _ z=>z);have q:=q.untry;cases f with
 | next=>exact wpAny_execs_nil q
 | brk=>exact q
 | cont=>exact q
 | ret u=>exact q
end L2
namespace PySem
open PySem.W
section
end
end PySem
namespace L2
open PySem PySem.Spec PyProof.Rows PySem.W
section
def Gy (X:Cx)(E:XK):Prop:=∀(f:List (Addr×Obj)) (j:St) (H:Hp) (s:Shared) (e:Value) (g :Shared) (C:Addr) (m:Str->Option Value) (i :Value->Shared->Prop) (a:Env),Inv X f j H s->s.heap.Ns C m->H C=none->X.s₀.heap.objs.size<=C->C ∉ lR X.stack->a.frame=X.env.frame->lE X.prog X.w X.stack H s E e g ->
 wpAny (model X.prog X.w) X.A (noteFrame e a) (λ_ d =>∃m,d.heap.Ns C m/\∀h',d7 C d.heap h' ->∀env:Env,env.locals=C->wpAny (model X.prog X.w) X.A (passOn "comprehension.variables-let-go" e env:Sem Value) (λ_ _=>False) X.xe { d with heap:=h' }) i g
theorem Jl (h:E=λ_ _ _=>False):Gy X E:=λa f H s e i C m g d I _ _ _ _ _ ⟨_,_,_,_,_,_,_,z⟩=>by subst h;exact z.elim
end
end L2
namespace L2
open PySem PySem.Spec PyProof.Rows
theorem PE.imp (h:PE X e t)(i:∀a H Q,t' a H Q->t a H Q):PE X e t' :=λd s a H Q I q=>h _ s a H Q I (i a H Q q)
theorem PT.imp (h:PT X e t)(i:∀a H Q,t' a H Q->t a H Q):PT X e t' :=λd s a H Q I q=>h _ s a H Q I (i a H Q q)
theorem PA.imp (h:PA X e t)(i:∀a H Q,t' a H Q->t a H Q):PA X e t' :=λpos d s a H Q I q=>h pos _ s a H Q I (i a H Q q)
theorem PS.imp (h:PS X e t)(i:∀D a H,t' D a H->t D a H):PS X e t' :=λd s a H D I q=>h _ s a H D I (i D a H q)
theorem PSs.imp (h:PSs X e t)(i:∀D a H,t' D a H->t D a H):PSs X e t' :=λd s a H D I q=>h _ s a H D I (i D a H q)
end L2
namespace PV
open PySem
noncomputable def uC:Expr->Bool
 | .Starred _ _=>false
 | _=>true
theorem zU (h:uC e=true):starEach (e :: rest) env=(false,eval e env) :: starEach rest env:=by
 cases e <;> first | rfl | cases h
theorem mq (h:uC a=true)(h' :uC b=true):starEach [a,b] env=[(false,eval a env),(false,eval b env)]:=by
 rw[zU h,zU h'];rfl
theorem lO (h:uC a=true):starEach [a] env=[(false,eval a env)]:=by
 rw[zU h];rfl
theorem Zl {pos:Pos}{env:Env}:∀{a:List Expr},a.all uC=true->((backTo pos (starEach a env)).any λx=>x.fst)=false
 | [],_=>rfl
 | e :: a,h=>by
  rw[b_,ae]at h;rw[zU h.1];have:=Zl (pos:=pos) (env:=env) h.2;show (false || ((backTo pos _).any λx=>x.fst))=false
  rw[this];rfl
open PySem PySem.Spec PyProof.Rows L2
noncomputable abbrev Sg:=L2.St
inductive T where
 | non | bl (b:Bool) | int (i:Int) | str (x:Str) | tup (xs:List T) | lst (xs:List T) | fz (xs:List T)
inductive R (α:Type) where
 | ok (a:α) | ex (c:Nat) | bad
noncomputable def R.bind {d e:Type}(r:R d)(f:d->R e):R e:=match r with
 | .ok a=>f a
 | .ex c=> .ex c
 | .bad=> .bad
mutual
inductive Rep (H:Hp):V->T->Prop where
 | non:Rep H .non .non
 | bl (b:Bool):Rep H (.bl b) (.bl b)
 | int (i:Int):Rep H (.int i) (.int i)
 | str (x:Str):Rep H (.str x) (.str x)
 | tup {a:Addr} {xs:List V} {ts:List T}:H a=some (.tup xs)->zG H xs ts->Rep H (.ref a) (.tup ts)
 | lst {a:Addr} {xs:List V} {ts:List T}:H a=some (.lst xs)->zG H xs ts->Rep H (.ref a) (.lst ts)
 | fz {a:Addr} {o:Obj} {xs:List V} {ts:List T}:H a=some (.frz o (.lst xs))->zG H xs ts->Rep H (.ref a) (.fz ts)
inductive zG (H:Hp):List V->List T->Prop where
 | nil:zG H [] []
 | cons {v:V} {t:T} {vs:List V} {ts:List T}:Rep H v t->zG H vs ts->zG H (v :: vs) (t :: ts)
end
mutual
theorem Rep.mono {H a :Hp}(s:zl H a):∀{v:V} {t:T},Rep H v t->Rep a v t
 | _,_,.non=> .non
 | _,_,.bl b=> .bl b
 | _,_,.int i=> .int i
 | _,_,.str x=> .str x
 | _,_,.tup h r=> .tup (s _ _ h) (zG.mono s r)
 | _,_,.lst h r=> .lst (s _ _ h) (zG.mono s r)
 | _,_,.fz h r=> .fz (s _ _ h) (zG.mono s r)
theorem zG.mono {H a :Hp}(s:zl H a):∀{v:List V} {t:List T},zG H v t->zG a v t
 | _,_,.nil=> .nil
 | _,_,.cons h r=> .cons (Rep.mono s h) (zG.mono s r)
end
theorem zG.length {H:Hp}:∀{a:List V} {ts:List T},zG H a ts->a.length=ts.length
 | _,_,.nil=>rfl
 | _,_,.cons _ r=>congrArg _ (zG.length r)
theorem zG.get {H:Hp}:∀{a:List V} {ts:List T} {i:Nat} {t:T},zG H a ts->ts[i]? =some t->∃v,a[i]? =some v/\Rep H v t
 | _,_,_,_,.nil,e=>by simp at e
 | _,_,0,_,.cons r _,e=>by simp at e;subst e;exact⟨_,rfl,r⟩
 | _,_,i+1,t,.cons _ q,e=>by
  obtain⟨v,f,d⟩:=zG.get q (by simpa using e)
  exact⟨v,by simpa using f,d⟩
theorem zG.getV {H:Hp}:∀{a:List V} {ts:List T} {i:Nat} {v:V},zG H a ts->a[i]? =some v->∃t,ts[i]? =some t/\Rep H v t
 | _,_,_,_,.nil,e=>by simp at e
 | _,_,0,_,.cons r _,e=>by simp at e;subst e;exact⟨_,rfl,r⟩
 | _,_,i+1,v,.cons _ q,e=>by
  obtain⟨t,f,d⟩:=zG.getV q (by simpa using e)
  exact⟨t,by simpa using f,d⟩
theorem zG.append {H:Hp}:∀{d e:List V} {ts a:List T},zG H d ts->zG H e a->zG H (d++e) (ts++a)
 | _,_,_,_,.nil,q=>q
 | _,_,_,_,.cons r t,q=> .cons r (zG.append t q)
theorem zG.take {H:Hp}:∀{a:List V} {ts:List T} (n:Nat),zG H a ts->zG H (a.take n) (ts.take n)
 | _,_,0,_=> .nil
 | _,_,_+1,.nil=> .nil
 | _,_,n+1,.cons r t=> .cons r (zG.take n t)
theorem zG.drop {H:Hp}:∀{a:List V} {ts:List T} (n:Nat),zG H a ts->zG H (a.drop n) (ts.drop n)
 | _,_,0,r=>r
 | _,_,_+1,.nil=> .nil
 | _,_,n+1,.cons _ t=>zG.drop n t
theorem zG.rep {H:Hp}{a:List V}{ts:List T}(h:zG H a ts):∀n:Nat,zG H (ai n a).flatten (ai n ts).flatten
 | 0=> .nil
 | n+1=>by
  exact h.append (zG.rep h n)
theorem zG.nil_iff (h:zG H vs ts):vs=[]↔ts=[]:=by
 cases h <;> simp
def zL (B H a :Hp):Hp:=λb=>match H b with
 | none=>a b
 | some _=>B b
theorem zV (h:H b=none):zL B H H' b=H' b:=by unfold zL;rw[h]
theorem zW (h:H b=some o):zL B H H' b=B b:=by unfold zL;rw[h]
theorem zL.ge (s:zl B H)(a :zl H H'):zl B (zL B H H'):=λb o h=>by
 rw[zW (s b o h)];exact h
theorem zL.le (s:zl B H)(a :zl H H'):zl (zL B H H') H' :=λb o h=>by
 cases q:H b with
 | none=>rw[zV q]at h;exact h
 | some u=>rw[zW q]at h;exact a b o (s b o h)
theorem zL.self (B H:Hp)(s:zl B H):zL B H H=B:=by
 funext b
 cases q:H b with
 | none=>
  rw[zV q,q];cases z:B b with
  | none=>rfl
  | some o=>rw[s b o z]at q;cases q
 | some u=>rw[zW q]
theorem zL.trans (d:zl H H1)(a:zl H1 H2):zL (zL B H H1) H1 H2=zL B H H2:=by
 funext b
 cases q:H b with
 | none=>
  rw[zV q];cases z:H1 b with
  | none=>rw[zV z]
  | some o=>rw[zW z,zV q,z,a b o z]
 | some u=>rw[zW q,zW (d b u q),zW q]
inductive Fd where
 | tv (t:T) | tl (ts:List T)
noncomputable abbrev Ob:=Nat×List (Str×Fd)
noncomputable def AU:List Str:=["kind","remaining","done","undone","first","last","answered"]
def Bt (a:List (Str×V)):Prop:=∀f,f ∉ AU->a.lookup f=none
inductive Sl where
 | un | vl (t:T) | ow (ts:List T) | xc (c:Nat) | ob (k n:Nat) | oc (k:Nat) (fs:List (Str×Fd)) | st (os:List Ob)
noncomputable def Sl.isS:Sl->Bool
 | .ob _ _=>true
 | .st _=>true
 | _=>false
noncomputable def Sl.isO:Sl->Bool
 | .ob _ _=>true
 | .oc _ _=>true
 | .st _=>true
 | _=>false
noncomputable abbrev En:=List Sl
structure Fx where
 B0:Hp
 H0:Hp
 E:XK
 cl:Nat->Value
 as:List Addr
def sh (ρ:En)(a:Sg)(l:Addr):Prop:=∀(j:Nat) (d:List T),ρ[j]? =some (Sl.ow d)->a[j]? ≠ some (some (V.ref l))
def Fz (Y:Fx)(B:Hp)(ρ:En)(a:Sg)(H:Hp)(o:Addr->Prop)(v:V):Fd->Prop
 | .tv t=>Rep B v t
 | .tl ts=>∃l xs,v= .ref l/\B l=none/\Y.H0 l=none/\H l=some (.lst xs)/\zG B xs ts/\sh ρ a l/\o l
def FsO (B H:Hp)(a:List (Str×V))(fs:List (Str×Fd)):Prop:=∀(m:Nat) (f:Str) (d:Fd),fs[m]? =some (f,d)->∃v,a[m]? =some (f,v)/\match d with
 | .tv t=>Rep B v t
 | .tl ts=>∃l xs,v= .ref l/\H l=some (.lst xs)/\zG B xs ts
theorem FsO.mono {B g H i :Hp}{j:List (Str×V)}{fs:List (Str×Fd)}(h:FsO B H j fs)(s:zl B g)(o :zl H i):FsO g i j fs:=λm f d e=>by
 obtain⟨v,k,r⟩:=h m f d e;refine⟨v,k, ?_⟩;cases d with
 | tv t=>exact Rep.mono s r
 | tl ts=>obtain⟨l,xs,a,b,c⟩:=r;exact⟨l,xs,a,o _ _ b,c.mono s⟩
structure StI (Y:Fx) (B:Hp) (ρ:En) (σ:Sg) (H:Hp) (as:List Addr) (O:Addr->Option (Nat×Nat)):Prop where
 pre:Y.as <+:as
 len:∀(i:Nat) (os:List Ob),ρ[i]? =some (Sl.st os)->as.length=os.length
 one:∀(i j:Nat) (os os' :List Ob),ρ[i]? =some (Sl.st os)->ρ[j]? =some (Sl.st os')->i=j
 ob:∀(i k n:Nat),ρ[i]? =some (Sl.ob k n)->∃a C dx vs,as[n]? =some a/\σ[i]? =some (some (V.ref a))/\Y.cl k= .ref C/\H a=some (.ins C dx vs)/\B a=none/\Y.H0 a=none/\Bt vs
 oc:∀(i k:Nat) (fs:List (Str×Fd)),ρ[i]? =some (Sl.oc k fs)->∃a C dx vs,σ[i]? =some (some (V.ref a))/\Y.cl k= .ref C/\Y.H0 a=some (.ins C dx vs)/\Bt vs/\FsO B Y.H0 vs fs
 st:∀(i:Nat) (os:List Ob),ρ[i]? =some (Sl.st os)->∀(n k:Nat) (fs:List (Str×Fd)),os[n]? =some (k,fs)->∃a C dx vs,as[n]? =some a/\Y.cl k= .ref C/\H a=some (.ins C dx vs)/\B a=none/\Y.H0 a=none/\O a=some (n,0)/\(vs.length=fs.length/\Bt vs)/\
  ∀(m:Nat) (f:Str) (d:Fd),fs[m]? =some (f,d)->∃v,vs[m]? =some (f,v)/\Fz Y B ρ σ H (λl=>O l=some (n,m+1)) v d
structure SI (Y:Fx) (B:Hp) (ρ:En) (σ:Sg) (H:Hp):Prop where
 s0:zl Y.B0 Y.H0
 sH:zl Y.H0 H
 sB:zl B H
 old:∀b o,Y.H0 b=some o->B b=Y.B0 b
 len:ρ.length=σ.length
 vl:∀(i:Nat) (t:T),ρ[i]? =some (Sl.vl t)->∃v:V,σ[i]? =some (some v)/\Rep B v t
 ow:∀(i:Nat) (ts:List T),ρ[i]? =some (Sl.ow ts)->∃(a:Addr) (xs:List V),σ[i]? =some (some (V.ref a))/\B a=none/\Y.H0 a=none/\H a=some (.lst xs)/\zG B xs ts/\
  ∀(j:Nat) (us:List T),j ≠ i->ρ[j]? =some (Sl.ow us)->σ[j]? ≠ some (some (V.ref a))
 xc:∀(i:Nat) (c:Nat),ρ[i]? =some (Sl.xc c)->∃a:Addr,σ[i]? =some (some (V.ref a))/\B a=some (.ext (Y0 (Y.cl c) a))
 st:∃as O,StI Y B ρ σ H as O
theorem StI.on {Y y :Fx}{B Z :Hp}{ρ g :En}{S σ' :Sg}{H H' :Hp}{as:List Addr}{O:Addr->Option (Nat×Nat)}(x:StI Y B ρ S H as O)(r:∀(i:Nat) (s:Sl),s.isO=true->g[i]? =some s->ρ[i]? =some s/\σ'[i]? =S[i]?)(U:zl B Z)(X:y.cl=Y.cl)(hA:y.as=Y.as)(h0:zl Y.H0 y.H0)
  (hH:∀b o,H b=some o->B b=none->Y.H0 b=none->((∃C p q,o= .ins C p q)\/sh ρ S b)->H' b=some o/\Z b=none/\y.H0 b=none/\(sh ρ S b->sh g σ' b)):StI y Z g σ' H' as O where
 pre:=by rw[hA];exact x.pre
 len:=λi os h=>x.len i os (r i _ rfl h).1
 one:=λi j os os' G I=>x.one i j os os' (r i _ rfl G).1 (r j _ rfl I).1
 ob:=λi k n h=>by
  obtain⟨G,I⟩:=r i _ rfl h;obtain⟨a,C,p,q,M,K,D,P,u,Q⟩:=x.ob i k n G;obtain⟨N,w,J,_⟩:=hH a _ P u Q.1 (.inl ⟨_,_,_,rfl⟩);rw[I,X];exact⟨a,C,p,q,M,K,D,N,w,J,Q.2⟩
 oc:=λi k fs h=>by
  obtain⟨G,I⟩:=r i _ rfl h;obtain⟨a,C,p,q,M,K,D,P,u⟩:=x.oc i k fs G;rw[I,X];exact⟨a,C,p,q,M,K,h0 _ _ D,P,u.mono U h0⟩
 st:=λi os h n k fs e=>by
  obtain⟨a,C,p,q,M,K,D,P,u,Q,e7,e8⟩:=x.st i os (r i _ rfl h).1 n k fs e;obtain⟨N,w,J,_⟩:=hH a _ D P u (.inl ⟨_,_,_,rfl⟩);refine⟨a,C,p,q,M,by rw[X];exact K,N,w,J,Q,e7,λm f d z=> ?_⟩
  obtain⟨v,z1,z2⟩:=e8 m f d z;refine⟨v,z1, ?_⟩;cases d with
  | tv t=>exact Rep.mono U z2
  | tl ts=>
   obtain⟨l,xs,p1,p2,p3,p4,p5,p6,p7⟩:=z2;obtain⟨N,w,J,g4⟩:=hH l _ p4 p2 p3 (.inr p6);exact⟨l,xs,p1,w,J,N,p5.mono U,g4 p6,p7⟩
theorem StI.no (h:∀(i:Nat) (s:Sl),s.isO=true->ρ[i]? ≠ some s):∃a O,StI Y B ρ σ H a O:=⟨Y.as,λ_=>none,fq _,λi os e=>(h i _ rfl e).elim,λi j os d e=>(h i _ rfl e).elim,λi k n e=>(h i _ rfl e).elim,λi k fs e=>(h i _ rfl e).elim,λi os e=>(h i _ rfl e).elim⟩
theorem SI.grow {Y:Fx}{B:Hp}{ρ:En}{j:Sg}{H g :Hp}(I:SI Y B ρ j H)(s:zl H g):SI Y (zL B H g) ρ j g where
 s0:=I.s0
 sH:=I.sH.trans s
 sB:=zL.le I.sB s
 old:=λb o h=>by rw[zW (I.sH b o h)];exact I.old b o h
 len:=I.len
 vl:=λi t h=>let ⟨v,e,r⟩:=I.vl i t h;⟨v,e,r.mono (zL.ge I.sB s)⟩
 ow:=λi ts h=>let ⟨a,xs,e,b,f,hh,r,d⟩:=I.ow i ts h;⟨a,xs,e,by rw[zW hh];exact b,f,s _ _ hh,r.mono (zL.ge I.sB s),d⟩
 xc:=λi c h=>let ⟨a,e,r⟩:=I.xc i c h;⟨a,e,zL.ge I.sB s a _ r⟩
 st:=let ⟨as,O,x⟩:=I.st;⟨as,O,x.on (λ_ _ _ h=>⟨h,rfl⟩) (zL.ge I.sB s) rfl rfl (zl.refl _) λb o h k f _=>⟨s _ _ h,by rw[zW h];exact k,f,id⟩⟩
def XP (Y:Fx)(B:Hp)(c:Nat):Prop:=∀(d:Option Addr) (a :Hp),zl Y.H0 a ->zl B a ->Y.E (Y.cl c) d a
def Po {f g:Type}(Y:Fx)(e:Hp->Hp->g->f->Prop)(B H:Hp)(r:R f)(Q:g->Hp->Prop):Prop:=match r with
 | .ok a=>∀b d,zl H d ->e (zL B H d) d b a->Q b d
 | .ex c=>XP Y B c
 | .bad=>False
abbrev rC:Hp->Hp->V->T->Prop:=λB _ v t=>Rep B v t
abbrev rB:Hp->Hp->V->T->Prop:=λ_ H v t=>Rep H v t
abbrev Ce:Hp->Hp->List V->List T->Prop:=λB _ v t=>zG B v t
abbrev rE {α:Type}:Hp->Hp->α->α->Prop:=λ_ _ a b=>a=b
def tS {d e:Type}(Y:Fx)(a:Hp->Hp->e->d->Prop)(f:En->R d)(ρ:En):Sg->Hp->(e->Hp->Prop)->Prop:=λg H Q=>∃B,SI Y B ρ g H/\Po Y a B H (f ρ) Q
structure Snd (X:Cx) (Y:Fx) (e:Expr) (f:En->R T):Prop where
 mk ::
 go:∀ρ,PE X e (tS Y rC f ρ)
instance {X:Cx}{Y:Fx}{e:Expr}{f:En->R T}:CoeFun (Snd X Y e f) λ_=>∀ρ,PE X e (tS Y rC f ρ):=⟨Snd.go⟩
structure jn (X:Cx) (Y:Fx) (e:Expr) (f:En->R T):Prop where
 mk ::
 go:∀ρ,PE X e (tS Y rB f ρ)
instance {X:Cx}{Y:Fx}{e:Expr}{f:En->R T}:CoeFun (jn X Y e f) λ_=>∀ρ,PE X e (tS Y rB f ρ):=⟨jn.go⟩
structure uk (X:Cx) (Y:Fx) (e:Expr) (f:En->R Bool):Prop where
 mk ::
 go:∀ρ,PT X e (tS Y rE f ρ)
instance {X:Cx}{Y:Fx}{e:Expr}{f:En->R Bool}:CoeFun (uk X Y e f) λ_=>∀ρ,PT X e (tS Y rE f ρ):=⟨uk.go⟩
structure ul (X:Cx) (Y:Fx) (es:List Expr) (f:En->R (List T)):Prop where
 mk ::
 go:∀ρ,PA X es (tS Y Ce f ρ)
instance {X:Cx}{Y:Fx}{es:List Expr}{f:En->R (List T)}:CoeFun (ul X Y es f) λ_=>∀ρ,PA X es (tS Y Ce f ρ):=⟨ul.go⟩
theorem step {p o v j :Type}{l:Hp->Hp->v->p->Prop}{i :Hp->Hp->j ->o ->Prop}{f:En->R p}{k:p->R o}{Q:j ->Hp->Prop}{K:v->Hp->Prop}
  (I:SI Y B ρ σ H) (h:Po Y i B H ((f ρ).bind k) Q)
  (n:∀a b g,f ρ= .ok a->zl H g->l (zL B H g) g b a->SI Y (zL B H g) ρ σ g->Po Y i (zL B H g) g (k a) Q->K b g):tS Y l f ρ σ H K:=by
 refine⟨B,I, ?_⟩;cases e:f ρ with
 | bad=>rw[e]at h;exact h
 | ex c=>rw[e]at h;exact h
 | ok a=>
  rw[e]at h;intro b g s r;refine n a b g e s r (I.grow s) ?_;have h' :Po Y _ B H (k a) Q:=h;revert h';cases k a with
  | bad=>exact λh' =>h'
  | ex c=>exact λh' d y x q =>h' d y x ((zL.ge I.sB s).trans q)
  | ok J =>exact λh' w D u G=>h' w D (s.trans u) (by rw[← zL.trans s u];exact G)
theorem ZL {f e:Type}{d:Hp->Hp->e->f->Prop}{a:f}{b:e}{Q:e->Hp->Prop}(I:SI Y B ρ σ H)(h:Po Y d B H (.ok a) Q)(r:d B H b a):Q b H:=h b H (zl.refl H) (by rw[zL.self B H I.sB];exact r)
theorem Snd.b {X:Cx}{Y:Fx}{e:Expr}{f:En->R T}(h:Snd X Y e f):jn X Y e f:= .mk λρ=>PE.imp (h ρ) λg H Q ⟨B,I,q⟩=>⟨B,I,by
 revert q;cases f ρ with
 | bad=>exact λq=>q
 | ex c=>exact λq=>q
 | ok a=>exact λq b d s r=>q b d s (r.mono (zL.le I.sB s))⟩
section
def vE (i:Nat):En->R T:=λρ=>match ρ[i]? with
 | some (.vl t)=> .ok t
 | _=> .bad
def vB (i:Nat):En->R T:=λρ=>match ρ[i]? with
 | some (.vl t)=> .ok t
 | some (.ow ts)=> .ok (.lst ts)
 | _=> .bad
def cE (t:T):En->R T:=λ_=> .ok t
theorem Fv (i:Nat)(h:PE X (.Name x pos) (Yz i)):Snd X Y (.Name x pos) (vE i):= .mk λρ=>PE.imp h λd H Q ⟨B,I,q⟩=>by
 unfold vE at q;split at q
 ·rename_i t e;obtain⟨v,a,r⟩:=I.vl i t e;exact⟨v,a,ZL I q r⟩
 ·exact q.elim
theorem Gz (i:Nat){x:Str}(h:PE X (.Name x pos) (Yz i)):jn X Y (.Name x pos) (vB i):= .mk λρ=>PE.imp h λg H Q ⟨B,I,q⟩=>by
 unfold vB at q;split at q
 ·rename_i t e;obtain⟨v,d,r⟩:=I.vl i t e;exact⟨v,d,ZL I q (r.mono I.sB)⟩
 ·rename_i ts e;obtain⟨a,xs,d,_,_,f,r,_⟩:=I.ow i ts e;exact⟨.ref a,d,ZL I q (.lst f (r.mono I.sB))⟩
 ·exact q.elim
theorem FP {i j}:Snd X Y (.Constant (.int i) j pos) (cE (.int i)):= .mk λρ=>PE.imp G1 λa H Q ⟨B,I,q⟩=>ZL I q (.int i)
theorem AV {i j}:Snd X Y (.Constant (.bool i) j pos) (cE (.bl i)):= .mk λρ=>PE.imp Ez λa H Q ⟨B,I,q⟩=>ZL I q (.bl i)
theorem Fe {j}:Snd X Y (.Constant .none j pos) (cE .non):= .mk λρ=>PE.imp xP λa H Q ⟨B,I,q⟩=>ZL I q .non
theorem GA {i j}:Snd X Y (.Constant (.str i) j pos) (cE (.str i)):= .mk λρ=>PE.imp xQ λa H Q ⟨B,I,q⟩=>ZL I q (.str i)
def zd:En->R (List T):=λ_=> .ok []
def z9 (f:En->R T)(g:En->R (List T)):En->R (List T):=λρ=>(f ρ).bind λt=>(g ρ).bind λts=> .ok (t :: ts)
theorem GB:ul X Y [] zd:= .mk λρ=>PA.imp zT λa H Q ⟨B,I,q⟩=>ZL I q .nil
theorem xW {d:List Expr}{g:En->R (List T)}(h:Snd X Y a fa)(k:ul X Y d g)(i:starEach (a :: d) X.env=(false,eval a X.env) :: starEach d X.env:=by exact zU rfl):ul X Y (a :: d) (z9 fa g):= .mk λρ=>
 PA.imp (zw (h ρ) (k ρ) i) λw H Q ⟨B,I,q⟩=>step I q λt v u _ D l e o=>step e o λts y x _ j r p f=>ZL p f (.cons (l.mono (zL.ge e.sB j)) r)
theorem zl.new (h:H p=none)(o:HO):zl H (lC H p o):=λb u q=>by rw[zm (zH q h)];exact q
theorem jo (h:H p=none)(o:HO):zL B H (lC H p o) p=some o:=by rw[zV h,zB]
noncomputable def lB:Nat:=16777216
theorem ZP (h:n<=lB):n<=sizeLine:=by exact h
def zQ (g:En->R (List T)):En->R T:=λρ=>(g ρ).bind λts=>if ts.length<=lB then .ok (.tup ts) else .bad
def Z7 (g:En->R (List T)):En->R T:=λρ=>(g ρ).bind λts=>if ts.length<=lB then .ok (.lst ts) else .bad
theorem kr {ρ:En}{a:Sg}{B H:Hp}{xs:List V}{ts:List T}(I:SI Y B ρ a H)(r:zG B xs ts){p:Addr}(h:H p=none):Rep (zL B H (lC H p (.tup xs))) (.ref p) (.tup ts):=
 .tup (jo h _) (r.mono (zL.ge I.sB (zl.new h _)))
theorem ku {ρ:En}{a:Sg}{B H:Hp}{xs:List V}{ts:List T}(I:SI Y B ρ a H)(r:zG B xs ts){p:Addr}(h:H p=none):Rep (zL B H (lC H p (.lst xs))) (.ref p) (.lst ts):=
 .lst (jo h _) (r.mono (zL.ge I.sB (zl.new h _)))
theorem C6 {d:List Expr}{g:En->R (List T)}{x1}(h:ul X Y d g):Snd X Y (.Tuple d x1 pos) (zQ g):= .mk λρ=>PE.imp (Gn (h ρ)) λk H Q ⟨B,I,q⟩=>
 step I q λts l j _ o e i a=>by
  split at a
  ·rename_i f;refine⟨by rw[e.length];exact ZP f,λp hp=>a _ _ (zl.new hp _) (kr i e hp)⟩
  ·exact a.elim
theorem He {d:List Expr}{g:En->R (List T)}(h:ul X Y d g):Snd X Y (.List d pos) (Z7 g):= .mk λρ=>PE.imp (xU (h ρ)) λk H Q ⟨B,I,q⟩=>
 step I q λts l j _ o e i a=>by
  split at a
  ·rename_i f;refine⟨by rw[e.length];exact ZP f,λp hp=>a _ _ (zl.new hp _) (ku i e hp)⟩
  ·exact a.elim
end
end PV
namespace PV
open PySem PySem.Spec PyProof.Rows L2
noncomputable def mh (f:T->T->Option Bool):List T->List T->Option Bool
 | [],[]=>some true
 | [],_ :: _=>some false
 | _ :: _,[]=>some false
 | x :: xs,y :: ys=>match f x y with
  | none=>none
  | some b=>match mh f xs ys with
   | none=>none
   | some c=>some (b && c)
noncomputable def b2 (b:Bool):Int:=if b then 1 else 0
def lw:Nat->T->T->Option Bool
 | _,.non,.non=>some true
 | _,.bl a,.bl b=>some (a == b)
 | _,.bl a,.int j=>some (b2 a == j)
 | _,.int i,.bl b=>some (i == b2 b)
 | _,.int i,.int j=>some (i == j)
 | _,.str x,.str y=>some (x == y)
 | n+1,.tup xs,.tup ys=>mh (lw n) xs ys
 | n+1,.lst xs,.lst ys=>mh (lw n) xs ys
 | n+1,.fz xs,.lst ys=>mh (lw n) xs ys
 | n+1,.lst xs,.fz ys=>mh (lw n) xs ys
 | n+1,.fz xs,.fz ys=>mh (lw n) xs ys
 | 0,.tup _,.tup _=>none
 | 0,.lst _,.lst _=>none
 | 0,.fz _,.lst _=>none
 | 0,.lst _,.fz _=>none
 | 0,.fz _,.fz _=>none
 | _,.non,_=>some false
 | _,.bl _,_=>some false
 | _,.int _,_=>some false
 | _,.str _,_=>some false
 | _,.tup _,_=>some false
 | _,.lst _,_=>some false
 | _,.fz _,_=>some false
mutual
theorem Rep.fn {H:Hp}:∀{v:V} {t t' :T},Rep H v t->Rep H v t' ->t=t'
 | _,_,_,.non,.non=>rfl
 | _,_,_,.bl _,.bl _=>rfl
 | _,_,_,.int _,.int _=>rfl
 | _,_,_,.str _,.str _=>rfl
 | _,_,_,.tup h r,.tup h' a =>by
  rw[h]at h';cases h';rw[zG.fn r a]
 | _,_,_,.tup h r,.lst h' a =>by rw[h]at h';cases h'
 | _,_,_,.tup h r,.fz h' a =>by rw[h]at h';cases h'
 | _,_,_,.lst h r,.tup h' a =>by rw[h]at h';cases h'
 | _,_,_,.lst h r,.lst h' a =>by
  rw[h]at h';cases h';rw[zG.fn r a]
 | _,_,_,.lst h r,.fz h' a =>by rw[h]at h';cases h'
 | _,_,_,.fz h r,.tup h' a =>by rw[h]at h';cases h'
 | _,_,_,.fz h r,.lst h' a =>by rw[h]at h';cases h'
 | _,_,_,.fz h r,.fz h' a =>by
  rw[h]at h';cases h';rw[zG.fn r a]
theorem zG.fn {H:Hp}:∀{v:List V} {t t' :List T},zG H v t->zG H v t' ->t=t'
 | _,_,_,.nil,.nil=>rfl
 | _,_,_,.cons h r,.cons h' a =>by rw[Rep.fn h h',zG.fn r a]
end
theorem Zy {f:T->T->Option Bool}(g:∀x b,f x x=some b->b=true):∀(xs:List T) (b:Bool),mh f xs xs=some b->b=true
 | [],b,h=>by
  have h' :=h;cases h';rfl
 | x :: xs,b,h=>by
  unfold mh at h;cases e:f x x with
  | none=>rw[e]at h;cases h
  | some c=>
   rw[e]at h;cases a :mh f xs xs with
   | none=>rw[a]at h;cases h
   | some d=>
    rw[a]at h;cases h;rw[g x c e,Zy g xs d a];rfl
theorem Zb:∀(n:Nat) (t:T) (b:Bool),lw n t t=some b->b=true
 | n,.non,b,h=>by unfold lw at h;cases h;rfl
 | n,.bl x,b,h=>by unfold lw at h;cases h;simp
 | n,.int x,b,h=>by unfold lw at h;cases h;simp
 | n,.str x,b,h=>by unfold lw at h;cases h;simp
 | 0,.tup x,b,h=>by cases h
 | 0,.lst x,b,h=>by cases h
 | 0,.fz x,b,h=>by cases h
 | n+1,.tup x,b,h=>by exact Zy (Zb n) x b h
 | n+1,.lst x,b,h=>by exact Zy (Zb n) x b h
 | n+1,.fz x,b,h=>by exact Zy (Zb n) x b h
theorem qg {f:T->T->Option Bool}:∀{xs ys:List T} {b:Bool},mh f xs ys=some b->
  ∃e:Nat->Bool,(∀j x y,xs[j]? =some x->ys[j]? =some y->f x y=some (e j))/\((aU (min xs.length ys.length)).all e && xs.length == ys.length)=b
 | [],[],b,h=>by
  have h' :=h;cases h';exact⟨λ_=>true,λj x y h=>by simp at h,by simp⟩
 | [],y :: ys,b,h=>by
  have h' :=h;cases h';exact⟨λ_=>true,λj x y h=>by simp at h,by simp⟩
 | x :: xs,[],b,h=>by
  have h' :=h;cases h';exact⟨λ_=>true,λj x y h h' =>by simp at h',by simp⟩
 | x :: xs,y :: ys,b,h=>by
  unfold mh at h;cases e:f x y with
  | none=>rw[e]at h;cases h
  | some c=>
   rw[e]at h;cases a :mh f xs ys with
   | none=>rw[a]at h;cases h
   | some d=>
    rw[a]at h;cases h;obtain⟨g,l,o⟩:=qg a;refine⟨λj=>match j with | 0=>c | j+1=>g j,λj u v i k=> ?_, ?_⟩
    ·cases j with
     | zero=>simp at i k;subst i k;exact e
     | succ j=>exact l j u v (by simpa using i) (by simpa using k)
    ·have z:min (x :: xs).length (y :: ys).length=min xs.length ys.length+1:=by simp only[ar];omega
     rw[z,cA,b_,iu];have p:((x :: xs).length == (y :: ys).length)=(xs.length == ys.length):=by simp
     rw[p,← o,Bool.and_assoc];rfl
section
theorem j3 (I:L2.Inv X pins σ H s)(h:H a=some (.tup xs))(r:zG H xs ts):∃d:List Value,Z3 xs d/\s.heap.IsTuple a d.toArray/\ts.length=d.length/\xs.length<=sizeLine:=by
 obtain⟨d,e,p,z⟩:=I.tuple (SqT.of h);exact⟨d,e,p,by rw[← r.length];exact e.length,z⟩
theorem zS (I:L2.Inv X pins σ H s)(h:Rd H a (.lst xs))(r:zG H xs ts):∃d:List Value,Z3 xs d/\s.heap.IsList a d.toArray/\ts.length=d.length/\xs.length<=sizeLine:=by
 obtain⟨d,e,p,z⟩:=I.list (.inl h);exact⟨d,e,p.isList,by rw[← r.length];exact e.length,z⟩
end
noncomputable abbrev oa (A:Around)(s:Shared)(u u' :Value)(b:Bool):Prop:=cS A s u u' b/\fO A s u u' b/\dU A s u u' (!b)
section
theorem qh {f:T->T->Option Bool}{e:Nat->Bool}(r:zG H xs ts)(G :zG H ys us)(v:Z3 xs its)(o :Z3 ys its')
  (J:∀(j:Nat) (x y:T),ts[j]? =some x->us[j]? =some y->f x y=some (e j))
  (I:∀(x y:T) (b:Bool) (p q:V) (u w:Value),f x y=some b->Rep H p x->Rep H q y->Z2 p u->Z2 q w->oa A s u w b) (j:Nat) (k:j < its.toArray.size) (l:j < its'.toArray.size):
  cS A s its.toArray[j] its'.toArray[j] (e j):=by
 have P:=v.length;have Q:=o.length;have k1:j < xs.length:=by simp at k;omega
 have k2:j < ys.length:=by simp at l;omega
 obtain⟨t,D,rt⟩:=r.getV (ak k1);obtain⟨t',i,a⟩:=G.getV (ak k2);obtain⟨u,K,O⟩:=v.get (ak k1);obtain⟨N,g,d⟩:=o.get (ak k2);have M:=by
  have:its[j]? =some its.toArray[j]:=by simp at k ⊢
  rw[K]at this;exact(aI this).symm
 have B:=by
  have:its'[j]? =some its'.toArray[j]:=by simp at l ⊢
  rw[g]at this;exact(aI this).symm
 rw[M,B];exact(I t t' _ _ _ u N (J j t t' D i) rt a O d).1
theorem kv {A:Around}{a c:Addr}{xs ys:List V}{ts J:List T}{b:Bool}{f:T->T->Option Bool}(I:L2.Inv X pins σ H s)(B:A.units < cLine)(D:H a=some (.tup xs))(j:H c=some (.tup ys))(r:zG H xs ts)(k :zG H ys J)
  (K:mh f ts J=some b) (hr:∀x b,f x x=some b->b=true)
  (O:∀(x y:T) (b:Bool) (p q:V) (u w:Value),f x y=some b->Rep H p x->Rep H q y->Z2 p u->Z2 q w->oa A.in1 s u w b):oa A s (.ref a) (.ref c) b:=by
 obtain⟨i,v,p,l,_⟩:=j3 I D r;obtain⟨d,M,G,Q,_⟩:=j3 I j k;obtain⟨e,P,o⟩:=qg K;have hp:=qh r k v M P O;have z:((aU (min i.toArray.size d.toArray.size)).all e && i.toArray.size == d.toArray.size)=b:=by
  rw[← o];simp[l,Q]
 have R:=fO.tuples p G B hp;have N:=dU.tuples p G B hp;rw[z]at R;have N' :dU A s (.ref a) (.ref c) (!b):=by
  rw[← z];exact N
 refine⟨?_,R,N'⟩
 by_cases g:a=c
 ·subst g;rw[D]at j;cases j;have:=r.fn k;subst this;rw[Zy hr ts b K];exact iZ _
 ·exact ie g R
theorem Wt {A:Around}{a c:Addr}{xs ys:List V}{ts G:List T}{b:Bool}{f:T->T->Option Bool}(I:L2.Inv X pins σ H s)(M:A.units < cLine)(B:Rd H a (.lst xs))(i:Rd H c (.lst ys))(r:zG H xs ts)(Q :zG H ys G)
  (U:mh f ts G=some b) (hr:∀x b,f x x=some b->b=true)
  (ih:∀(x y:T) (b:Bool) (p q:V) (u w:Value),f x y=some b->Rep H p x->Rep H q y->Z2 p u->Z2 q w->oa A.in1 s u w b):oa A s (.ref a) (.ref c) b:=by
 obtain⟨d,v,p,l,_⟩:=zS I B r;obtain⟨g,Z,O,l',_⟩:=zS I i Q;obtain⟨e,he,D⟩:=qg U;have hp:=qh r Q v Z he ih;have S:fO A s (.ref a) (.ref c) b/\dU A s (.ref a) (.ref c) (!b):=by
  by_cases K:d.toArray.size=g.toArray.size
  ·have z:(aU d.toArray.size).all e=b:=by
    rw[← D];have:ts.length=G.length:=by simp at K;omega
    rw[this];have k:d.toArray.size=G.length:=by simp;omega
    rw[k];simp
   have R:=fO.lists p O K M hp;have N:=dU.lists p O K M hp;rw[z]at R;refine⟨R, ?_⟩;rw[← z];exact N
  ·have J :(d.toArray.size != g.toArray.size)=true:=by simpa using K
   have z:b=false:=by
    rw[← D];have:¬ ts.length=G.length:=by simp at K;omega
    simp[this]
   subst z;exact⟨fO.lists_lengths p O J M,dU.lists_lengths p O J M⟩
 refine⟨?_,S.1,S.2⟩
 by_cases j:a=c
 ·subst j;have P:xs=ys:=by
   rcases B with B | ⟨o,B⟩ <;> rcases i with i | ⟨o',i⟩ <;> (rw[B]at i;cases i) <;> rfl
  subst P;have:=r.fn Q;subst this;rw[Zy hr ts b U];exact iZ _
 ·exact ie j S.1
end
section
variable {X:Cx}{pins:List (Addr×Obj)}{σ:Sg}{H:Hp}{s:Shared}
theorem J8 {A:Around}:A.in1.units=A.units+1:=rfl
set_option maxHeartbeats 2000000 in
theorem qi (I:L2.Inv X pins σ H s):∀(A:Around),A.units < cLine->∀(x y:T) (b:Bool) (p q:V) (u w:Value),lw 0 x y=some b->Rep H p x->Rep H q y->Z2 p u->Z2 q w->oa A s u w b:=by
 intro A D x y b p q u w h G k l e;have a :=D;cases G with
 | non=>
  obtain rfl:u=Value.none:=l;cases k with
  | non=>obtain rfl:w=Value.none:=e;unfold lw at h;cases h;exact⟨.same _,.none_none,.none_none⟩
  | bl c=>obtain rfl:w=Value.bool c:=e;unfold lw at h;cases h;exact⟨.none_bool _,.none_bool _,.none_bool _⟩
  | int c=>obtain⟨t,rfl⟩:=e;unfold lw at h;cases h;exact⟨.none_int _ _,.none_int _ _,.none_int _ _⟩
  | str c=>obtain⟨t,rfl⟩:=e;unfold lw at h;cases h;exact⟨.none_str _ _,.none_str _ _,.none_str _ _⟩
  | tup g j=>obtain rfl:w=Value.ref _:=e;unfold lw at h;cases h;obtain⟨i,_,p,_⟩:=j3 I g j;exact⟨.none_tuple p a,.none_tuple p a,.none_tuple p a⟩
  | lst g j=>obtain rfl:w=Value.ref _:=e;unfold lw at h;cases h;obtain⟨i,_,p,_⟩:=zS I (.inl g) j;exact⟨.none_list p a,.none_list p a,.none_list p a⟩
  | fz g j=>obtain rfl:w=Value.ref _:=e;unfold lw at h;cases h;obtain⟨i,_,p,_⟩:=zS I (.inr ⟨_,g⟩) j;exact⟨.none_list p a,.none_list p a,.none_list p a⟩
 | bl d=>
  obtain rfl:u=Value.bool d:=l;cases k with
  | non=>obtain rfl:w=Value.none:=e;unfold lw at h;cases h;exact⟨.bool_none _,.bool_none _,.bool_none _⟩
  | bl c=>obtain rfl:w=Value.bool c:=e;unfold lw at h;cases h;exact⟨.bool_bool _ _,.bool_bool _ _,.bool_bool _ _⟩
  | int c=>obtain⟨t,rfl⟩:=e;unfold lw at h;cases h;exact⟨.bool_int _ _ _,.bool_int _ _ _,.bool_int _ _ _⟩
  | str c=>obtain⟨t,rfl⟩:=e;unfold lw at h;cases h;exact⟨.bool_str _ _ _,.bool_str _ _ _,.bool_str _ _ _⟩
  | tup g j=>obtain rfl:w=Value.ref _:=e;unfold lw at h;cases h;obtain⟨i,_,p,_⟩:=j3 I g j;exact⟨.bool_tuple _ p a,.bool_tuple _ p a,.bool_tuple _ p a⟩
  | lst g j=>obtain rfl:w=Value.ref _:=e;unfold lw at h;cases h;obtain⟨i,_,p,_⟩:=zS I (.inl g) j;exact⟨.bool_list _ p a,.bool_list _ p a,.bool_list _ p a⟩
  | fz g j=>obtain rfl:w=Value.ref _:=e;unfold lw at h;cases h;obtain⟨i,_,p,_⟩:=zS I (.inr ⟨_,g⟩) j;exact⟨.bool_list _ p a,.bool_list _ p a,.bool_list _ p a⟩
 | int d=>
  obtain⟨B,rfl⟩:=l;cases k with
  | non=>obtain rfl:w=Value.none:=e;unfold lw at h;cases h;exact⟨.int_none _ _,.int_none _ _,.int_none _ _⟩
  | bl c=>obtain rfl:w=Value.bool c:=e;unfold lw at h;cases h;exact⟨.int_bool _ _ _,.int_bool _ _ _,.int_bool _ _ _⟩
  | int c=>obtain⟨t,rfl⟩:=e;unfold lw at h;cases h;exact⟨.int_int _ _ _ _,.int_int _ _ _ _,.int_int _ _ _ _⟩
  | str c=>obtain⟨t,rfl⟩:=e;unfold lw at h;cases h;exact⟨.int_str _ _ _ _,.int_str _ _ _ _,.int_str _ _ _ _⟩
  | tup g j=>obtain rfl:w=Value.ref _:=e;unfold lw at h;cases h;obtain⟨i,_,p,_⟩:=j3 I g j;exact⟨.int_tuple _ _ p a,.int_tuple _ _ p a,.int_tuple _ _ p a⟩
  | lst g j=>obtain rfl:w=Value.ref _:=e;unfold lw at h;cases h;obtain⟨i,_,p,_⟩:=zS I (.inl g) j;exact⟨.int_list _ _ p a,.int_list _ _ p a,.int_list _ _ p a⟩
  | fz g j=>obtain rfl:w=Value.ref _:=e;unfold lw at h;cases h;obtain⟨i,_,p,_⟩:=zS I (.inr ⟨_,g⟩) j;exact⟨.int_list _ _ p a,.int_list _ _ p a,.int_list _ _ p a⟩
 | str d=>
  obtain⟨B,rfl⟩:=l;cases k with
  | non=>obtain rfl:w=Value.none:=e;unfold lw at h;cases h;exact⟨.str_none _ _,.str_none _ _,.str_none _ _⟩
  | bl c=>obtain rfl:w=Value.bool c:=e;unfold lw at h;cases h;exact⟨.str_bool _ _ _,.str_bool _ _ _,.str_bool _ _ _⟩
  | int c=>obtain⟨t,rfl⟩:=e;unfold lw at h;cases h;exact⟨.str_int _ _ _ _,.str_int _ _ _ _,.str_int _ _ _ _⟩
  | str c=>obtain⟨t,rfl⟩:=e;unfold lw at h;cases h;exact⟨.str_str _ _ _ _,.str_str _ _ _ _,.str_str _ _ _ _⟩
  | tup g j=>obtain rfl:w=Value.ref _:=e;unfold lw at h;cases h;obtain⟨i,_,p,_⟩:=j3 I g j;exact⟨.str_tuple _ _ p a,.str_tuple _ _ p a,.str_tuple _ _ p a⟩
  | lst g j=>obtain rfl:w=Value.ref _:=e;unfold lw at h;cases h;obtain⟨i,_,p,_⟩:=zS I (.inl g) j;exact⟨.str_list _ _ p a,.str_list _ _ p a,.str_list _ _ p a⟩
  | fz g j=>obtain rfl:w=Value.ref _:=e;unfold lw at h;cases h;obtain⟨i,_,p,_⟩:=zS I (.inr ⟨_,g⟩) j;exact⟨.str_list _ _ p a,.str_list _ _ p a,.str_list _ _ p a⟩
 | tup r o=>
  obtain rfl:u=Value.ref _:=l;obtain⟨v,_,f,_⟩:=j3 I r o;cases k with
  | non=>obtain rfl:w=Value.none:=e;unfold lw at h;cases h;exact⟨.tuple_none f a,.tuple_none f a,.tuple_none f a⟩
  | bl c=>obtain rfl:w=Value.bool c:=e;unfold lw at h;cases h;exact⟨.tuple_bool _ f a,.tuple_bool _ f a,.tuple_bool _ f a⟩
  | int c=>obtain⟨t,rfl⟩:=e;unfold lw at h;cases h;exact⟨.tuple_int _ _ f a,.tuple_int _ _ f a,.tuple_int _ _ f a⟩
  | str c=>obtain⟨t,rfl⟩:=e;unfold lw at h;cases h;exact⟨.tuple_str _ _ f a,.tuple_str _ _ f a,.tuple_str _ _ f a⟩
  | tup g j=>unfold lw at h;cases h
  | lst g j=>obtain rfl:w=Value.ref _:=e;unfold lw at h;cases h;obtain⟨i,_,p,_⟩:=zS I (.inl g) j;exact⟨.tuple_list f p a,.tuple_list f p a,.tuple_list f p a⟩
  | fz g j=>obtain rfl:w=Value.ref _:=e;unfold lw at h;cases h;obtain⟨i,_,p,_⟩:=zS I (.inr ⟨_,g⟩) j;exact⟨.tuple_list f p a,.tuple_list f p a,.tuple_list f p a⟩
 | lst r o=>
  obtain rfl:u=Value.ref _:=l;obtain⟨v,_,f,_⟩:=zS I (.inl r) o;cases k with
  | non=>obtain rfl:w=Value.none:=e;unfold lw at h;cases h;exact⟨.list_none f a,.list_none f a,.list_none f a⟩
  | bl c=>obtain rfl:w=Value.bool c:=e;unfold lw at h;cases h;exact⟨.list_bool _ f a,.list_bool _ f a,.list_bool _ f a⟩
  | int c=>obtain⟨t,rfl⟩:=e;unfold lw at h;cases h;exact⟨.list_int _ _ f a,.list_int _ _ f a,.list_int _ _ f a⟩
  | str c=>obtain⟨t,rfl⟩:=e;unfold lw at h;cases h;exact⟨.list_str _ _ f a,.list_str _ _ f a,.list_str _ _ f a⟩
  | tup g j=>obtain rfl:w=Value.ref _:=e;unfold lw at h;cases h;obtain⟨i,_,p,_⟩:=j3 I g j;exact⟨.list_tuple f p a,.list_tuple f p a,.list_tuple f p a⟩
  | lst g j=>unfold lw at h;cases h
  | fz g j=>unfold lw at h;cases h
 | fz r o=>
  obtain rfl:u=Value.ref _:=l;obtain⟨v,_,f,_⟩:=zS I (.inr ⟨_,r⟩) o;cases k with
  | non=>obtain rfl:w=Value.none:=e;unfold lw at h;cases h;exact⟨.list_none f a,.list_none f a,.list_none f a⟩
  | bl c=>obtain rfl:w=Value.bool c:=e;unfold lw at h;cases h;exact⟨.list_bool _ f a,.list_bool _ f a,.list_bool _ f a⟩
  | int c=>obtain⟨t,rfl⟩:=e;unfold lw at h;cases h;exact⟨.list_int _ _ f a,.list_int _ _ f a,.list_int _ _ f a⟩
  | str c=>obtain⟨t,rfl⟩:=e;unfold lw at h;cases h;exact⟨.list_str _ _ f a,.list_str _ _ f a,.list_str _ _ f a⟩
  | tup g j=>obtain rfl:w=Value.ref _:=e;unfold lw at h;cases h;obtain⟨i,_,p,_⟩:=j3 I g j;exact⟨.list_tuple f p a,.list_tuple f p a,.list_tuple f p a⟩
  | lst g j=>unfold lw at h;cases h
  | fz g j=>unfold lw at h;cases h
set_option maxHeartbeats 2000000 in
theorem qj (I:L2.Inv X pins σ H s):∀(n:Nat) (A:Around),A.units+n < cLine->∀(x y:T) (b:Bool) (p q:V) (u w:Value),lw n x y=some b->Rep H p x->Rep H q y->Z2 p u->Z2 q w->oa A s u w b:=by
 intro n
 induction n with
 | zero=>exact λA v x y b p q u w h=>qi I A (by omega) x y b p q u w h
 | succ n B=>
  intro A v x y b p q u w h r o l a;have g:=λh=>qi I A (by omega) x y b p q u w h r o l a
  have e :A.units < cLine:=by omega
  have d :=B A.in1 (by rw[J8];omega)
  cases r with
  | tup k j=>
   cases o with
   | tup f i=>
    obtain rfl:u=Value.ref _:=l;obtain rfl:w=Value.ref _:=a;exact kv I e k f j i h (Zb n) d
   | _=>exact g (by exact h)
  | lst k j=>
   cases o with
   | lst f i=>
    obtain rfl:u=Value.ref _:=l;obtain rfl:w=Value.ref _:=a;exact Wt I e (.inl k) (.inl f) j i h (Zb n) d
   | fz f i=>
    obtain rfl:u=Value.ref _:=l;obtain rfl:w=Value.ref _:=a;exact Wt I e (.inl k) (.inr ⟨_,f⟩) j i h (Zb n) d
   | _=>exact g (by exact h)
  | fz k j=>
   cases o with
   | lst f i=>
    obtain rfl:u=Value.ref _:=l;obtain rfl:w=Value.ref _:=a;exact Wt I e (.inr ⟨_,k⟩) (.inl f) j i h (Zb n) d
   | fz f i=>
    obtain rfl:u=Value.ref _:=l;obtain rfl:w=Value.ref _:=a;exact Wt I e (.inr ⟨_,k⟩) (.inr ⟨_,f⟩) j i h (Zb n) d
   | _=>exact g (by exact h)
  | _=>exact g (by cases o <;> (exact h))
end
section
def rG (Y:Fx)(g:T->T->R T):R2:=λx y H Q=>∃B t t',zl B H/\Rep B x t/\Rep B y t' /\Po Y rC B H (g t t') Q
def zc (g:T->T->R T)(d a:En->R T):En->R T:=λρ=>(d ρ).bind λx=>(a ρ).bind λy=>g x y
theorem qk (k:lH X (binaryOp op) (rG Y g))(j:Snd X Y a fa)(f:Snd X Y b fb):Snd X Y (.BinOp a op b pos) (zc g fa fb):= .mk λρ=>
 PE.imp (D9 k (j ρ) (f ρ)) λw H Q ⟨B,I,q⟩=>step I q λt v u _ D l d o=>step d o λt' y x _ i r p e=>
  ⟨_,t,t',p.sB,l.mono (zL.ge d.sB i),r,e⟩
theorem lU (a:zl B H)(q:Po Y rC B H g Q)(e:g= .ok t)(r:Rep B v t):Q v H:=by
 subst e;exact q v H (zl.refl H) (by rw[zL.self B H a];exact r)
theorem GC (a:zl B H)(q:Po Y rC B H g Q)(e:g= .ok (.tup ts))(r:zG B xs ts)(h:H p=none):Q (.ref p) (lC H p (.tup xs)):=by
 subst e;exact q _ _ (zl.new h _) (.tup (jo h _) (r.mono (zL.ge a (zl.new h _))))
theorem AN (a:zl B H)(q:Po Y rC B H g Q)(e:g= .ok (.lst ts))(r:zG B xs ts)(h:H p=none):Q (.ref p) (lC H p (.lst xs)):=by
 subst e;exact q _ _ (zl.new h _) (.lst (jo h _) (r.mono (zL.ge a (zl.new h _))))
def zn:T->T->R T
 | .int i,.int j=> .ok (.int (i+j))
 | .bl x,.int j=> .ok (.int (b2 x+j))
 | .int i,.bl y=> .ok (.int (i+b2 y))
 | .str x,.str y=>if x.length+y.length<=lB then .ok (.str (x++y)) else .bad
 | .tup xs,.tup ys=>if xs.length+ys.length<=lB then .ok (.tup (xs++ys)) else .bad
 | .lst xs,.lst ys=>if xs.length+ys.length<=lB then .ok (.lst (xs++ys)) else .bad
 | _,_=> .bad
theorem Vn {prog:Program}{w:World}{A:Around}{E:Value->Shared->Prop}{s:Shared}{t b:Addr}{k x:List Value}{Q:Value->Shared->Prop}(o:IsTup s.heap t k.toArray)(p:IsTup s.heap b x.toArray)(v:k=[])
  (q:Q (.ref b) s):wpAny (model prog w) A (binaryOp .Add (.ref t) (.ref b)) Q E s:=by
 obtain⟨⟨cls,dd,data,r⟩,i,u,n,hd⟩:=id o;obtain⟨⟨j,g,data2,d⟩,a,f,l,e⟩:=id p;subst u hd f e;exact concat_meets ⟨_,i,rfl⟩ ⟨_,a,rfl⟩ noFill_tuple_add seq_tuple_add dQ dM (dF _ _)
   (tuple_addW0 t b _ _ n l dd g r d (by simp[v])) ⟨i,a,q⟩
theorem kx:lH X (binaryOp .Add) (rG Y zn):=by
 intro e s K H x y v u Q I g o h;obtain⟨B,t,t',d,r,D,q⟩:=h;cases r with
 | int i=>
  cases D with
  | int j=>exact Ge e s K H _ _ v u Q I g o ⟨i,j,rfl,rfl,lU d q rfl (.int _)⟩
  | bl y=>exact YQ e s K H _ _ v u Q I g o ⟨i,y,rfl,rfl,lU d q rfl (.int _)⟩
  | _=>exact q.elim
 | bl x=>
  cases D with
  | int j=>
   obtain rfl:v=Value.bool x:=g;obtain⟨tk,rfl⟩:=o;exact IntBool.add_bool_int (⟨.int _,H,I.tok _,⟨_,rfl⟩,lU d q rfl (.int _)⟩)
  | _=>exact q.elim
 | str x=>
  cases D with
  | str y=>
   by_cases f:x.length+y.length<=lB
   ·exact yV e s K H _ _ v u Q I g o ⟨x,y,rfl,rfl,ZP f,lU d q (if_pos f) (.str _)⟩
   ·rw[show zn (.str x) (.str y)= .bad from if_neg f]at q;exact q.elim
  | _=>exact q.elim
 | @tup a xs ts G l=>
  cases D with
  | @tup J ys k M w=>
   by_cases f:ts.length+k.length<=lB
   ·have N:zn (.tup ts) (.tup k)= .ok _:=if_pos f;have O:xs.length+ys.length<=sizeLine:=by rw[l.length,w.length];exact ZP f
    by_cases P:xs=[]
    ·obtain rfl:v=Value.ref a:=g;obtain rfl:u=Value.ref J :=o;obtain⟨its,Z,p,_⟩:=I.tuple (SqT.of (d _ _ G));obtain⟨S,U,p',_⟩:=I.tuple (SqT.of (d _ _ M));have et:=l.nil_iff.mp P;refine Vn p p' (Z.nil_iff.mpr P) ⟨.ref J,H,I,rfl,lU d q N ?_⟩;rw[et];exact .tup M w
    ·refine ke _ s K H _ _ v u Q I g o ⟨a,J,xs,ys,rfl,rfl,SqT.of (d _ _ G),SqT.of (d _ _ M),P,O,λhy=> ?_,λhy p hp=> ?_⟩
     ·refine lU d q N ?_;rw[w.nil_iff.mp hy,bo];exact .tup G l
     ·exact GC d q N (l.append w) hp
   ·rw[show zn (.tup ts) (.tup k)= .bad from if_neg f]at q;exact q.elim
  | _=>exact q.elim
 | @lst a xs ts G l=>
  cases D with
  | @lst J ys k M w=>
   by_cases f:ts.length+k.length<=lB
   ·have N:zn (.lst ts) (.lst k)= .ok _:=if_pos f;have O:xs.length+ys.length<=sizeLine:=by rw[l.length,w.length];exact ZP f
    exact Gv _ s K H _ _ v u Q I g o ⟨a,J,xs,ys,rfl,rfl,d _ _ G,d _ _ M,O,λp hp=>AN d q N (l.append w) hp⟩
   ·rw[show zn (.lst ts) (.lst k)= .bad from if_neg f]at q;exact q.elim
  | _=>exact q.elim
 | _=>cases D <;> exact q.elim
theorem CM (d:Snd X Y a fa)(e:Snd X Y b fb):Snd X Y (.BinOp a .Add b pos) (zc zn fa fb):=qk kx d e
noncomputable def jg:T->T->R T
 | .int i,.int j=> .ok (.int (i - j))
 | _,_=> .bad
noncomputable def jH:T->T->R T
 | .int i,.int j=>if 0 < j then .ok (.int (i % j)) else .bad
 | _,_=> .bad
noncomputable def Wu:T->T->R T
 | .int i,.int j=>if 0 < j/\j < 1073741824 then .ok (.int (i / j)) else .bad
 | _,_=> .bad
instance (i j:Int):Decidable (Ug i j):=by unfold Ug;infer_instance
def zY:T->T->R T
 | .int i,.int j=>if Ug i j then .ok (.int (i*j)) else .bad
 | .lst xs,.int k=>if 0<=k/\k < 1000000/\xs.length*k.toNat<=lB then .ok (.lst (ai k.toNat xs).flatten) else .bad
 | .tup xs,.int k=>if 2<=k/\k < 1000000/\xs ≠ []/\xs.length*k.toNat<=lB then .ok (.tup (ai k.toNat xs).flatten) else .bad
 | _,_=> .bad
theorem ky:lH X (binaryOp .Sub) (rG Y jg):=by
 intro d s f H x y v u Q I e k h;obtain⟨B,t,t',g,r,a,q⟩:=h;cases r with
 | int i=>
  cases a with
  | int j=>exact Gf _ s f H _ _ v u Q I e k ⟨i,j,rfl,rfl,lU g q rfl (.int _)⟩
  | _=>exact q.elim
 | _=>cases a <;> exact q.elim
theorem kz:lH X (binaryOp .Mod) (rG Y jH):=by
 intro e s g H x y v u Q I f l h;obtain⟨B,t,t',k,r,d,q⟩:=h;cases r with
 | int i=>
  cases d with
  | int j=>
   by_cases a:0 < j
   ·exact Gh _ s g H _ _ v u Q I f l ⟨i,j,rfl,rfl,a,lU k q (if_pos a) (.int _)⟩
   ·rw[show jH (.int i) (.int j)= .bad from if_neg a]at q;exact q.elim
  | _=>exact q.elim
 | _=>cases d <;> exact q.elim
theorem Vo:lH X (binaryOp .FloorDiv) (rG Y Wu):=by
 intro e s g H x y v u Q I f l h;obtain⟨B,t,t',k,r,d,q⟩:=h;cases r with
 | int i=>
  cases d with
  | int j=>
   by_cases a:0 < j/\j < 1073741824
   ·exact k7 _ s g H _ _ v u Q I f l ⟨i,j,rfl,rfl,a,lU k q (if_pos a) (.int _)⟩
   ·rw[show Wu (.int i) (.int j)= .bad from if_neg a]at q;exact q.elim
  | _=>exact q.elim
 | _=>cases d <;> exact q.elim
theorem Y2 (l:Addr)(items:Array Value)(n:Nat)(dd:Option Addr)(p:Array (Option Value))(x:Int)(u:Tok)(B:2<=x)(D:x < 1000000)(f:items.isEmpty=false)(hsz:items.size*x.toNat<=sizeLine):
  Meets (Builtin.«tuple.__mul__» ⟨[.ref l,.int x u],[]⟩) (λ_ R s=>s.heap.get? l=some { cls:= .type "tuple",dict:=dd,data:= .seq items n,slots:=p }/\
   R (.ok (.ret (Value.ref s.heap.objs.size))) { s with heap:=s.heap.push { cls:=Value.type "tuple",data:=Data.seq (eU (λa e=>a++e) #[] (ai x.toNat items)) },toks:=s.toks }):=
 .of_wp λprog w A R s h=>by
  obtain⟨i,h⟩:=h;have g:(items.size:Int)*x=((items.size*x.toNat:Nat):Int):=by
   have:x=((x.toNat:Nat):Int):=by omega
   rw[i_,← this]
  have o:(sizeLine:Nat)=16777216:=cO;have k:¬ (decide (x < -(2 ^ 63)) || decide (x ≥ 2 ^ 63))=true:=by simp;omega
  have r:¬ (items.isEmpty || x == 1)=true:=by simp[f];omega
  have v:¬ (decide (x<=0) || items.isEmpty)=true:=by simp[f];omega
  have y:¬ ((items.size:Int)*x > (2 ^ 63 - 1) / 8):=by rw[g];omega
  have j:¬ eV ((items.size:Int)*x)=true:=by
   unfold eV;rw[g];intro z;have:=of_decide_eq_true z;omega
  unfold Builtin.«tuple.__mul__»
  wp_walk using wpAny_loadPart' i
  rw[if_neg k]
  wp_walk using wpAny_loadPart' i
  rw[if_neg r]
  try dsimp only
  rw[if_neg v]
  try dsimp only
  rw[if_neg y]
  try dsimp only
  rw[if_neg j]
  try dsimp only
  have d :sizeOk (.seq (eU (λa e=>a++e) #[] (ai x.toNat items))):=by
   show (eU (λa e=>a++e) #[] _).size<=sizeLine;have:=J6 items.toList x.toNat [];have q:=by
    simpa using this
   rw[q,aD,Jk,dz];exact hsz
  exact aa (bx (aw ⟨_,rfl,h⟩) d)
theorem uD:seqRepeat? (.type "tuple")=pure (some (.builtin "tuple.__mul__")):=by
 unfold seqRepeat?;rw[iL (name:="__mul__") fw.lookup (by decide+kernel),iL (name:="__rmul__") iw.lookup (by decide+kernel)]
 rfl
theorem JG:fillsNumberSlot (.type "tuple") "mul"=pure false:=
 PySem.fillsNumberSlot_seq fw.lookup (by decide+kernel) iw.lookup (by decide+kernel)
theorem wP (a:Int)(t:Tok)(l:Addr)(items:Array Value)(n:Nat)(dd:Option Addr)(d:Array (Option Value)):
  Meets (Builtin.«int.__rmul__» ⟨[.int a t,.ref l],[]⟩) (λ_ R s=>s.heap.get? l=some { cls:= .type "tuple",dict:=dd,data:= .seq items n,slots:=d }/\R (.ok (.ret Value.notImplemented)) s):=
 .of_wp λprog w A R s h=>by obtain⟨e,h⟩:=h;wp_walk;exact⟨_,rfl,h⟩
theorem kA {t:Tok}(p:IsTup s.heap l its.toArray)(d:its ≠ [])(f:2<=k)(i:k < 1000000)
  (hsz:its.length*k.toNat<=sizeLine) (q:Q (.ref s.heap.objs.size) { s with heap:=s.heap.push { cls:= .type "tuple",data:= .seq (ai k.toNat its).flatten.toArray } }):
  wpAny (model prog w) A (binaryOp .Mult (.ref l) (.int k t)) Q E s:=by
 obtain⟨⟨cls,dd,data,e⟩,a,g,n,hd⟩:=id p;subst g hd;refine wpAny_binaryOp_repeat_ref (by decide) ⟨_,a,rfl⟩ (λj =>typeIs_int j k t) JG iY eK uD iJ.lookup
  (dL eK (typeIs_int s k t) iK (ir _ _) (wP k t l _ n dd e)
   ⟨a,rfl,⟨_,a,rfl⟩,dL fw ⟨_,a,rfl⟩ F.entry_tuple_mul (F.args_tuple_mul_2 _ _) (Y2 l _ n dd e k t f i (by simpa using d) (by simpa using hsz)) ⟨a, ?_⟩⟩)
 have:=J6 its k.toNat [];rw[this];exact q
theorem kB:lH X (binaryOp .Mult) (rG Y zY):=by
 intro S s P H x y v u Q I w N h;obtain⟨B,t,t',f,r,o,q⟩:=h;cases r with
 | int i=>
  cases o with
  | int j=>
   by_cases M:Ug i j
   ·exact Gg _ s P H _ _ v u Q I w N ⟨i,j,rfl,rfl,M,lU f q (if_pos M) (.int _)⟩
   ·rw[show zY (.int i) (.int j)= .bad from if_neg M]at q;exact q.elim
  | _=>exact q.elim
 | @lst l xs ts D d=>
  cases o with
  | int k=>
   by_cases a:0<=k/\k < 1000000/\ts.length*k.toNat<=lB
   ·have G:zY (.lst ts) (.int k)= .ok _:=if_pos a;exact Gw _ s P H _ _ v u Q I w N ⟨l,k,xs,rfl,rfl,f _ _ D,by omega,by omega,by rw[d.length];exact ZP a.2.2,λp hp=>AN f q G (d.rep _) hp⟩
   ·rw[show zY (.lst ts) (.int k)= .bad from if_neg a]at q;exact q.elim
  | _=>exact q.elim
 | @tup l xs ts D d=>
  cases o with
  | int k=>
   by_cases a:2<=k/\k < 1000000/\ts ≠ []/\ts.length*k.toNat<=lB
   ·have G:zY (.tup ts) (.int k)= .ok _:=if_pos a;obtain rfl:v=Value.ref l:=w;obtain⟨tk,rfl⟩:=N;obtain⟨g,O,p,_⟩:=I.tuple (SqT.of (f _ _ D));have J:=d.length.symm.trans O.length;have K:g ≠ []:=λz=>a.2.2.1 (by rw[z]at J;exact fA.mp J)
    refine kA p K a.1 a.2.1 (by rw[← J];exact ZP a.2.2.2) ⟨.ref _,lC H _ (.tup (ai k.toNat xs).flatten),I.laid (λb u e=>af _ e) (ao _) ?_,rfl, ?_⟩
    ·exact⟨by rw[Jk,d.length,dz];exact ZP a.2.2.2,(ai _ g).flatten,O.rep _,⟨_,am _ rfl,rfl,_,rfl⟩,.inr ⟨_,am _ rfl,rfl⟩⟩
    ·exact GC f q G (d.rep _) (I.hok.fresh (ao _))
   ·rw[show zY (.tup ts) (.int k)= .bad from if_neg a]at q;exact q.elim
  | _=>exact q.elim
 | _=>cases o <;> exact q.elim
theorem Ev (d:Snd X Y a fa)(e:Snd X Y b fb):Snd X Y (.BinOp a .Sub b pos) (zc jg fa fb):=qk ky d e
theorem FN (d:Snd X Y a fa)(e:Snd X Y b fb):Snd X Y (.BinOp a .Mod b pos) (zc jH fa fb):=qk kz d e
theorem GD (d:Snd X Y a fa)(e:Snd X Y b fb):Snd X Y (.BinOp a .FloorDiv b pos) (zc Wu fa fb):=qk Vo d e
theorem Dj (d:Snd X Y a fa)(e:Snd X Y b fb):Snd X Y (.BinOp a .Mult b pos) (zc zY fa fb):=qk kB d e
def Wv (a:En->R T):En->R T:=λρ=>(a ρ).bind λx=>match x with
 | .int i=> .ok (.int (-i))
 | _=> .bad
theorem F2 (e:Snd X Y a fa):Snd X Y (.UnaryOp .USub a pos) (Wv fa):= .mk λρ=>PE.imp (ER Gi (e ρ)) λk H Q ⟨B,I,q⟩=>step I q λt v j _ l g f d=>by
 cases g with
 | int i=>exact⟨i,rfl,lU f.sB d rfl (.int _)⟩
 | _=>exact d.elim
def W1 (g:T->T->R Bool):R2:=λx y H Q=>∃t t' b,Rep H x t/\Rep H y t' /\g t t' = .ok b/\Q (.bl b) H
def ZQ (g:T->T->R Bool)(d a:En->R T):En->R T:=λρ=>(d ρ).bind λx=>(a ρ).bind λy=>(g x y).bind λb=> .ok (.bl b)
def zk (g:T->T->R Bool)(d a:En->R T):En->R Bool:=λρ=>(d ρ).bind λx=>(a ρ).bind λy=>g x y
noncomputable def Nx (g:T->T->R Bool):Prop:=∀t t' c,g t t' ≠ .ex c
theorem qm (nx:Nx g)(k:lH X (compareOp op) (W1 g))(j:jn X Y a fa)(f:jn X Y b fb)(w:behindInMarks op b=false):Snd X Y (.Compare a [op] [b] pos) (ZQ g fa fb):= .mk λρ=>
 PE.imp (k8 k (j ρ) (f ρ) w) λy H Q ⟨B,I,q⟩=>step I q λt v x _ J o l p=>step l p λt' G D _ i u r d=>by
  cases e:g t t' with
  | bad=>rw[e]at d;exact d.elim
  | ex c=>exact absurd e (nx _ _ _)
  | ok b=>rw[e]at d;exact⟨t,t',b,o.mono i,u,e,ZL r d (.bl b)⟩
theorem Ul (nx:Nx g)(k:lH X (compareOp op) (W1 g))(j:jn X Y a fa)(f:jn X Y b fb)(w:behindInMarks op b=false):uk X Y (.Compare a [op] [b] pos) (zk g fa fb):= .mk λρ=>
 PT.imp (YR k (j ρ) (f ρ) w) λy H Q ⟨B,I,q⟩=>step I q λt v x _ J o l p=>step l p λt' G D _ i u r d=>by
  cases e:g t t' with
  | bad=>rw[e]at d;exact d.elim
  | ex c=>exact absurd e (nx _ _ _)
  | ok b=>rw[e]at d;exact⟨t,t',b,o.mono i,u,e,b,rfl,ZL r d rfl⟩
def ll (t t' :T):R Bool:=match lw 30 t t' with
 | some b=> .ok b
 | none=> .bad
def lJ (t t' :T):R Bool:=match lw 30 t t' with
 | some b=> .ok (!b)
 | none=> .bad
theorem GE:Nx ll:=λt t' c h=>by unfold ll at h;split at h <;> cases h
theorem GF:Nx lJ:=λt t' c h=>by unfold lJ at h;split at h <;> cases h
theorem xX (l:X.A.units+64 < cLine):lH X (compareOp .Eq) (W1 ll):=by
 intro a s o H x y v u Q I d j h;obtain⟨t,t',b,r,i,e,q⟩:=h;unfold ll at e;split at e
 ·rename_i k g;have f :=by injection e
  subst f;exact(qj I 30 X.A (by omega) t t' k x y v u g r i d j).2.1 _ _ _ _ ⟨.bl k,H,I,rfl,q⟩
 ·cases e
theorem xY (j:X.A.units+64 < cLine):lH X (compareOp .NotEq) (W1 lJ):=by
 intro a s l H x y v u Q I d i h;obtain⟨t,t',b,r,g,e,q⟩:=h;unfold lJ at e;split at e
 ·rename_i k f;cases e;exact(qj I 30 X.A (by omega) t t' k x y v u f r g d i).2.2 _ _ _ _ ⟨.bl _,H,I,rfl,q⟩
 ·cases e
noncomputable def mG:T->T->R Bool
 | .int i,.int j=> .ok (decide (i < j))
 | _,_=> .bad
noncomputable def lA:T->T->R Bool
 | .int i,.int j=> .ok (decide (i<=j))
 | .str x,.str y=> .ok (!decide (y.cps.toList < x.cps.toList))
 | _,_=> .bad
noncomputable def ml:T->T->R Bool
 | .int i,.int j=> .ok (decide (j < i))
 | _,_=> .bad
noncomputable def oA:T->T->R Bool
 | .int i,.int j=> .ok (decide (j<=i))
 | _,_=> .bad
theorem Eb:Nx mG:=λt t' c h=>by unfold mG at h;split at h <;> cases h
theorem Ww:Nx lA:=λt t' c h=>by unfold lA at h;split at h <;> cases h
theorem DF:Nx ml:=λt t' c h=>by unfold ml at h;split at h <;> cases h
theorem Ey:Nx oA:=λt t' c h=>by unfold oA at h;split at h <;> cases h
theorem GG:lH X (compareOp .Lt) (W1 mG):=by
 intro a s f H x y v u Q I d k h;obtain⟨t,t',b,r,g,e,q⟩:=h;unfold mG at e;split at e
 ·rename_i i j;cases e;cases r;cases g;exact EV _ s f H _ _ v u Q I d k ⟨i,j,rfl,rfl,q⟩
 ·cases e
theorem GH:lH X (compareOp .Gt) (W1 ml):=by
 intro a s f H x y v u Q I d k h;obtain⟨t,t',b,r,g,e,q⟩:=h;unfold ml at e;split at e
 ·rename_i i j;cases e;cases r;cases g;exact CZ _ s f H _ _ v u Q I d k ⟨i,j,rfl,rfl,q⟩
 ·cases e
theorem GI:lH X (compareOp .GtE) (W1 oA):=by
 intro a s f H x y v u Q I d k h;obtain⟨t,t',b,r,g,e,q⟩:=h;unfold oA at e;split at e
 ·rename_i i j;cases e;cases r;cases g;exact Eh _ s f H _ _ v u Q I d k ⟨i,j,rfl,rfl,q⟩
 ·cases e
theorem J9:lH X (compareOp .LtE) (W1 lA):=by
 intro f s k H x y v u Q I a g h;obtain⟨t,t',b,r,d,e,q⟩:=h;unfold lA at e;split at e
 ·rename_i i j;cases e;cases r;cases d;exact DP _ s k H _ _ v u Q I a g ⟨i,j,rfl,rfl,q⟩
 ·cases e;cases r;cases d;obtain⟨l,rfl⟩:=a;obtain⟨o,rfl⟩:=g;exact PySem.P.le_str ⟨.bl _,H,I,rfl,q⟩
 ·cases e
end
section
variable {X:Cx}{Y:Fx}{a b c d:Expr}{fa fb fc fd:En->R T}{pos:Pos}
noncomputable def Ji (f:T->Option Bool):List T->Option Bool
 | []=>some false
 | t :: r=>match f t with
  | none=>none
  | some b=>match Ji f r with
   | none=>none
   | some c=>some (b || c)
def lQ (t t' :T):R Bool:=match t' with
 | .tup ys=>match Ji (λy=>lw 30 y t) ys with | some b=> .ok b | none=> .bad
 | .lst ys=>match Ji (λy=>lw 30 y t) ys with | some b=> .ok b | none=> .bad
 | _=> .bad
def Wx (t t' :T):R Bool:=(lQ t t').bind λb=> .ok (!b)
theorem Vp:Nx lQ:=λt t' c h=>by
 unfold lQ at h;split at h
 ·split at h <;> cases h
 ·split at h <;> cases h
 ·cases h
theorem GJ:Nx Wx:=λt t' c h=>by
 unfold Wx at h;cases e:lQ t t' with
 | bad=>rw[e]at h;cases h
 | ex k=>exact absurd e (Vp _ _ _)
 | ok k=>rw[e]at h;cases h
open Classical in
theorem Um (f:T->Option Bool):∃e:Value->Bool,∀(v:V) (t:T) (u:Value) (b:Bool),Z2 v u->Rep H v t->f t=some b->e u=b:=by
 refine⟨λu=>decide (∃v t,Z2 v u/\Rep H v t/\f t=some true),λv t u b j r e=> ?_⟩;cases b with
 | true=>exact decide_eq_true ⟨v,t,j,r,e⟩
 | false=>
  refine decide_eq_false ?_
  rintro⟨l,t',g,k,i⟩
  have:=j.inj g;subst this;have:=r.fn k;subst this;rw[e]at i;cases i
theorem qo {H:Hp}{f:T->Option Bool}{e:Value->Bool}(o:∀(v:V) (t:T) (u:Value) (b:Bool),Z2 v u->Rep H v t->f t=some b->e u=b):∀{xs:List V} {ts:List T} {g:List Value} {b:Bool},
  Z3 xs g->zG H xs ts->Ji f ts=some b->g.any e=b/\∀u∈g,∃v t k,Z2 v u/\Rep H v t/\f t=some k
 | _,_,_,b,.nil,.nil,h=>by
  have h' :=h;cases h';exact⟨rfl,λu x=>by simp at x⟩
 | _,_,_,b,.cons p G,.cons r y,h=>by
  rename_i v u l I t ts;unfold Ji at h;cases q:f t with
  | none=>rw[q]at h;cases h
  | some k=>
   rw[q]at h;cases i :Ji f ts with
   | none=>rw[i]at h;cases h
   | some J =>
    rw[i]at h;cases h;obtain⟨B,D⟩:=qo o G y i;refine⟨by rw[i9,B,o v t u k p r q],λw j=> ?_⟩
    rcases aq.mp j with rfl | j
    ·exact⟨v,t,k,p,r,q⟩
    ·exact D w j
theorem qp (hu:X.A.units+64 < cLine)(g:Bool):lH X (compareOp (if g then .NotIn else .In)) (W1 (if g then Wx else lQ)):=by
 intro pins s σ H x y v u Q I rx ry h;obtain⟨t,t',b,r,Z,e,q⟩:=h;have hs:∃k,lQ t t' = .ok k/\b=(if g then !k else k):=by
  cases g with
  | false=>exact⟨b,e,rfl⟩
  | true=>
   have G :Wx t t' = .ok b:=e;unfold Wx at G;cases z:lQ t t' with
   | bad=>rw[z]at G;cases G
   | ex k=>exact absurd z (Vp _ _ _)
   | ok k=>rw[z]at G;cases G;exact⟨k,rfl,rfl⟩
 obtain⟨k,i,rfl⟩:=hs;unfold lQ at i;obtain⟨f,S⟩:=Um λy=>lw 30 y t;have j:∀w,(∃v t' k,Z2 v w/\Rep H v t' /\lw 30 t' t=some k)->cS X.A.in1 s w v (f w):=λw ⟨v',t',k,D,rr,U⟩=>by
  rw[S v' t' w k D rr U];exact(qj I 30 _ (by rw[J8];omega) t' t k v' x w v U rr r D rx).1
 split at i
 ·split at i
  ·rename_i k' P;cases i;cases Z with
   | @tup l xs _ N M=>
    obtain rfl:u=Value.ref l:=ry;obtain⟨B,D,p,_⟩:=j3 I N M;obtain⟨O,K⟩:=qo S D M P;have J:B.toArray.any f=k:=by simpa using O
    cases g with
    | false=>exact SeqAt.in_tupleAt f p (λw o=>j w (K w (by simpa using o))) (by rw[J];exact⟨.bl k,H,I,rfl,q⟩)
    | true=>exact SeqAt.notIn_tupleAt f p (λw o=>j w (K w (by simpa using o))) (by rw[J];exact⟨.bl _,H,I,rfl,q⟩)
  ·cases i
 ·split at i
  ·rename_i k' P;cases i;cases Z with
   | @lst l xs _ N M=>
    obtain rfl:u=Value.ref l:=ry;obtain⟨B,D,p,_⟩:=zS I (.inl N) M;obtain⟨O,K⟩:=qo S D M P;have J:B.toArray.any f=k:=by simpa using O
    cases g with
    | false=>exact SeqAt.in_listAt f p (λw o=>j w (K w (by simpa using o))) (by rw[J];exact⟨.bl k,H,I,rfl,q⟩)
    | true=>exact SeqAt.notIn_listAt f p (λw o=>j w (K w (by simpa using o))) (by rw[J];exact⟨.bl _,H,I,rfl,q⟩)
  ·cases i
 ·cases i
theorem xZ (e:X.A.units+64 < cLine):lH X (compareOp .In) (W1 lQ):=qp e false
theorem kD (e:X.A.units+64 < cLine):lH X (compareOp .NotIn) (W1 Wx):=qp e true
noncomputable def V2 (t t' :T):R Bool:=match t' with
 | .non=>match t with | .non=> .ok true | _=> .ok false
 | .bl k=>match t with | .bl j=> .ok (j == k) | _=> .ok false
 | _=> .bad
def kF (t t' :T):R Bool:=(V2 t t').bind λb=> .ok (!b)
theorem GK:Nx V2:=λt t' c h=>by
 unfold V2 at h;split at h
 ·split at h <;> cases h
 ·split at h <;> cases h
 ·cases h
theorem kG (i:Bool):lH X (compareOp (if i then .IsNot else .Is)) (W1 (if i then kF else V2)):=by
 intro o s G H x y v u Q I g w h;obtain⟨t,t',b,r,D,e,q⟩:=h;have B:∃k,V2 t t' = .ok k/\b=(if i then !k else k):=by
  cases i with
  | false=>exact⟨b,e,rfl⟩
  | true=>
   have l :kF t t' = .ok b:=e;unfold kF at l;cases z:V2 t t' with
   | bad=>rw[z]at l;cases l
   | ex k=>exact absurd z (GK _ _ _)
   | ok k=>rw[z]at l;cases l;exact⟨k,rfl,rfl⟩
 obtain⟨k,f,rfl⟩:=B;have go:plainIs v u=true/\(v == u)=k:=by
  cases D with
  | non=>
   obtain rfl:u=Value.none:=w;cases r with
   | non=>obtain rfl:v=Value.none:=g;cases f;exact⟨rfl,rfl⟩
   | bl j=>obtain rfl:v=Value.bool j:=g;cases f;exact⟨rfl,rfl⟩
   | int j=>obtain⟨t,rfl⟩:=g;cases f;exact⟨rfl,rfl⟩
   | str j=>obtain⟨t,rfl⟩:=g;cases f;exact⟨rfl,rfl⟩
   | tup _ _=>obtain rfl:v=Value.ref _:=g;cases f;exact⟨rfl,rfl⟩
   | lst _ _=>obtain rfl:v=Value.ref _:=g;cases f;exact⟨rfl,rfl⟩
   | fz _ _=>obtain rfl:v=Value.ref _:=g;cases f;exact⟨rfl,rfl⟩
  | bl p =>
   obtain rfl:u=Value.bool p :=w;cases r with
   | non=>obtain rfl:v=Value.none:=g;cases f;exact⟨rfl,rfl⟩
   | bl j=>obtain rfl:v=Value.bool j:=g;cases f;exact⟨rfl,by cases j <;> cases p <;> rfl⟩
   | int j=>obtain⟨t,rfl⟩:=g;cases f;exact⟨rfl,rfl⟩
   | str j=>obtain⟨t,rfl⟩:=g;cases f;exact⟨rfl,rfl⟩
   | tup _ _=>obtain rfl:v=Value.ref _:=g;cases f;exact⟨rfl,rfl⟩
   | lst _ _=>obtain rfl:v=Value.ref _:=g;cases f;exact⟨rfl,rfl⟩
   | fz _ _=>obtain rfl:v=Value.ref _:=g;cases f;exact⟨rfl,rfl⟩
  | _=>cases f
 cases i with
 | false=>exact wpAny_is_plain go.1 (by rw[go.2];exact⟨.bl k,H,I,rfl,q⟩)
 | true=>exact wpAny_isNot_plain go.1 (by rw[go.2];exact⟨.bl _,H,I,rfl,q⟩)
theorem GL:lH X (compareOp .Is) (W1 V2):=kG false
def mm (g e :T->T->R Bool)(fa fb fc:En->R T):En->R T:=λρ=>(fa ρ).bind λx=>(fb ρ).bind λy=>(g x y).bind λk=>if k=true then (fc ρ).bind λz=>(e y z).bind λf => .ok (.bl f) else .ok (.bl false)
def nF (g e :T->T->R Bool)(fa fb fc:En->R T):En->R Bool:=λρ=>(fa ρ).bind λx=>(fb ρ).bind λy=>(g x y).bind λk=>if k=true then (fc ρ).bind λz=>e y z else .ok false
theorem kH (nx:Nx g)(l :Nx g')(K:lH X (compareOp op) (W1 g))(j :lH X (compareOp op') (W1 g'))(w:jn X Y a fa)(J:jn X Y b fb)(x:jn X Y c fc)
  (P:lastMarks [op,op'] [b,c]=false:=by with_unfolding_all rfl):Snd X Y (.Compare a [op,op'] [b,c] pos) (mm g g' fa fb fc):= .mk λρ=>
 PE.imp (Vd K j (w ρ) (J ρ) (x ρ) P) λU H Q ⟨B,I,q⟩=>step I q λt v S _ s1 M D N=>step D N λt' v' Z _ u r p f=>by
  cases e:g t t' with
  | bad=>rw[e]at f;exact f.elim
  | ex c=>exact absurd e (nx _ _ _)
  | ok k=>
   rw[e]at f;refine⟨t,t',k,M.mono u,r,e,k,rfl, ?_⟩;cases k with
   | false=>exact ZL p f (.bl _)
   | true=>
    refine step p f λo v3 H3 _ O G y i=> ?_
    ·cases e:g' t' o with
     | bad=>rw[e]at i;exact i.elim
     | ex c=>exact absurd e (l _ _ _)
     | ok k=>rw[e]at i;exact⟨t',o,k,r.mono O,G,e,ZL y i (.bl k)⟩
theorem kI (nx:Nx g)(l :Nx g')(K:lH X (compareOp op) (W1 g))(j :lH X (compareOp op') (W1 g'))(w:jn X Y a fa)(J:jn X Y b fb)(x:jn X Y c fc)
  (P:lastMarks [op,op'] [b,c]=false:=by with_unfolding_all rfl):uk X Y (.Compare a [op,op'] [b,c] pos) (nF g g' fa fb fc):= .mk λρ=>
 PT.imp (Ve K j (w ρ) (J ρ) (x ρ) P) λU H Q ⟨B,I,q⟩=>step I q λt v S _ s1 M D N=>step D N λt' v' Z _ u r p f=>by
  cases e:g t t' with
  | bad=>rw[e]at f;exact f.elim
  | ex c=>exact absurd e (nx _ _ _)
  | ok k=>
   rw[e]at f;refine⟨t,t',k,M.mono u,r,e,k,rfl, ?_⟩;cases k with
   | false=>exact⟨false,rfl,ZL p f rfl⟩
   | true=>
    refine step p f λo v3 H3 _ O G y i=> ?_
    ·cases e:g' t' o with
     | bad=>rw[e]at i;exact i.elim
     | ex c=>exact absurd e (l _ _ _)
     | ok k=>rw[e]at i;exact⟨t',o,k,r.mono O,G,e,k,rfl,ZL y i rfl⟩
def kJ (r w f :R2)(p tb tc B:TE):TE:=λe H Q=>p e H λx q=>tb e q λy u=>r x y u λz H3=>∃k,z= .bl k/\
 (if k=true then tc e H3 λg o=>w y g o λv j=>∃i,v = .bl i /\(if i =true then B e j λw2 l=>f g w2 l Q else Q (.bl false) j) else Q (.bl false) H3)
theorem qq (ho:lH X (compareOp op) r)(i :lH X (compareOp op') r')(g :lH X (compareOp op'') r'')(U:PE X a ta)(hb:PE X b tb)(Z:PE X c tc)(hd:PE X d td)
  (hm:lastMarks [op,op',op''] [b,c,d]=false:=by with_unfolding_all rfl):PE X (.Compare a [op,op',op''] [b,c,d] pos) (kJ r r' r'' ta tb tc td):=by
 intro p s f H Q I h;refine Compare_chain (lz (U _ s f H _ I h) λv s1 ⟨x,H1,I1,r1,q1⟩=>chain_link (lz (hb _ s1 f H1 _ I1 q1) λu S ⟨y,H2,I2,G,K⟩=>
  lz (ho _ S f H2 x y v u _ I2 r1 G K) λd' s3 ⟨z,H3,o,r3,k,e,l⟩=> ?_)) hm
 subst e;cases r3;refine bf ?_;cases k with
 | false=>exact ite_ff ⟨.bl _,H3,o,rfl,l⟩
 | true=>
  refine ite_tt (chain_link (lz (Z _ s3 f H3 _ o l) λj s4 ⟨w,P,O,D,q4⟩=>lz (i _ s4 f P y w u j _ O G D q4) λd2 s5 ⟨z5,q,B,M,k5,e5,q5⟩=> ?_));subst e5;cases M;refine bf ?_;cases k5 with
  | false=>exact ite_ff ⟨.bl _,q,B,rfl,q5⟩
  | true=>exact ite_tt (chain_last (lz (hd _ s5 f q _ B q5) λw6 s6 ⟨z6,H6,J,N,q6⟩=>g _ s6 f H6 w z6 j w6 Q J D N q6))
def pb (g i f :T->T->R Bool)(fa fb fc fd:En->R T):En->R T:=λρ=>(fa ρ).bind λx=>(fb ρ).bind λy=>(g x y).bind λk=>if k=true then (fc ρ).bind λz=>(i y z).bind λj =>
 if j =true then (fd ρ).bind λw=>(f z w).bind λe => .ok (.bl e) else .ok (.bl false) else .ok (.bl false)
theorem Vq (nx:Nx g)(u :Nx g')(i :Nx g'')(U:lH X (compareOp op) (W1 g))(r :lH X (compareOp op') (W1 g'))(l :lH X (compareOp op'') (W1 g''))
  (M:jn X Y a fa) (P:jn X Y b fb) (N:jn X Y c fc) (hd:jn X Y d fd)
  (hm:lastMarks [op,op',op''] [b,c,d]=false:=by with_unfolding_all rfl):Snd X Y (.Compare a [op,op',op''] [b,c,d] pos) (pb g g' g'' fa fb fc fd):= .mk λρ=>
 PE.imp (qq U r l (M ρ) (P ρ) (N ρ) (hd ρ) hm) λσ H Q ⟨B,I,q⟩=>step I q λt v H1 _ s1 Z O q1=>step O q1 λt' v' H2 _ K G x f=>by
  cases e:g t t' with
  | bad=>rw[e]at f;exact f.elim
  | ex c=>exact absurd e (nx _ _ _)
  | ok k=>
   rw[e]at f;refine⟨t,t',k,Z.mono K,G,e,k,rfl, ?_⟩;cases k with
   | false=>exact ZL x f (.bl _)
   | true=>
    refine step x f λo v3 H3 _ s3 y w j=> ?_
    ·cases e:g' t' o with
     | bad=>rw[e]at j;exact j.elim
     | ex c=>exact absurd e (u _ _ _)
     | ok k=>
      rw[e]at j;refine⟨t',o,k,G.mono s3,y,e,k,rfl, ?_⟩;cases k with
      | false=>exact ZL w j (.bl _)
      | true=>
       refine step w j λD v4 H4 _ S r4 J p=> ?_
       ·cases e:g'' o D with
        | bad=>rw[e]at p;exact p.elim
        | ex c=>exact absurd e (i _ _ _)
        | ok k=>rw[e]at p;exact⟨o,D,k,y.mono S,r4,e,ZL J p (.bl k)⟩
variable {rest:List Expr}{ga gb:En->R Bool}
def ZV (fa fb:En->R T):En->R T:=λρ=>(fa ρ).bind λx=>match x with
 | .bl true=>fb ρ
 | .bl false=> .ok (.bl false)
 | _=> .bad
def nz (fa fb:En->R T):En->R T:=λρ=>(fa ρ).bind λx=>match x with
 | .bl true=> .ok (.bl true)
 | .bl false=>fb ρ
 | _=> .bad
def qr (fa:En->R T):En->R T:=λρ=>(fa ρ).bind λx=>match x with
 | .bl k=> .ok (.bl (!k))
 | _=> .bad
theorem Fl {op}(h:Snd X Y a fa):Snd X Y (.BoolOp op [a] pos) fa:= .mk λρ=>G6 (h ρ)
theorem FQ (i:Snd X Y a fa)(g:Snd X Y (.BoolOp .And (b :: rest) pos) fb):Snd X Y (.BoolOp .And (a :: b :: rest) pos) (ZV fa fb):= .mk λρ=>
 PE.imp (G7 (i ρ) (g ρ)) λo H Q ⟨B,I,q⟩=>step I q λt v l _ p j f e=>by
  cases j with
  | bl k=>
   refine⟨k,rfl, ?_⟩;cases k with
   | true=>exact⟨_,f,e⟩
   | false=>exact ZL f e (.bl _)
  | _=>exact e.elim
theorem AC (i:Snd X Y a fa)(g:Snd X Y (.BoolOp .Or (b :: rest) pos) fb):Snd X Y (.BoolOp .Or (a :: b :: rest) pos) (nz fa fb):= .mk λρ=>
 PE.imp (DI (i ρ) (g ρ)) λo H Q ⟨B,I,q⟩=>step I q λt v l _ p j f e=>by
  cases j with
  | bl k=>
   refine⟨k,rfl, ?_⟩;cases k with
   | false=>exact⟨_,f,e⟩
   | true=>exact ZL f e (.bl _)
  | _=>exact e.elim
theorem EE (f:Snd X Y a fa):Snd X Y (.UnaryOp .Not a pos) (qr fa):= .mk λρ=>
 PE.imp (G8 (f ρ)) λl H Q ⟨B,I,q⟩=>step I q λt v j _ o i g e=>by
  cases i with
  | bl k=>exact⟨k,rfl,ZL g e (.bl _)⟩
  | _=>exact e.elim
structure YA (X:Cx) (Y:Fx) (e:Expr) (f:En->R Bool):Prop where
 mk ::
 go:∀ρ,PW X e (tS Y rE f ρ)
instance {X:Cx}{Y:Fx}{e:Expr}{f:En->R Bool}:CoeFun (YA X Y e f) λ_=>∀ρ,PW X e (tS Y rE f ρ):=⟨YA.go⟩
theorem YA.t (h:YA X Y e f):uk X Y e f:= .mk λρ=>(h ρ).pt
theorem PW.imp (h:PW X e t)(i:∀f H Q,t' f H Q->t f H Q):PW X e t' :=λj g s f H Q I q=>h j _ s f H Q I (i f H Q q)
def JZ (fa fb:En->R Bool):En->R Bool:=λρ=>(fa ρ).bind λx=>if x=true then fb ρ else .ok false
def lY (fa fb:En->R Bool):En->R Bool:=λρ=>(fa ρ).bind λx=>if x=true then .ok true else fb ρ
def ZW (fa:En->R Bool):En->R Bool:=λρ=>(fa ρ).bind λx=> .ok (!x)
theorem GM (h:uk X Y a ga):YA X Y (.BoolOp .And [a] pos) ga:= .mk λρ=>XZ (h ρ)
theorem D4 (h:uk X Y a ga):YA X Y (.BoolOp .Or [a] pos) ga:= .mk λρ=>G2 (h ρ)
theorem Ed (j:uk X Y a ga)(i:YA X Y (.BoolOp .And (b :: rest) pos) gb):YA X Y (.BoolOp .And (a :: b :: rest) pos) (JZ ga gb):= .mk λρ=>
 PW.imp (G4 (j ρ) (i ρ)) λo H Q ⟨B,I,q⟩=>step I q λt v l _ p k f g=>by
  have e :=k;subst e;cases v with
  | true=>exact⟨_,f,g⟩
  | false=>exact ZL f g rfl
theorem BB (j:uk X Y a ga)(i:YA X Y (.BoolOp .Or (b :: rest) pos) gb):YA X Y (.BoolOp .Or (a :: b :: rest) pos) (lY ga gb):= .mk λρ=>
 PW.imp (FH (j ρ) (i ρ)) λo H Q ⟨B,I,q⟩=>step I q λt v l _ p k f g=>by
  have e :=k;subst e;cases v with
  | false=>exact⟨_,f,g⟩
  | true=>exact ZL f g rfl
theorem Dl (f:uk X Y a ga):uk X Y (.UnaryOp .Not a pos) (ZW ga):= .mk λρ=>
 PT.imp (G5 (f ρ)) λl H Q ⟨B,I,q⟩=>step I q λt v k _ o i g j=>by
  have e :=i;subst e;exact ZL g j rfl
noncomputable def nJ:T->R Bool
 | .bl k=> .ok k
 | .non=> .ok false
 | .int i=> .ok (i != 0)
 | .tup xs=> .ok (!xs.isEmpty)
 | .lst xs=> .ok (!xs.isEmpty)
 | _=> .bad
def Z8 (fa:En->R T):En->R Bool:=λρ=>(fa ρ).bind nJ
theorem Cm (r:zG H xs ts):(!xs.isEmpty)= !ts.isEmpty:=by cases r <;> rfl
theorem F4 (j:jn X Y a fa)(l:∀e,isTrue a X.env e=(do let v ← e;standAt a.pos;holding [v] (truthy v)):=by intro _;rfl):uk X Y a (Z8 fa):= .mk λρ=>
 PT.imp (Vf (j ρ) l) λu H Q ⟨B,I,q⟩=>step I q λt v p _ w o g f=>by
  cases o with
  | bl k=>exact⟨k,rfl,ZL g f rfl⟩
  | non=>exact⟨false,rfl,ZL g f rfl⟩
  | int i=>exact⟨_,rfl,ZL g f rfl⟩
  | tup h r=>exact⟨_,.inr (.inl ⟨_,SqT.of h,rfl⟩),ZL g f (Cm r)⟩
  | lst h r=>exact⟨_,.inl ⟨_,SqL.of h,rfl⟩,ZL g f (Cm r)⟩
  | _=>exact f.elim
def lP (g:En->R Bool)(fa fb:En->R T):En->R T:=λρ=>(g ρ).bind λk=>if k=true then fa ρ else fb ρ
theorem tZ (k:uk X Y c ga)(j:Snd X Y a fa)(i:Snd X Y b fb):Snd X Y (.IfExp c a b pos) (lP ga fa fb):= .mk λρ=>
 PE.imp (Va (k ρ) (j ρ) (i ρ)) λp H Q ⟨B,I,q⟩=>step I q λt v o _ r l f g=>by
  have e :=l;subst e;cases v with
  | true=>exact⟨_,f,g⟩
  | false=>exact⟨_,f,g⟩
end
end PV
namespace PV
open PySem PySem.Spec PyProof.Rows L2
section
variable {X:Cx}{Y:Fx}{a b c d:Expr}{fa fb fc fd:En->R T}{pos p:Pos}
def lj (g:T->R T)(fa:En->R T):En->R T:=λρ=>(fa ρ).bind g
noncomputable abbrev lX (X:Cx)(a:Expr):Prop:=starEach [a] X.env=[(false,eval a X.env)]
theorem W2 {id:String}{x:Str}{r:List V->Hp->VK->Prop}{g:T->R T}(k:ZB X (.builtin id) r)(hr:∀v t B H Q,Rep H v t->zl B H->Po Y rC B H (g t) Q->r [v] H Q)
  (f:Gl X x) (j:X.mg x=none) (l:bootBuiltins x=some (.builtin id)) (i:jn X Y a fa) (e:lX X a:=by exact lO rfl) (hn:x ≠ "__name__":=by decide) (hd:(x == ("__debug__":Str))=false:=by decide):Snd X Y (.Call (.Name x p) [a] [] pos) (lj g fa):= .mk λρ=>
 PE.imp (ZZ k f j l (zw (i ρ) zT e) hn hd e rfl) λD H Q ⟨B,I,q⟩=>step I q λt v o _ G w u y=>hr v t _ o Q w u.sB y
theorem X0 {id:String}{x:Str}{r:List V->Hp->VK->Prop}{g:T->R T}(k:ZB X (.type id) r)(hr:∀v t B H Q,Rep B v t->zl B H->Po Y rC B H (g t) Q->r [v] H Q)
  (f:Gl X x) (j:X.mg x=none) (l:bootBuiltins x=some (.type id)) (i:Snd X Y a fa) (e:lX X a:=by exact lO rfl) (hn:x ≠ "__name__":=by decide) (hd:(x == ("__debug__":Str))=false:=by decide):Snd X Y (.Call (.Name x p) [a] [] pos) (lj g fa):= .mk λρ=>
 PE.imp (jZ k f j l (zw (i ρ) zT e) hn hd e rfl) λD H Q ⟨B,I,q⟩=>step I q λt v o _ G w u y=>hr v t _ o Q w u.sB y
def zM:T->R T
 | .tup xs=> .ok (.int xs.length)
 | .lst xs=> .ok (.int xs.length)
 | .fz xs=> .ok (.int xs.length)
 | .str x=>if x.length<=lB then .ok (.int x.length) else .bad
 | _=> .bad
theorem D3 (v:V)(t:T)(B H:Hp)(Q:VK)(r:Rep H v t)(e:zl B H)(q:Po Y rC B H (zM t) Q):
  (∃p ys,[v]=[V.ref p]/\(SqL X.K H p ys\/SqT X.K H p ys)/\Q (V.int ys.length) H)\/(∃z,[v]=[V.str z]/\z.length<=sizeLine/\Q (V.int z.length) H):=by
 cases r with
 | tup h r=>exact .inl ⟨_,_,rfl,.inr (SqT.of h),lU e q rfl (by rw[r.length];exact .int _)⟩
 | lst h r=>exact .inl ⟨_,_,rfl,.inl (SqL.of h),lU e q rfl (by rw[r.length];exact .int _)⟩
 | fz h r=>exact .inl ⟨_,_,rfl,.inl (.inl (.inr ⟨_,h⟩)),lU e q rfl (by rw[r.length];exact .int _)⟩
 | str x=>
  by_cases f:x.length<=lB
  ·exact .inr ⟨x,rfl,ZP f,lU e q (if_pos f) (.int _)⟩
  ·rw[show zM (.str x)= .bad from if_neg f]at q;exact q.elim
 | _=>exact q.elim
theorem Eg (i:Gl X "len")(g:X.mg "len"=none)(f:jn X Y a fa)(e:lX X a:=by exact lO rfl):Snd X Y (.Call (.Name "len" p) [a] [] pos) (lj zM fa):=
 W2 (uz.or uA) D3 i g PySem.boot_len f e
noncomputable def sV:T->R T
 | .tup xs=> .ok (.tup xs)
 | .lst xs=> .ok (.tup xs)
 | _=> .bad
theorem E3 (v:V)(t:T)(B H:Hp)(Q:VK)(r:Rep B v t)(e:zl B H)(q:Po Y rC B H (sV t) Q):
  ∃p ys,[v]=[V.ref p]/\((SqL X.K H p ys/\∀l,H l=none->Q (.ref l) (lC H l (.tup ys)))\/(SqT X.K H p ys/\Q (.ref p) H)):=by
 cases r with
 | tup h r=>exact⟨_,_,rfl,.inr ⟨SqT.of (e _ _ h),lU e q rfl (.tup h r)⟩⟩
 | lst h r=>exact⟨_,_,rfl,.inl ⟨SqL.of (e _ _ h),λl f=>GC e q rfl r f⟩⟩
 | _=>exact q.elim
theorem kK (i:Gl X "tuple")(g:X.mg "tuple"=none)(f:Snd X Y a fa)(e:lX X a:=by exact lO rfl):Snd X Y (.Call (.Name "tuple" p) [a] [] pos) (lj sV fa):=
 X0 Ws E3 i g (PyProof.Rows.Boot.«tuple») f e
noncomputable def nv:T->String
 | .non=>"NoneType"
 | .bl _=>"bool"
 | .int _=>"int"
 | .str _=>"str"
 | .tup _=>"tuple"
 | .lst _=>"list"
 | .fz _=>"list"
def mH (n:String)(t:T):Bool:=nv t == n || (n == "int" && nv t == "bool")
theorem Fs (K:aj)(r:Rep H v t):yX K H v (.type (nv t)):=by
 cases r with
 | non=>exact .non
 | bl b=>exact .bl b
 | int b=>exact .int b
 | str b=>exact .str b
 | tup h _=>exact .tup h
 | lst h _=>exact .lst h
 | fz h _=>exact .frz h
theorem Vr:ZB X (.builtin "isinstance") (λxs H Q=>∃v n t,xs=[v,.ty n]/\Rep H v t/\aW X.K (.type (nv t)) (.type n)=some (mH n t)/\Q (.bl (mH n t)) H):=by
 intro f s l H xs k Q I i h;obtain⟨v,n,t,rfl,r,g,q⟩:=h;obtain⟨u,w,rfl,j,e⟩:=yW i;obtain rfl:w=Value.type n:=e;exact YW I j (Fs X.K r) g λtk=>⟨.bl _,H,I.tok tk,rfl,q⟩
def j4 (n:String)(t:T):R T:= .ok (.bl (mH n t))
theorem kL (K:aj)(t:T):aW K (.type (nv t)) (.type "int")=some (mH "int" t):=by cases t <;> rfl
theorem Vs (K:aj)(t:T):aW K (.type (nv t)) (.type "bool")=some (mH "bool" t):=by cases t <;> rfl
theorem kM (K:aj)(t:T):aW K (.type (nv t)) (.type "str")=some (mH "str" t):=by cases t <;> rfl
theorem qt (K:aj)(t:T):aW K (.type (nv t)) (.type "tuple")=some (mH "tuple" t):=by cases t <;> rfl
theorem Vt (j:∀t,aW X.K (.type (nv t)) (.type n)=some (mH n t))(k:Gl X "isinstance")(r:X.mg "isinstance"=none)(f :Gl X (bh n))(g :X.mg (bh n)=none)(u:bootBuiltins (bh n)=some (.type n))(o:jn X Y a fa)
  (i:starEach [a,.Name (bh n) p'] X.env=[(false,eval a X.env),(false,eval (.Name (bh n) p') X.env)]:=by exact mq rfl rfl) (e:starEach [.Name (bh n) p'] X.env=[(false,eval (.Name (bh n) p') X.env)]:=by exact lO rfl)
  (hn:bh n ≠ "__name__":=by decide) (hd:(bh n == ("__debug__":Str))=false:=by decide) (l:((backTo pos (starEach [.Name (bh n) p'] X.env)).any λx=>x.fst)=false:=by exact Zl rfl):
  Snd X Y (.Call (.Name "isinstance" p) [a,.Name (bh n) p'] [] pos) (lj (j4 n) fa):= .mk λρ=>
 PE.imp (ZZ Vr k r PyProof.Rows.Boot.«isinstance» (zw (o ρ) (zw (YH (v:= .ty n) f g u rfl hn hd) zT e) (by rw[i,e])) (by decide) (by decide) (by rw[i,e]) l) λJ H Q ⟨B,I,q⟩=>
  step I q λt v G _ M y w D=>⟨v,n,t,rfl,y,j t,lU w.sB D rfl (.bl _)⟩
def lI (xs:List T)(i:Int):R T:=match mj xs i with
 | some t=> .ok t
 | none=> .bad
def li:T->T->R T
 | .tup xs,.int i=>lI xs i
 | .lst xs,.int i=>lI xs i
 | .fz xs,.int i=>lI xs i
 | .str z,.int i=>if z.length<=lB then match mj z.cps.toList i with | some c=> .ok (.str ⟨#[c]⟩) | none=> .bad else .bad
 | _,_=> .bad
theorem uE (r:zG H xs ts)(h:mj ts i=some t):∃v,mj xs i=some v/\Rep H v t:=by
 unfold mj at h ⊢;rw[r.length];cases e:nY _ i with
 | none=>rw[e]at h;cases h
 | some j=>
  rw[e]at h;obtain⟨v,g,f⟩:=r.get (h);exact⟨v,g,f⟩
theorem Ad (D:Snd X Y a fa)(u:Snd X Y b fb)(G:Wq b:=by exact λ_ _=>rfl):Snd X Y (.Subscript a b pos) (zc li fa fb):= .mk λρ=>
 PE.imp (kh qa (D ρ) (u ρ) G) λN H Q ⟨B,I,q⟩=>step I q λt v M _ P o x J=>step x J λt' O l _ y K g f=>by
  have o:=o.mono (zL.ge x.sB y);cases K with
  | int i=>
   cases o with
   | @tup _ xs ts h r=>
    have f:Po Y rC _ l (lI ts i) Q:=f;unfold lI at f;split at f
    ·rename_i t' e;obtain⟨w,k,j⟩:=uE r e;exact .inr (.inl ⟨_,xs,i,w,rfl,rfl,SqT.of (g.sB _ _ h),k,lU g.sB f rfl j⟩)
    ·exact f.elim
   | @lst _ xs ts h r=>
    have f:Po Y rC _ l (lI ts i) Q:=f;unfold lI at f;split at f
    ·rename_i t' e;obtain⟨w,k,j⟩:=uE r e;exact .inl ⟨_,xs,i,w,rfl,rfl,SqL.of (g.sB _ _ h),k,lU g.sB f rfl j⟩
    ·exact f.elim
   | @fz _ _ xs ts h r=>
    have f:Po Y rC _ l (lI ts i) Q:=f;unfold lI at f;split at f
    ·rename_i t' e;obtain⟨w,k,j⟩:=uE r e;exact .inl ⟨_,xs,i,w,rfl,rfl,.inl (.inr ⟨_,g.sB _ _ h⟩),k,lU g.sB f rfl j⟩
    ·exact f.elim
   | str z=>
    have f:Po Y rC _ l (if z.length<=lB then match mj z.cps.toList i with | some c=> .ok _ | none=> .bad else .bad) Q:=f
    split at f
    ·rename_i u;split at f
     ·rename_i c e;exact .inr (.inr ⟨z,i,c,rfl,rfl,ZP u,e,lU g.sB f rfl (.str _)⟩)
     ·exact f.elim
    ·exact f.elim
   | _=>exact f.elim
  | _=>cases o <;> exact f.elim
structure kN (X:Cx) (Y:Fx) (e:Option Expr) (f:En->R (Option Int)):Prop where
 mk ::
 go:∀ρ,PO X e (tS Y rE f ρ)
instance {X:Cx}{Y:Fx}{e:Option Expr}{f:En->R (Option Int)}:CoeFun (kN X Y e f) λ_=>∀ρ,PO X e (tS Y rE f ρ):=⟨kN.go⟩
def lM:En->R (Option Int):=λ_=> .ok none
def zJ (fa:En->R T):En->R (Option Int):=λρ=>(fa ρ).bind λt=>match t with
 | .int i=> .ok (some i)
 | _=> .bad
theorem PO.imp {e:Option Expr}{t t' :TO}(h:PO X e t)(i:∀f H Q,t' f H Q->t f H Q):PO X e t' :=λg s f H Q I q=>h _ s f H Q I (i f H Q q)
theorem GN:kN X Y none lM:= .mk λρ=>PO.imp kb λe H Q ⟨B,I,q⟩=>ZL I q rfl
theorem GO (f:Snd X Y a fa):kN X Y (some a) (zJ fa):= .mk λρ=>PO.imp (kd (f ρ)) λl H Q ⟨B,I,q⟩=>step I q λt v k _ o j g e=>by
 cases j with
 | int i=>exact⟨i,rfl,ZL g e rfl⟩
 | _=>exact e.elim
noncomputable def mn (xs:List T)(lo hi:Option Int):List T:=(xs.drop (HT.sIx xs.length 0 lo)).take (HT.sIx xs.length xs.length hi - HT.sIx xs.length 0 lo)
def na (t:T)(lo hi:Option Int):R T:=match t with
 | .tup xs=> .ok (.tup (mn xs lo hi))
 | .lst xs=> .ok (.lst (mn xs lo hi))
 | _=> .bad
def lK (fa:En->R T)(f e:En->R (Option Int)):En->R T:=λρ=>(fa ρ).bind λt=>(f ρ).bind λlo=>(e ρ).bind λhi=>na t lo hi
theorem qu {lo hi:Option Int}(r:zG H xs ts):zG H (gK xs lo hi) (mn ts lo hi):=by
 unfold gK mn;rw[r.length];exact(r.drop _).take _
theorem Jm {lo hi:Option Int}(e:IsTup s.heap t items)(k:s.heap.IsSliceOf sl vl vu .none)(pl:IsPart vl lo)(o:IsPart vu hi)
  (l:HT.sIx items.size 0 lo=0/\HT.sIx items.size items.size hi=items.size) (h:Q (.ref t) s):wpAny (model prog w) A (getItem (.ref t) (.ref sl)) Q E s:=by
 obtain⟨os,g,i,q⟩:=id k;have j:s.TypeIs (.ref sl) _:=⟨os,g,i⟩;unfold getItem
 try with_reducible refine bM ?_
 refine aa (wpAny_sequenceKey e.typeIs (by decide) ?_)
 refine aa (bJ e.typeIs bA
  (cf bA e.typeIs entry_tuple_getitem ?_ (args_tuple_getitem _ _)))
 show wpAny _ _ (eT _ >>= _) _ _ s;refine aa (tupleItemsOf_ e ?_);refine aa (wpAny_typeOf j ?_);refine aa (HT.sliceApplied_gen k pl o ?_);have f:(((HT.sIx items.size 0 lo):Int) == 0 && (1:Int) == 1 && (HT.sIx items.size items.size hi - HT.sIx items.size 0 lo) == items.size)=true:=by
  rw[l.1,l.2];simp
 show wpAny _ _ (if (((HT.sIx _ 0 lo:Nat):Int) == 0 && (1) == 1 && (HT.sIx _ _ hi - HT.sIx _ 0 lo) == items.size)=true then _ else _) _ _ s
 rw[if_pos f];refine aa (aa (wpAny_typeOf e.typeIs (aw ?_)));exact aa (eD (aw ⟨_,rfl,aw h⟩))
theorem Y3:SlR X (λx lo hi H Q=>∃a xs,x= .ref a/\SqT X.K H a xs/\(HT.sIx xs.length 0 lo=0/\HT.sIx xs.length xs.length hi=xs.length)/\Q (.ref a) H):=by
 intro i s B H x v vl D lo hi y Q I j k pl l h;obtain⟨a,xs,rfl,u,o,q⟩:=h;obtain rfl:v=Value.ref a:=j;obtain⟨f,r,g,w⟩:=I.tuple u;have e:f.toArray.size=xs.length:=by exact r.length.symm
 refine⟨"tuple",_,bA.lookup,g.typeIs, ?_⟩;exact Jm g k pl l (by rw[e];exact o) ⟨.ref a,H,I,rfl,q⟩
theorem kO {lo hi:Option Int}(e:HT.sIx xs.length 0 lo=0)(f:HT.sIx xs.length xs.length hi=xs.length):mn xs lo hi=xs:=by
 unfold mn;rw[e,f];simp
theorem kP {lo hi:Option Expr}{y x:En->R (Option Int)}(J:Snd X Y a fa)(U:kN X Y lo y)(M:kN X Y hi x):Snd X Y (.Subscript a (.Slice lo hi none p2) pos) (lK fa y x):= .mk λρ=>
 PE.imp (Vl (Gq.or (Y3.or kl)) (J ρ) (U ρ) (M ρ)) λσ H Q ⟨B,I,q⟩=>step I q λt v Z _ s1 o u P=>step u P λl N H2 _ G K w D=>step w D λh h' H3 _ S O e i=>by
  have k :=K;have j :=O;subst k j;have o:=o.mono ((zL.ge u.sB G).trans (zL.ge w.sB S));cases o with
  | @tup _ xs ts f r=>
   by_cases g:HT.sIx xs.length 0 N =0/\HT.sIx xs.length xs.length h' =xs.length
   ·refine .inr (.inl ⟨_,xs,rfl,SqT.of (e.sB _ _ f),g,lU e.sB i rfl ?_⟩);rw[r.length]at g;rw[kO g.1 g.2];exact .tup f r
   ·exact .inl ⟨_,xs,rfl,SqT.of (e.sB _ _ f),g,λp hp=>GC e.sB i rfl (qu r) hp⟩
  | @lst _ xs ts f r=>
   exact .inr (.inr ⟨_,xs,rfl,SqL.of (e.sB _ _ f),λp hp=>AN e.sB i rfl (qu r) hp⟩)
  | _=>exact i.elim
noncomputable def Y4 (t t' :T):R T:=match t,t' with
 | .int i,.int j=> .ok (.int (if j < i then j else i))
 | _,_=> .bad
theorem GP (w:X.calm=true)(l:Gl X "min")(u:X.mg "min"=none)(r:Snd X Y a fa)(o:Snd X Y b fb)
  (g:starEach [a,b] X.env=[(false,eval a X.env),(false,eval b X.env)]:=by exact mq rfl rfl) (e:starEach [b] X.env=[(false,eval b X.env)]:=by exact lO rfl):
  Snd X Y (.Call (.Name "min" p) [a,b] [] pos) (zc Y4 fa fb):= .mk λρ=>
 PE.imp (ZZ (YT w) l u PyProof.Rows.Boot.«min» (zw (r ρ) (zw (o ρ) zT e) (by rw[g,e])) (by decide) (by decide) (by rw[g,e]) (by rw[e];rfl)) λM H Q ⟨B,I,q⟩=>
  step I q λt v K _ P y x D=>step x D λt' O N _ J k G f=>by
   cases y with
   | int i=>
    cases k with
    | int j=>exact⟨i,j,rfl,lU G.sB f rfl (.int _)⟩
    | _=>exact f.elim
   | _=>cases k <;> exact f.elim
noncomputable def uF:List T->Option Bool
 | []=>some true
 | .bl k :: r=>match uF r with | some j=>some (k && j) | none=>none
 | _ :: _=>none
def X1:T->R T
 | .lst ts=>match uF ts with | some k=> .ok (.bl k) | none=> .bad
 | _=> .bad
theorem qw:∀{H:Hp} {xs:List V} {ts:List T} {f:List Value} {k:Bool},zG H xs ts->Z3 xs f->uF ts=some k->∃tr:Nat->Bool,(∀i v,f[i]? =some v->v=Value.bool (tr i))/\(aU f.length).all tr=k
 | _,_,_,_,k,.nil,.nil,h=>by
  have h' :=h;cases h';exact⟨λ_=>true,λi v e=>by simp at e,rfl⟩
 | H,_,_,_,k,.cons r rs,.cons (b:=u) rv vs,h=>by
  cases r with
  | bl b=>
   unfold uF at h;split at h
   ·rename_i j e;cases h;obtain⟨tr,l,g⟩:=qw rs vs e;obtain rfl:u=Value.bool b:=rv;refine⟨λi=>match i with | 0=>b | i+1=>tr i,λi v e=> ?_, ?_⟩
    ·cases i with
     | zero=>simp at e;exact e.symm
     | succ i=>exact l i v (by simpa using e)
    ·rw[ar,cA,b_,iu,← g];rfl
   ·cases h
  | _=>cases h
theorem qx (M:X.A.handled=none):ZB X (.builtin "all") (λy H Q=>∃l xs ts k,y=[.ref l]/\H l=some (.lst xs)/\zG H xs ts/\uF ts=some k/\Q (.bl k) H):=by
 intro x s S H y Z Q I g h;obtain⟨l,xs,ts,k,rfl,B,r,K,q⟩:=h;obtain⟨u,rfl,N⟩:=ZX g;obtain rfl:u=Value.ref l:=N;obtain⟨w,g,p,_⟩:=zS I (.inl B) r;obtain⟨tr,G,J⟩:=qw r g K;refine call_all_walk (cq p ?_);have f:=I.hok.lt B;have old:∀b o,s.heap.get? b=some o->(s.heap.push { cls:= .type "list_iterator",data:= .fields #[.ref l,.int 0 0] }).get? b=some o:=λb o e=>af _ e;refine⟨s.heap.objs.size,_,_,_,_,_,tr,rfl,dw (A:=X.A.in1) M _ l (aK f) w.toArray, ?_, ?_,λh' tk j => ?_⟩
 ·refine⟨?_,p.at λo e=>old _ o e⟩;exact⟨_,am _ rfl,rfl,rfl⟩
 ·intro i v U P O hi D;rw[G i v (by simpa using hi)]
  exact bf D
 ·rw[aD,J];refine⟨.bl k,H,I.kept (λb o e=>j b o ?_ (old b o e)),rfl,q⟩;simp;exact aK (ax e)
theorem Dh (u:X.A.handled=none)(f:Gl X "all")(i:X.mg "all"=none)(g:jn X Y a fa)(j:lX X a:=by exact lO rfl):Snd X Y (.Call (.Name "all" p) [a] [] pos) (lj X1 fa):=
 W2 (qx u) (λv t B H Q r o q=>by
  cases r with
  | @lst l xs ts h r=>
   have q:Po Y rC B H (match uF ts with | some k=> .ok _ | none=> .bad) Q:=q
   split at q
   ·rename_i k e;exact⟨l,xs,ts,k,rfl,h,r,e,lU o q rfl (.bl k)⟩
   ·exact q.elim
  | _=>exact q.elim) f i PyProof.Rows.Boot.«all» g j
end
inductive RS where
 | nx (ρ:En) | rt (t:T) | bk (ρ:En) | ct (ρ:En) | ex (c:Nat) | bad | rf (ts:List T)
noncomputable def R.s {d:Type}(r:R d)(k:d->RS):RS:=match r with
 | .ok a=>k a
 | .ex c=> .ex c
 | .bad=> .bad
def PoS (Y:Fx)(B:Hp)(r:RS)(D:V9):Prop:=match r with
 | .nx f =>∀σ' d e,zl B e ->SI Y e f σ' d ->D.nx σ' d
 | .rt t=>∀v d,zl Y.H0 d ->Rep (zL Y.B0 Y.H0 d) v t->D.rt v d
 | .bk f =>∀σ' d e,zl B e ->SI Y e f σ' d ->D.bk σ' d
 | .ct f =>∀σ' d e,zl B e ->SI Y e f σ' d ->D.ct σ' d
 | .ex c=>XP Y B c
 | .bad=>False
 | .rf ts=>∀a xs d e,zl Y.H0 d ->Y.H0 a=none->d a=some (.lst xs)->zG e xs ts->e a=none->zl e (zL Y.B0 Y.H0 d)->D.rt (.ref a) d
theorem PoS.up {r:RS}{D:V9}(s:zl B B')(h:PoS Y B r D):PoS Y B' r D:=by
 cases r with
 | nx ρ=>exact λσ' a e f I=>h σ' a e (s.trans f) I
 | bk ρ=>exact λσ' a e f I=>h σ' a e (s.trans f) I
 | ct ρ=>exact λσ' a e f I=>h σ' a e (s.trans f) I
 | rt t=>exact h
 | rf t=>exact h
 | ex c=>exact λd a g i=>h d a g (s.trans i)
 | bad=>exact h
def oh (Y:Fx)(f:En->RS)(ρ:En):TS:=λD a H=>∃B,SI Y B ρ a H/\PoS Y B (f ρ) D
structure wQ (X:Cx) (Y:Fx) (e:Stmt) (f:En->RS):Prop where
 mk ::
 go:∀ρ,PS X e (oh Y f ρ)
instance {X:Cx}{Y:Fx}{e:Stmt}{f:En->RS}:CoeFun (wQ X Y e f) λ_=>∀ρ,PS X e (oh Y f ρ):=⟨wQ.go⟩
structure w4 (X:Cx) (Y:Fx) (e:List Stmt) (f:En->RS):Prop where
 mk ::
 go:∀ρ,PSs X e (oh Y f ρ)
instance {X:Cx}{Y:Fx}{e:List Stmt}{f:En->RS}:CoeFun (w4 X Y e f) λ_=>∀ρ,PSs X e (oh Y f ρ):=⟨w4.go⟩
theorem JH {i j:Type}{g:Hp->Hp->j->i->Prop}{f:En->R i}{k:i->RS}{D:V9}{K:j->Hp->Prop}
  (I:SI Y B ρ σ H) (h:PoS Y B ((f ρ).s k) D)
  (n:∀a b d,f ρ= .ok a->zl H d->g (zL B H d) d b a->SI Y (zL B H d) ρ σ d->PoS Y (zL B H d) (k a) D->K b d):tS Y g f ρ σ H K:=by
 refine⟨B,I, ?_⟩;cases e:f ρ with
 | bad=>rw[e]at h;exact h
 | ex c=>rw[e]at h;exact h
 | ok a=>
  rw[e]at h;exact λb d s r=>n a b d e s r (I.grow s) (PoS.up (zL.ge I.sB s) h)
theorem zD {a:Type}{xs:List a}{x y:a}(h:(xs.set i x)[j]? =some y):(j=i/\y=x)\/(j ≠ i/\xs[j]? =some y):=by
 by_cases e:j=i
 ·subst e
  by_cases d:j < xs.length
  ·rw[ba d]at h;exact .inl ⟨rfl,(aI h).symm⟩
  ·rw[aY (by rw[bp];omega)]at h;cases h
 ·rw[aP (bI e)]at h;exact .inr ⟨e,h⟩
theorem UZ {a:Type}{xs:List a}{x y:a}(h:(xs.set i x)[i]? =some y):i < xs.length:=by
 by_cases d:i < xs.length
 ·exact d
 ·rw[aY (by rw[bp];omega)]at h;cases h
theorem StI.set {O:Addr->Option (Nat×Nat)}(x:StI Y B ρ σ H as O)(i:Nat)(s:Sl)(v:Option V)(l:s.isO=false)(p:∀ts,s ≠ .ow ts):StI Y B (ρ.set i s) (σ.set i v) H as O:=
 x.on (λj y hy h=>by
  rcases zD h with ⟨_,e⟩ | ⟨a,h'⟩
  ·rw[e,l]at hy;cases hy
  ·exact⟨h',aP (bI a)⟩) (zl.refl _) rfl rfl (zl.refl _) λb o k f g _=>⟨k,f,g,λok j d h=>by
  rcases zD h with ⟨_,e⟩ | ⟨a,h'⟩
  ·exact absurd e.symm (p d)
  ·rw[aP (bI a)];exact ok j d h'⟩
theorem SI.setV (I:SI Y B ρ σ H)(i:Nat)(r:Rep B v t):SI Y B (ρ.set i (.vl t)) (σ.set i (some v)) H where
 s0:=I.s0
 sH:=I.sH
 sB:=I.sB
 old:=I.old
 len:=by rw[bp,bp];exact I.len
 vl:=λj u h=>by
  rcases zD h with ⟨rfl,e⟩ | ⟨f,h'⟩
  ·cases e;exact⟨v,ba (by rw[← I.len];exact UZ h),r⟩
  ·obtain⟨w,e,l⟩:=I.vl j u h';exact⟨w,by rw[aP (bI f)];exact e,l⟩
 ow:=λj D h=>by
  rcases zD h with ⟨rfl,e⟩ | ⟨f,h'⟩
  ·cases e
  ·obtain⟨a,xs,e,p,y,G,l,d⟩:=I.ow j D h';refine⟨a,xs,by rw[aP (bI f)];exact e,p,y,G,l,λk M q K=> ?_⟩
   rcases zD K with ⟨rfl,J⟩ | ⟨o,g⟩
   ·cases J
   ·rw[aP (bI o)];exact d k M q g
 xc:=λj c h=>by
  rcases zD h with ⟨rfl,e⟩ | ⟨f,h'⟩
  ·cases e
  ·obtain⟨a,e,r⟩:=I.xc j c h';exact⟨a,by rw[aP (bI f)];exact e,r⟩
 st:=let ⟨as,O,x⟩:=I.st;⟨as,O,x.set i _ _ rfl (λ_=>Sl.noConfusion)⟩
theorem SI.newO (I:SI Y B ρ σ H)(i:Nat)(hp:H p=none)(r:zG B xs ts):SI Y B (ρ.set i (.ow ts)) (σ.set i (some (.ref p))) (lC H p (.lst xs)) where
 s0:=I.s0
 sH:=I.sH.trans (zl.new hp _)
 sB:=I.sB.trans (zl.new hp _)
 old:=I.old
 len:=by rw[bp,bp];exact I.len
 vl:=λj u h=>by
  rcases zD h with ⟨rfl,e⟩ | ⟨f,h'⟩
  ·cases e
  ·obtain⟨w,e,Q⟩:=I.vl j u h';exact⟨w,by rw[aP (bI f)];exact e,Q⟩
 ow:=λj v h=>by
  have op:∀k l a,ρ[k]? =some (Sl.ow l)->σ[k]? =some (some (V.ref a))->a ≠ p:=λk l a h1 S=>by
   obtain⟨a',D,e,_,_,P,_⟩:=I.ow k l h1;rw[e]at S;cases S;exact zH P hp
  rcases zD h with ⟨rfl,e⟩ | ⟨f,h'⟩
  ·cases e;refine⟨p,xs,ba (by rw[← I.len];exact UZ h),I.sB.free hp,I.sH.free hp,zB,r,λk l K J=> ?_⟩
   rcases zD J with ⟨rfl,Z⟩ | ⟨q,g⟩
   ·exact absurd rfl K
   ·rw[aP (bI q)];exact λz=>op k l p g z rfl
  ·obtain⟨a,D,e,M,N,P,Q,d⟩:=I.ow j v h';refine⟨a,D,by rw[aP (bI f)];exact e,M,N,by rw[zm (op j v a h' e)];exact P,Q,λk l K J=> ?_⟩
   rcases zD J with ⟨rfl,Z⟩ | ⟨q,g⟩
   ·rw[ba (by rw[← I.len];exact UZ J)]
    intro z;exact op j v a h' e (by injection z with z;injection z with z;injection z with z;exact z.symm)
   ·rw[aP (bI q)];exact d k l K g
 xc:=λj c h=>by
  rcases zD h with ⟨rfl,e⟩ | ⟨f,h'⟩
  ·cases e
  ·obtain⟨a,e,r⟩:=I.xc j c h';exact⟨a,by rw[aP (bI f)];exact e,r⟩
 st:=by
  obtain⟨X,O,x⟩:=I.st;refine⟨X,O,x.on (λj y hy h=> ?_) (zl.refl _) rfl rfl (zl.refl _) λb o U M N _=> ?_⟩
  ·rcases zD h with ⟨_,e⟩ | ⟨f,h'⟩
   ·subst e;cases hy
   ·exact⟨h',aP (bI f)⟩
  ·have G:b ≠ p:=zH U hp;refine⟨by rw[zm G];exact U,M,N,λok j v h=> ?_⟩
   rcases zD h with ⟨rfl,e⟩ | ⟨f,h'⟩
   ·rw[ba (by rw[← I.len];exact UZ h)]
    intro z;injection z with z;injection z with z;injection z with z;exact G z.symm
   ·rw[aP (bI f)];exact ok j v h'
theorem SI.chg (I:SI Y B ρ σ H)(i:Nat)(hi:ρ[i]? =some (.ow ts))(l:σ[i]? =some (some (.ref p)))(r:zG B ys J):SI Y B (ρ.set i (.ow J)) σ (lC H p (.lst ys)):=by
 obtain⟨p',xs,e,Q,S,hh,rr,d⟩:=I.ow i ts hi;rw[l]at e;cases e;have nb:∀b o,B b=some o->b ≠ p:=λb o h z=>by subst z;rw[Q]at h;cases h
 have n0:∀b o,Y.H0 b=some o->b ≠ p:=λb o h z=>by subst z;rw[S]at h;cases h
 refine⟨I.s0,λb o h=>by rw[zm (n0 b o h)];exact I.sH b o h,λb o h=>by rw[zm (nb b o h)];exact I.sB b o h,I.old,by rw[bp];exact I.len,λj u h=> ?_,λj U h=> ?_,λj c h=> ?_, ?_⟩
 rotate_right
 ·obtain⟨X,O,x⟩:=I.st;refine⟨X,O,x.on (λj y hy h=> ?_) (zl.refl _) rfl rfl (zl.refl _) λb o M D N cs=> ?_⟩
  ·rcases zD h with ⟨_,e⟩ | ⟨q,h'⟩
   ·subst e;cases hy
   ·exact⟨h',rfl⟩
  ·have f:b ≠ p:=λz=>by
    subst z;rcases cs with ⟨C,dx,w,ez⟩ | ok
    ·rw[hh]at M;cases M;cases ez
    ·exact ok i ts hi l
   refine⟨by rw[zm f];exact M,D,N,λok j J h=> ?_⟩
   rcases zD h with ⟨rfl,e⟩ | ⟨q,h'⟩
   ·rw[l];intro z;injection z with z;injection z with z;injection z with z;exact f z.symm
   ·exact ok j J h'
 rotate_right
 ·rcases zD h with ⟨rfl,z⟩ | ⟨q,h'⟩
  ·cases z
  ·exact I.xc j c h'
 ·rcases zD h with ⟨rfl,z⟩ | ⟨q,h'⟩
  ·cases z
  ·exact I.vl j u h'
 ·rcases zD h with ⟨rfl,z⟩ | ⟨q,h'⟩
  ·cases z;refine⟨p,ys,l,Q,S,zB,r,λk w v G=> ?_⟩;rcases zD G with ⟨rfl,Z⟩ | ⟨P,g⟩
   ·exact absurd rfl v
   ·exact d k w v g
  ·obtain⟨a,K,e,c0,g0,gg,ss,d'⟩:=I.ow j U h';have f:a ≠ p:=λz=>by subst z;exact d j U q h' e
   refine⟨a,K,e,c0,g0,by rw[zm f];exact gg,ss,λk w v G=> ?_⟩
   rcases zD G with ⟨rfl,Z⟩ | ⟨P,g⟩
   ·rw[l];intro z;injection z with z;injection z with z;injection z with z;exact f z.symm
   ·exact d' k w v g
noncomputable def W3:Sl->Sl
 | .ow ts=> .vl (.lst ts)
 | .ob _ _=> .un
 | .st _=> .un
 | x=>x
def frz (ρ:En):En:=ρ.map W3
theorem SI.up (I:SI Y B ρ σ H):zl B (zL B Y.H0 H):=λb o h=>by
 cases q:Y.H0 b with
 | none=>rw[zV q];exact I.sB b o h
 | some u=>rw[zW q];exact h
theorem SI.frz (I:SI Y B ρ σ H):SI Y (zL B Y.H0 H) (PV.frz ρ) σ H:=by
 have up:zl B (zL B _ H):=λb o h=>by
  cases q:Y.H0 b with
  | none=>rw[zV q];exact I.sB b o h
  | some u=>rw[zW q];exact h
 refine⟨I.s0,I.sH,λb o h=> ?_,λb o h=>by rw[zW h];exact I.old b o h,by unfold PV.frz;rw[ah];exact I.len,λj t h=> ?_,λj ts h=> ?_,λj c h=> ?_, ?_⟩
 rotate_right
 ·have no:∀(j:Nat) (y:Sl),y.isS=true->(PV.frz ρ)[j]? ≠ some y:=λj y hy h=>by
   unfold PV.frz at h;rw[av]at h;cases e:ρ[j]? with
   | none=>rw[e]at h;cases h
   | some x=>rw[e]at h;cases x <;> (cases h;cases hy)
  obtain⟨Q,O,x⟩:=I.st;refine⟨Y.as,λ_=>none,fq _,λi os e=>(no i _ rfl e).elim,λi j os l e=>(no i _ rfl e).elim,λi k n e=>(no i _ rfl e).elim,λi k fs h=> ?_,λi os e=>(no i _ rfl e).elim⟩;have h' :ρ[i]? =some (Sl.oc k fs):=by
   unfold PV.frz at h;rw[av]at h;cases e:ρ[i]? with
   | none=>rw[e]at h;cases h
   | some x=>rw[e]at h;cases x <;> (cases h;try rfl)
  obtain⟨a,C,J,N,f,p,K,M,w⟩:=x.oc i k fs h';exact⟨a,C,J,N,f,p,K,M,w.mono up (zl.refl _)⟩
 rotate_right
 ·unfold PV.frz at h;rw[av]at h;cases e:ρ[j]? with
  | none=>rw[e]at h;cases h
  | some x=>
   rw[e]at h;cases x with
   | xc d=>
    cases h;obtain⟨a,f,r⟩:=I.xc j _ e;exact⟨a,f,up a _ r⟩
   | un=>cases h
   | vl _=>cases h
   | ow _=>cases h
   | ob _ _=>cases h
   | oc _ _=>cases h
   | st _=>cases h
 ·cases q:Y.H0 b with
  | none=>rw[zV q]at h;exact h
  | some u=>rw[zW q]at h;exact I.sB b o h
 ·unfold PV.frz at h;rw[av]at h;cases e:ρ[j]? with
  | none=>rw[e]at h;cases h
  | some x=>
   rw[e]at h;cases x with
   | un=>cases h
   | vl u=>
    cases h;obtain⟨v,f,r⟩:=I.vl j _ e;exact⟨v,f,r.mono up⟩
   | ow g=>
    cases h;obtain⟨a,xs,f,S,D,G,P,_⟩:=I.ow j g e;exact⟨.ref a,f,.lst (by rw[zV D];exact G) (P.mono up)⟩
   | xc _=>cases h
   | ob _ _=>cases h
   | oc _ _=>cases h
   | st _=>cases h
 ·unfold PV.frz at h;rw[av]at h;cases e:ρ[j]? with
  | none=>rw[e]at h;cases h
  | some x=>
   rw[e]at h;cases x with
   | un=>cases h
   | vl u=>cases h
   | ow g=>cases h
   | xc _=>cases h
   | ob _ _=>cases h
   | oc _ _=>cases h
   | st _=>cases h
theorem X2 {Y:Fx}{B H a :Hp}(d:zl Y.H0 H)(old:∀b o,Y.H0 b=some o->B b=Y.B0 b)(s:zl H a)(e:zl B H):zl (zL B H a) (zL Y.B0 Y.H0 a):=λb o h=>by
 cases q:H b with
 | none=>
  rw[zV q]at h;rw[zV (d.free q)];exact h
 | some u=>
  rw[zW q]at h;cases z:Y.H0 b with
  | none=>rw[zV z];exact s b o (e b o h)
  | some w=>rw[zW z,← old b w z];exact h
section
variable {X:Cx}{Y:Fx}{a b c d:Expr}{fa fb fc fd:En->R T}{pos p:Pos}{st:Stmt}{sts sts' :List Stmt}{f g:En->RS}
def lq:En->RS:=λρ=> .nx ρ
def zi (f g:En->RS):En->RS:=λρ=>match f ρ with
 | .nx e =>g e
 | r=>r
theorem D8:w4 X Y [] lq:= .mk λρ=>PSs.imp k6 λD e H ⟨B,I,q⟩=>q e H B (zl.refl B) I
theorem F3 (h:wQ X Y st f):w4 X Y [st] f:= .mk λρ=>YI (h ρ)
theorem GQ (l:wQ X Y st f)(o:w4 X Y sts g):w4 X Y (st :: sts) (zi f g):= .mk λρ=>by
 refine PSs.imp (Vb (u:=λD j H=>∃i,oh Y g i D j H) (l ρ) ?_) ?_
 ·intro k s j H D I ⟨i,q⟩;exact o i _ s j H D I q
 ·intro D j H ⟨B,I,q⟩;refine⟨B,I, ?_⟩;unfold zi at q;cases e:f ρ with
  | nx i =>
   rw[e]at q;intro σ' x w v r;exact⟨i,w,r,PoS.up v q⟩
  | rt t=>rw[e]at q;exact q
  | rf t=>rw[e]at q;exact q
  | bk i =>rw[e]at q;exact q
  | ct i =>rw[e]at q;exact q
  | ex c=>rw[e]at q;exact q
  | bad=>rw[e]at q;exact q
def zr (i:Nat)(fa:En->R T):En->RS:=λρ=>(fa ρ).s λt=> .nx (ρ.set i (.vl t))
theorem GR (k:X.N.Nodup)(hi:X.N[i]? =some x)(r:L2.Loc X.env.scope x)(e:Snd X Y a fa)(j:swapsWith a (some (.Name x p')) pos.line X.env=pure false:=by rfl)
  (w:X.fn x=true\/X.env.scope.names.lookup x=some .local:=by first | exact .inl rfl | exact .inr rfl | assumption):wQ X Y (.Assign [.Name x p'] a pos) (zr i fa):= .mk λρ=>
 PS.imp (US k hi r (e ρ) j w) λD G H ⟨B,I,q⟩=>JH I q λt v y _ J o l u=>u _ _ _ (zl.refl _) (l.setV i o)
def wR (i:Nat)(e:En->R (List T)):En->RS:=λρ=>(e ρ).s λts=>if ts.length<=lB then .nx (ρ.set i (.ow ts)) else .bad
theorem GS (r:X.N.Nodup)(hi:X.N[i]? =some x)(v:L2.Loc X.env.scope x)(l:ul X Y es ga)(o:swapsWith (.List es p) (some (.Name x p')) pos.line X.env=pure false:=by rfl)
  (w:X.fn x=true\/X.env.scope.names.lookup x=some .local:=by first | exact .inl rfl | exact .inr rfl | assumption):wQ X Y (.Assign [.Name x p'] (.List es p) pos) (wR i ga):= .mk λρ=>
 PS.imp (US r hi v (xU (l ρ)) o w) λD G H ⟨B,I,q⟩=>JH I q λts J y _ K j u e=>by
  split at e
  ·rename_i k;exact⟨by rw[j.length];exact ZP k,λp hp=>e _ _ _ (zl.refl _) (u.newO i hp j)⟩
  ·exact e.elim
def zo (fa:En->R T):En->RS:=λρ=>(fa (frz ρ)).s λt=> .rt t
theorem Em (l:Snd X Y a fa):wQ X Y (.Return (some a) pos) (zo fa):= .mk λρ=>
 PS.imp (xR (l _)) λD o H ⟨B,I,q⟩=>by
  refine⟨_,I.frz, ?_⟩;unfold zo at q;cases e:fa _ with
  | bad=>rw[e]at q;exact q
  | ex c=>
   rw[e]at q;exact λd i k j=>q d i k (I.up.trans j)
  | ok t=>
   rw[e]at q;intro v i s r;have J:=I.frz;exact q v i (I.sH.trans s) (r.mono (X2 J.sH J.old s J.sB))
def lu (g:En->R Bool)(i e:En->RS):En->RS:=λρ=>(g ρ).s λk=>if k=true then i ρ else e ρ
theorem D1 (l:uk X Y c ga)(k:w4 X Y sts f)(o:w4 X Y sts' g):wQ X Y (.If c sts sts' pos) (lu ga f g):= .mk λρ=>
 PS.imp (Ej (l ρ) (k ρ) (o ρ)) λD w H ⟨B,I,q⟩=>JH I q λt v u _ x r i j=>by
  have e :=r;subst e;cases v with
  | true=>exact⟨_,i,j⟩
  | false=>exact⟨_,i,j⟩
def jP (fa:En->R T):En->RS:=λρ=>(fa ρ).s λ_=> .nx ρ
theorem GT (e:Snd X Y a fa)(i:swapsWith a none pos.line X.env=pure false:=by rfl):wQ X Y (.Expr a pos) (jP fa):= .mk λρ=>
 PS.imp (Ui (e ρ) i) λD o H ⟨B,I,q⟩=>JH I q λt v l _ u r j k=>k _ _ _ (zl.refl _) j
def uG (i:Nat)(fa:En->R T):En->RS:=λρ=>match ρ[i]? with
 | some (.ow ts)=>(fa ρ).s λt=>if ts.length < lB then .nx (ρ.set i (.ow (ts++[t]))) else .bad
 | _=> .bad
def Y5 (i:Nat)(fa:En->R T):En->RS:=λρ=>match ρ[i]? with
 | some (.ow ts)=>(fa ρ).s λt=>match t with
  | .lst e=>if ts.length+e.length<=lB then .nx (ρ.set i (.ow (ts++e))) else .bad
  | _=> .bad
 | _=> .bad
theorem GU (h:n < lB):n < sizeLine:=by exact h
theorem Ew (N:PE X (.Name x px) (Yz i))(J:Snd X Y a fa)(o:attributeBase (.Name x px) "append" X.env (eval (.Name x px) X.env)=eval (.Name x px) X.env:=by rfl)(k:lX X a:=by exact lO rfl)
  (G:(pa.endLine == p.line)=true:=by rfl) (M:swapsWith (.Call (.Attribute (.Name x px) "append" pa) [a] [] p) none pos.line X.env=pure false:=by rfl):wQ X Y (.Expr (.Call (.Attribute (.Name x px) "append" pa) [a] [] p) pos) (uG i fa):= .mk λρ=>by
 have j:(((((backTo p (starEach [a] X.env)).all λx=> !x.fst) && (backToKw p (keywordEach [] X.env)).all λx=>x.fst.isSome) && decide (([a].length+([]:List Keyword).length+if ([]:List Keyword).isEmpty=true then 0 else 1) < 30))=true):=by rw[k];rfl
 refine PS.imp (Ui (qb cY PySem.F.slot_list_append PySem.F.type_list_append uB N (zw (J ρ) zT k) o j G k rfl) M) λD Q H ⟨B,I,q⟩=> ?_;unfold uG at q;split at q
 ·rename_i ts e;obtain⟨l,xs,j,S,U,w,y,d⟩:=I.ow i ts e;refine⟨.ref l,j,.inl ⟨rfl,_,SqL.of w⟩, ?_⟩;refine JH I q λt v P _ u O K r=> ?_;split at r
  ·rename_i o;refine⟨l,xs,v,rfl,rfl,u _ _ w,by rw[y.length];exact GU o, ?_⟩
   exact r _ _ _ (zl.refl _) (K.chg i e j ((y.mono (zL.ge I.sB u)).append (.cons O .nil)))
  ·exact r.elim
 ·exact q.elim
theorem Fh (P:PE X (.Name x px) (Yz i))(M:Snd X Y a fa)(u:attributeBase (.Name x px) "extend" X.env (eval (.Name x px) X.env)=eval (.Name x px) X.env:=by rfl)(o:lX X a:=by exact lO rfl)
  (K:(pa.endLine == p.line)=true:=by rfl) (N:swapsWith (.Call (.Attribute (.Name x px) "extend" pa) [a] [] p) none pos.line X.env=pure false:=by rfl):wQ X Y (.Expr (.Call (.Attribute (.Name x px) "extend" pa) [a] [] p) pos) (Y5 i fa):= .mk λρ=>by
 have k:(((((backTo p (starEach [a] X.env)).all λx=> !x.fst) && (backToKw p (keywordEach [] X.env)).all λx=>x.fst.isSome) && decide (([a].length+([]:List Keyword).length+if ([]:List Keyword).isEmpty=true then 0 else 1) < 30))=true):=by rw[o];rfl
 refine PS.imp (Ui (qb cY PySem.F.slot_list_extend PySem.F.type_list_extend qc P (zw (M ρ) zT o) u k K o rfl) N) λD σ H ⟨B,I,q⟩=> ?_;unfold Y5 at q;split at q
 ·rename_i ts e;obtain⟨l,xs,k,b0,h0,G,J,d⟩:=I.ow i ts e;refine⟨.ref l,k,.inl ⟨rfl,_,SqL.of G⟩, ?_⟩;refine JH I q λt v Z _ y S w j=> ?_;cases S with
  | @lst b Q O u r=>
   have j:PoS Y _ (if ts.length+O.length<=lB then .nx _ else .bad) D:=j
   split at j
   ·rename_i U;refine⟨l,b,xs,Q,rfl,rfl,y _ _ G,w.sB _ _ u,by rw[J.length,r.length];exact ZP U, ?_⟩
    exact j _ _ _ (zl.refl _) (w.chg i e k ((J.mono (zL.ge I.sB y)).append r))
   ·exact j.elim
  | _=>exact j.elim
 ·exact q.elim
end
def spP (cl:Nat->Value)(n:Nat)(g:List T->R T):Sp:=λa H Q E=>∃B ts,ts.length=n/\zl B H/\zG B a ts/\Po ⟨B,H,E,cl,[]⟩ rC B H (g ts) Q
theorem spP.len (a:List V)(H:Hp)(Q:VK)(E:XK)(h:spP cl n g a H Q E):a.length=n:=by
 obtain⟨B,ts,d,_,r,_⟩:=h;rw[r.length,d]
def za (n:Nat)(g:List T->R T)(a:En->R (List T)):En->R T:=λρ=>(a ρ).bind λts=>if ts.length=n then g ts else .bad
section
theorem X3 (F:Jj X.prog X.w X.K X.mg X.base CX k f fd ps (spP Y.cl n g))(hr:ZY k X.A)(j:Gl X x)(r:X.mg x=some (.ref f))
  (kp:cG X.K (.ref f)=true) (u:L2.Binds X.K fd ps []) (y:Zq CX X Y.E) (o:ul X Y (a :: es) ga) (hd:(x == ("__debug__":Str))=false:=by decide)
  (v:starEach (a :: es) X.env=(false,eval a X.env) :: starEach es X.env:=by exact zU rfl) (l:((backTo pos (starEach es X.env)).any λx=>x.fst)=false:=by exact Zl rfl):Snd X Y (.Call (.Name x p) (a :: es) [] pos) (za n g ga):= .mk λρ=>
 PE.imp (Wn F hr j r kp u .nil y (o ρ) hd v l) λN H Q ⟨B,I,q⟩=>step I q λts P M _ O J i e=>by
  split at e
  ·rename_i hn;rw[bo];refine⟨_,ts,hn,i.sB,J, ?_⟩;revert e;cases g ts with
   | bad=>exact λe=>e
   | ex c=>exact λe d G s D=>e d G (i.sH.trans s) D
   | ok t=>exact λe=>e
  ·exact e.elim
end
noncomputable def zh:RS->R T
 | .rt t=> .ok t
 | .rf ts=> .ok (.lst ts)
 | .nx _=> .ok .non
 | .ex c=> .ex c
 | _=> .bad
def lm (n:Nat)(ts:List T):En:=ts.map Sl.vl++ai (n - ts.length) Sl.un
theorem zG.vl {H:Hp}:∀{a:List V} {ts:List T} {i:Nat} {t:T} {n m:Nat},zG H a ts->(ts.map Sl.vl++ai n Sl.un)[i]? =some (Sl.vl t)->∃v:V,(a.map some++ai m none)[i]? =some (some v)/\Rep H v t
 | _,_,i,t,n,m,.nil,h=>by
  simp only[ci,bN]at h;rw[aJ]at h;split at h
  ·cases h
  ·cases h
 | _,_,0,t,n,m,.cons r _,h=>by
  simp at h;subst h;exact⟨_,rfl,r⟩
 | _,_,i+1,t,n,m,.cons _ q,h=>by
  obtain⟨v,e,d⟩:=zG.vl q (by simpa using h)
  exact⟨v,by simpa using e,d⟩
theorem X5 {n:Nat}:∀{ts:List T} {i:Nat} {a:List T},(ts.map Sl.vl++ai n Sl.un)[i]? =some (Sl.ow a)->False
 | [],i,a,h=>by
  simp only[ci,bN]at h;rw[aJ]at h;split at h
  ·cases h
  ·cases h
 | t :: ts,0,a,h=>by simp at h
 | t :: ts,i+1,a,h=>X5 (by simpa using h)
theorem X6 {n:Nat}:∀{ts:List T} {i:Nat} {c:Nat},(ts.map Sl.vl++ai n Sl.un)[i]? =some (Sl.xc c)->False
 | [],i,a,h=>by
  simp only[ci,bN]at h;rw[aJ]at h;split at h
  ·cases h
  ·cases h
 | t :: ts,0,a,h=>by simp at h
 | t :: ts,i+1,a,h=>X6 (by simpa using h)
theorem qy {n:Nat}{x:Sl}(d:∀t,x ≠ .vl t)(a:x ≠ .un):∀{ts:List T} {i:Nat},(ts.map Sl.vl++ai n Sl.un)[i]? =some x->False
 | [],i,h=>by
  simp only[ci,bN]at h;rw[aJ]at h;split at h
  ·exact a (aI h).symm
  ·cases h
 | t :: ts,0,h=>d t (aI (by simpa using h)).symm
 | t :: ts,i+1,h=>qy d a (by simpa using h)
theorem SI.start {Y:Fx}{N:List Str}{d:List V}{ts:List T}(s:zl Y.B0 Y.H0)(r:zG Y.B0 d ts):SI Y Y.B0 (lm N.length ts) (L2.start N d) Y.H0 where
 s0:=s
 sH:=zl.refl _
 sB:=s
 old:=λ_ _ _=>rfl
 len:=by unfold lm L2.start;simp[r.length]
 vl:=λi t h=>r.vl h
 ow:=λi ts h=>(X5 h).elim
 xc:=λi c h=>(X6 h).elim
 st:=StI.no λi s a h=>qy (λt z=>by rw[z]at a;cases a) (λz=>by rw[z]at a;cases a) h
section
variable {P:Program}{w:World}{K:aj}{mg:Str->Option Value}{base:Heap}
theorem Do {cl:Nat->Value}{x d:Str}{st:Stmt}{f:Addr}{p:FuncData}{N j:List Str}{k n:Nat}{o:En->RS}{g:List T->R T}(F:Fun K x d st f p)(S:j2 N j (zf st))(hn:n=j.length)
  (J:∀(cdv:Value) (A:Around) (outer:List Env) (s:Shared) (H:Hp) (E:XK) (Y:Fx),Y.cl=cl->ZY k (A.deeper (envOfC d (zf st) s.heap.objs.size f cdv))->
   w4 (jO mw P w K mg base N d (zf st) f cdv A outer s H E).nox Y (zR st) o)
  (D:∀ts,ts.length=n->g ts=zh (o (lm N.length ts))):Jj P w K mg base mw (k+1) f p j (spP cl n g):=by
 subst hn;refine F.ok S spP.len λcdv A outer s H O Q E hr ⟨B,ts,M,u,r,q⟩=> ?_;refine⟨_,J cdv A _ s H E ⟨B,H,E,cl,[]⟩ rfl hr _,B,SI.start u r, ?_⟩;rw[D ts M]at q;revert q;cases o _ with
 | rt t=>exact λq v i s r=>q v i s r
 | rf t=>exact λq a xs i y G n e r _ l=>q _ i G (.lst (by rw[zV n];exact e) (r.mono l))
 | nx ρ=>exact λq σ' i y _ I=>q _ i I.sH .non
 | ex c=>exact λq=>q
 | bk ρ=>exact λq=>q.elim
 | ct ρ=>exact λq=>q.elim
 | bad=>exact λq=>q
end
abbrev rI:Hp->Hp->It->List T->Prop:=λB1 _ J ts=>∀B2 H2,zl B1 B2->zl B2 H2->(∀i,i < ts.length->J.go i H2)/\(∀(i:Nat) t x H3,ts[i]? =some t->J.yld i H2 x H3->zl H2 H3/\Rep (zL B2 H2 H3) x t)/\(∀i,ts.length<=i->J.stop i H2)
structure um (X:Cx) (Y:Fx) (tg iter:Expr) (f:En->R (List T)):Prop where
 mk ::
 go:∀ρ,PI X tg iter (tS Y rI f ρ)
instance {X:Cx}{Y:Fx}{tg iter:Expr}{f:En->R (List T)}:CoeFun (um X Y tg iter f) λ_=>∀ρ,PI X tg iter (tS Y rI f ρ):=⟨um.go⟩
section
theorem PI.imp (h:PI X tg e t)(i:∀a H Q,t' a H Q->t a H Q):PI X tg e t' :=λd s a H Q I q=>h _ s a H Q I (i a H Q q)
theorem GV {K:aj}{f k:Hp}{a:Addr}{xs:List V}{ts:List T}(h:f a=some (.tup xs))(r:zG f xs ts):rI f k (At K a) ts:=λl q j g=>by
 have d:=g _ _ (j _ _ h);refine⟨λi hi=> ?_,λi t x H3 e y=> ?_,λi hi=>⟨xs,SqT.of d,by rw[r.length];exact hi⟩⟩
 ·obtain⟨v,e,_⟩:=r.get (ak hi);exact⟨xs,v,SqT.of d,e⟩
 ·obtain⟨rfl,y⟩:=y;obtain⟨v,p,o⟩:=r.get e;have:=y xs (SqT.of d);rw[p]at this;cases this;refine⟨zl.refl _, ?_⟩;rw[zL.self l _ g];exact o.mono j
theorem GW {K:aj}{f k:Hp}{a:Addr}{xs:List V}{ts:List T}(h:f a=some (.lst xs))(r:zG f xs ts):rI f k (AE K a) ts:=λl q j g=>by
 have d:=g _ _ (j _ _ h);refine⟨λi hi=> ?_,λi t x H3 e y=> ?_,λi hi=>⟨xs,SqL.of d,by rw[r.length];exact hi⟩⟩
 ·obtain⟨v,e,_⟩:=r.get (ak hi);exact⟨xs,v,SqL.of d,e⟩
 ·obtain⟨rfl,y⟩:=y;obtain⟨v,p,o⟩:=r.get e;have:=y xs (SqL.of d);rw[p]at this;cases this;refine⟨zl.refl _, ?_⟩;rw[zL.self l _ g];exact o.mono j
noncomputable def rng (lo:Int)(n:Nat):List T:=(aU n).map λ(i:Nat)=>T.int (lo+(i:Int))
theorem X7 {f d:Hp}{lo:Int}{n:Nat}:rI f d (oQ lo n) (rng lo n):=λj k l g=>by
 have a:(rng lo n).length=n:=by unfold rng;simp
 refine⟨λi hi=>by rw[a]at hi;exact hi,λi t x H3 e y=> ?_,λi hi=>by rw[a]at hi;exact hi⟩
 obtain⟨rfl,rfl⟩:=y;refine⟨zl.refl _, ?_⟩;unfold rng at e;rw[av]at e
 by_cases hi:i < n
 ·rw[cW hi]at e;cases e;exact .int _
 ·rw[aY (by simp;omega)]at e;cases e
def zO (a:En->R T):En->R (List T):=λρ=>(a ρ).bind λt=>match t with
 | .int j=>if -1000000 < j/\j < 1000000 then .ok (rng 0 j.toNat) else .bad
 | _=> .bad
def JI (a d:En->R T):En->R (List T):=λρ=>(a ρ).bind λt=>(d ρ).bind λt' =>match t,t' with
 | .int i,.int j=>if -1000000 < i/\i < 1000000/\ -1000000 < j/\j < 1000000 then .ok (rng i (j - i).toNat) else .bad
 | _,_=> .bad
theorem GX (f:Gl X "range")(i:X.mg "range"=none)(g:Snd X Y a fa)(e:lX X a:=by exact lO rfl):um X Y tg (.Call (.Name "range" p) [a] [] pos) (zO fa):= .mk λρ=>PI.imp (YM f i (zw (g ρ) zT e) e) λr H R ⟨B,I,q⟩=>step I q λt v k _ u o l d=>by
 cases o with
 | int j=>
  have d:Po Y rI _ k (if -1000000 < j/\j < 1000000 then .ok _ else .bad) R:=d
  split at d
  ·exact⟨j,rfl,by omega,by omega,ZL l d X7⟩
  ·exact d.elim
 | _=>exact d.elim
theorem GY (k:Gl X "range")(r:X.mg "range"=none)(o:Snd X Y a fa)(l:Snd X Y b fb)(f:starEach [a,b] X.env=[(false,eval a X.env),(false,eval b X.env)]:=by exact mq rfl rfl)(e:lX X b:=by exact lO rfl):um X Y tg (.Call (.Name "range" p) [a,b] [] pos) (JI fa fb):= .mk λρ=>
 PI.imp (YN k r (zw (o ρ) (zw (l ρ) zT e) (by rw[f,e])) f e) λK H R ⟨B,I,q⟩=>step I q λt v J _ N x w y=>step w y λt' M u _ G g D d=>by
  cases x with
  | int i=>
   cases g with
   | int j=>
    have d:Po Y rI _ u (if -1000000 < i/\i < 1000000/\ -1000000 < j/\j < 1000000 then .ok _ else .bad) R:=d
    split at d
    ·exact⟨i,j,rfl,⟨by omega,by omega,by omega,by omega⟩,ZL D d X7⟩
    ·exact d.elim
   | _=>exact d.elim
  | _=>cases g <;> exact d.elim
def GZ (X:Cx)(Y:Fx)(e:Expr)(g:T->En->R En):Prop:=∃t:TG,PG X e t/\∀B ρ d H v x Q,SI Y B ρ d H->Rep B v x->(match g x ρ with | .ok a =>∀σ',SI Y B a σ' H->Q σ' H | _=>False)->t v d H Q
def zq (i:Nat):T->En->R En:=λt ρ=> .ok (ρ.set i (.vl t))
theorem X8 (a:X.N.Nodup)(hi:X.N[i]? =some x)(d:L2.Loc X.env.scope x)(e:X.fn x=true\/X.env.scope.names.lookup x=some .local:=by first | exact .inl rfl | exact .inr rfl | assumption):GZ X Y (.Name x pos) (zq i):=
 ⟨wM i,jN a hi d e,λB ρ f H v x Q I r q=>q _ (I.setV i r)⟩
def zX (i j:Nat):T->En->R En:=λt ρ=>match t with
 | .tup [x,y]=> .ok ((ρ.set i (.vl x)).set j (.vl y))
 | _=> .bad
theorem X9 (f:X.calm=true)(e:X.N.Nodup)(hi:X.N[i]? =some x)(g:X.N[j]? =some y)(p:L2.Loc X.env.scope x)(hy:L2.Loc X.env.scope y)
  (u:X.fn x=true\/X.env.scope.names.lookup x=some .local:=by first | exact .inl rfl | exact .inr rfl | assumption) (a :X.fn y=true\/X.env.scope.names.lookup y=some .local:=by first | exact .inl rfl | exact .inr rfl | assumption):
  GZ X Y (.Tuple [.Name x pos,.Name y p'] k p2) (zX i j):=by
 refine⟨sk X.K 2 _,xS f (JM (jN e hi p u) (JM (jN e g hy a) YK)),λB ρ D H v t Q I r q=> ?_⟩;cases r with
 | @tup l xs ts h r=>
  cases r with
  | nil=>exact q.elim
  | cons o d=>
   cases d with
   | nil=>exact q.elim
   | cons w d=>
    cases d with
    | cons _ _=>exact q.elim
    | nil=>
     exact⟨l,_,rfl,SqT.of (I.sB _ _ h),rfl,_,_,rfl,_,_,rfl,rfl,q _ ((I.setV i o).setV j w)⟩
 | _=>exact q.elim
def Zv (g:T->En->R En)(e:En->RS):List T->En->RS
 | [],ρ=> .nx ρ
 | t :: ts,ρ=>match g t ρ with
  | .ok d=>match e d with
   | .nx a=>Zv g e ts a
   | .ct a=>Zv g e ts a
   | .bk a=> .nx a
   | r=>r
  | .ex c=> .bad
  | .bad=> .bad
def j5 (fi:En->R (List T))(g:T->En->R En)(a:En->RS):En->RS:=λρ=>(fi ρ).s λts=>Zv g a ts ρ
theorem Cp {g:T->En->R En}(hp:PassesOwn (model X.prog X.w) X.A X.env X.xe)(hc:X.calm=true)(hi:um X Y tg iter fi)(hg:GZ X Y tg g)(hb:w4 X Y sts fb)
  (hs:∀x,foldedSetIterable iter X.env x=pure x:=by intro _;rfl):wQ X Y (.For tg iter sts [] pos) (j5 fi g fb):= .mk λρ=>by
 obtain⟨tG,hG,U⟩:=hg;refine PS.imp (Gc (tb:=λD P H=>∃a,oh Y fb a D P H) hp hc (hi ρ) hG (λpins s P H D I ⟨a,q⟩=>hb a _ s P H D I q) hs) λD P H ⟨B,I,q⟩=> ?_;refine JH I q λts J H1 _ s1 r1 I1 q1=> ?_;refine⟨λi m σ' Q =>m=ts.length - i/\i<=ts.length/\∃a o,SI Y o a σ' Q /\zl _ o /\PoS Y o (Zv g fb (ts.drop i) a) D,⟨ts.length,by simp,bn _,ρ,_,I1,zl.refl _,q1⟩, ?_⟩
 rintro i m σ' Q ⟨rfl,hi,a,o,M,u,j⟩
 obtain⟨S,K,l⟩:=r1 o Q u M.sB
 by_cases k:i < ts.length
 ·refine .inr ⟨S i k,λN r=>∃f G,SI Y G f N r/\zl _ G/\PoS Y G _ D,λN r ⟨f,G,I2,p,d⟩=>⟨ts.length - (i+1),by omega,rfl,k,f,G,I2,p,d⟩,λx r y=> ?_⟩
  obtain⟨p,r2⟩:=K i _ x r (ak k) y;rw[cb k]at j;unfold Zv at j;refine U _ a σ' r x _ _ (M.grow p) r2 ?_;cases eg:g _ a with
  | bad=>rw[eg]at j;exact j
  | ex c=>rw[eg]at j;exact j
  | ok O=>
   rw[eg]at j;intro σ1 J1;refine⟨O,_,J1, ?_⟩;have d:=PoS.up (zL.ge M.sB p) j;dsimp only at d;have s3:=u.trans (zL.ge M.sB p);revert d;cases fb O with
   | nx f=>exact λd σ3 H3 Z v I3=>⟨f,Z,I3,s3.trans v,PoS.up v d⟩
   | ct f=>exact λd σ3 H3 Z v I3=>⟨f,Z,I3,s3.trans v,PoS.up v d⟩
   | bk f=>exact λd=>d
   | rt t=>exact λd=>d
   | rf t=>exact λd=>d
   | ex c=>exact λd=>d
   | bad=>exact λd=>d
 ·have e:i=ts.length:=by omega
  subst e;rw[fE]at j;exact .inl ⟨l _ (ao _),j σ' Q o (zl.refl _) M⟩
def Zr (g:En->R Bool)(d:En->RS):Nat->En->RS
 | 0,_=> .bad
 | n+1,ρ=>(g ρ).s λk=>if k=true then match d ρ with
   | .nx a=>Zr g d n a
   | .ct a=>Zr g d n a
   | .bk a=> .nx a
   | r=>r
  else .nx ρ
theorem qz (hp:PassesOwn (model X.prog X.w) X.A X.env X.xe)(M:uk X Y c ga)(O:w4 X Y sts fb):wQ X Y (.While c sts [] pos) (Zr ga fb n):= .mk λρ=>by
 refine PS.imp (Vc (tc:=λf H Q=>∃a,tS Y rE ga a f H Q) (tb:=λD f H=>∃a,oh Y fb a D f H) hp (λg s f H D I ⟨a,q⟩=>M a _ s f H D I q) (λg s f H D I ⟨a,q⟩=>O a _ s f H D I q)) λD f H ⟨B,I,q⟩=> ?_;refine⟨λm σ' J =>∃a p,SI Y p a σ' J /\PoS Y p (Zr ga fb m a) D,⟨n,ρ,B,I,q⟩, ?_⟩
 rintro m σ' J ⟨a,p,N,j⟩
 cases m with
 | zero=>exact j.elim
 | succ m=>
  unfold Zr at j;refine⟨a,JH N j λt v S _ U P G K=> ?_⟩;have o :=P;subst o;cases v with
  | false=>exact K _ _ _ (zl.refl _) G
  | true=>
   refine⟨λi y=>∃e x,SI Y x e i y/\PoS Y x _ D,λi y h=>⟨m,eF m,h⟩,a,_,G, ?_⟩;revert K;cases fb a with
   | nx e=>exact λd r H3 l u k=>⟨e,l,k,PoS.up u d⟩
   | ct e=>exact λd r H3 l u k=>⟨e,l,k,PoS.up u d⟩
   | bk e=>exact λd=>d
   | rt t=>exact λd=>d
   | rf t=>exact λd=>d
   | ex c=>exact λd=>d
   | bad=>exact λd=>d
end
theorem w8:∀(ns:List (Str×NameKind)) (acc:List (Str×Addr)),(∀x∈ns,x.2=NameKind.free->∃c,env.cells.lookup x.1=some c)->(∀x c,acc.lookup x=some c->env.cells.lookup x=some c)->
  ∃cl,(forIn ns acc (λ(x:Str×NameKind) (r:List (Str×Addr))=>if (x.2 == NameKind.free)=true then (do let c ← cellOf env x.1;pure (ForInStep.yield ((x.1,c) :: r))) else pure (ForInStep.yield r)):Sem _)=pure cl/\
   (∀x c,cl.lookup x=some c->env.cells.lookup x=some c)/\(∀x c,acc.lookup x=some c->∃w,cl.lookup x=some w)/\(∀x∈ns,x.2=NameKind.free->∃c,cl.lookup x.1=some c)
 | [],acc,_,h=>⟨acc,rfl,h,λx c e=>⟨c,e⟩,λx a=>by simp at a⟩
 | (n,k) :: ns,acc,p,h=>by
  by_cases i:k=NameKind.free
  ·obtain⟨c,u⟩:=p _ ag i;have h' :∀x d,((n,c) :: acc).lookup x=some d->env.cells.lookup x=some d:=λx d e=>by
    by_cases a:x=n
    ·subst a;have j :=by simpa[aM] using e
     cases j;exact u
    ·have j :=by
      rw[aM,(beq_eq_false_iff_ne.mpr a)]at e;exact e
     exact h x d j
   obtain⟨cl,e,l,g,o⟩:=w8 ns _ (λx a=>p x (ac _ a)) h';refine⟨cl, ?_,l,λx d v=> ?_,λx a f=> ?_⟩
   ·rw[j_];subst i;have q:cellOf env n=pure c:=by unfold cellOf;rw[u]
    simp only[beq_self_eq_true,if_true,q];exact e
   ·by_cases a:x=n
    ·subst a;exact g x c (by simp[aM])
    ·exact g x d (by rw[aM,(beq_eq_false_iff_ne.mpr a)];exact v)
   ·rcases aq.mp a with rfl | a
    ·exact g n c (by simp[aM])
    ·exact o x a f
  ·obtain⟨cl,e,l,g,o⟩:=w8 ns acc (λx a=>p x (ac _ a)) h;refine⟨cl, ?_,l,g,λx a f=> ?_⟩
   ·rw[j_];have q:(k == NameKind.free)=false:=by simpa using i
    simp only[q,aB,if_false];exact e
   ·rcases aq.mp a with rfl | a
    ·exact absurd f i
    ·exact o x a f
theorem Uo (f:∀x∈scope.names,x.2=NameKind.free->∃c,env.cells.lookup x.1=some c):
  ∃cl,closureFor scope env=pure cl/\(∀x c,cl.lookup x=some c->env.cells.lookup x=some c)/\(∀x∈scope.names,x.2=NameKind.free->∃c,cl.lookup x.1=some c):=by
 obtain⟨cl,e,d,_,a⟩:=w8 _ [] f (λx c e=>by simp at e)
 refine⟨cl, ?_,d,a⟩;unfold closureFor;exact(by simpa using e)
def nR (X:Cx)(scope:Scope)(N' :List Str)(cl:List (Str×Addr))(C:Addr)(d:Shared)(H3:Hp)(fp:List Addr)(a:List (Addr×Obj)):Cx:=
 { X with N:=N',s₀:=d,H₀:=H3,env:=compEnvC scope cl C X.env,outer:=X.stack,stack:=X.stack,ex:=fp,fn:=λ_=>false,pn:=X.pn++a,xe:=λ_ _=>False }
structure sL (X:Cx) (scope:Scope):Prop where
 kind:scope.kind= .function
 nocell:∀x∈scope.names,x.2 ≠ .cell
 loc:∀x∈scope.names,x.2= .local->scope.names.lookup x.1=some .local
 fre:∀x∈scope.names,x.2= .free->X.env.kindOf x.1=some .cell\/X.env.kindOf x.1=some .free
theorem Ja (h:(relabel scope env).names.lookup x=some k)(g:k= .cell\/k= .free)(hn:∀x∈scope.names,x.2 ≠ NameKind.cell):∃y∈scope.names,y.1=x/\y.2= .free:=by
 have go:∀ns:List (Str×NameKind),(∀x∈ns,x.2 ≠ NameKind.cell)->(ns.map λ(n,k)=>if (k == NameKind.free && env.scope.kind == .function && env.kindOf n == some .cell) then (n,NameKind.cell) else (n,k)).lookup x=some k->∃y∈ns,y.1=x/\y.2= .free:=by
  intro ns
  induction ns with
  | nil=>intro _ h;simp at h
  | cons y ns l=>
   intro hn h;obtain⟨n,e⟩:=y
   by_cases f:x=n
   ·subst f;refine⟨(x,e),ag,rfl, ?_⟩;rw[aF]at h
    by_cases a:(e == NameKind.free && env.scope.kind == .function && env.kindOf x == some .cell)=true
    ·rw[ae,ae]at a;exact eq_of_beq a.1.1
    ·simp only[if_neg a,aM,beq_self_eq_true]at h;cases h;rcases g with rfl | rfl
     ·exact absurd rfl (hn _ ag)
     ·rfl
   ·obtain⟨z,d,i,j⟩:=l (λz d=>hn z (ac _ d)) (by
     rw[aF]at h
     by_cases a:(e == NameKind.free && env.scope.kind == .function && env.kindOf n == some .cell)=true
     ·simp only[if_pos a,aM,(beq_eq_false_iff_ne.mpr f)]at h;exact h
     ·simp only[if_neg a,aM,(beq_eq_false_iff_ne.mpr f)]at h;exact h)
    exact⟨z,ac _ d,i,j⟩
 exact go _ hn h
section
theorem qA (I:L2.Inv X pins σ H s)(S:sL X scope)(hc:X.calm=true)
  (a:∀x c,cl.lookup x=some c->X.env.cells.lookup x=some c) (G:∀x∈scope.names,x.2=NameKind.free->∃c,cl.lookup x.1=some c)
  (g:∀b∈fp,Jh X pins H b) (hfo:∀b∈fp,∃o,s.heap.get? b=some o)
  (P:h'.Ns s.heap.objs.size (λ_=>none)) (M:∀b o,s.heap.get? b=some o->h'.get? b=some o)
  (hl:σ'.length=N'.length) (hσ:∀(i:Nat) (x:Str) (v:V),N'[i]? =some x->σ'[i]? =some (some v)->∃j:Nat,X.N[j]? =some x/\σ[j]? =some (some v)/\ov X.env.scope x/\(scope.names.lookup x=some .free)/\(X.env.kindOf x=some .cell\/X.env.kindOf x=some .free)):
  L2.Inv (nR X scope N' cl s.heap.objs.size s H fp pins) [] σ' H { s with heap:=h',toks:=tk }:=by
 have B:=I.stkSub;have O:=λb f=>let ⟨o,e⟩:=hfo b f;ax e;have fresh:=I.hok.fresh (ao _);refine⟨⟨I.ok.mod,S.kind,I.ok.glob,I.ok.blt,ao _,λx y c h1 h2=>I.ok.inj x y c (a _ _ h1) (a _ _ h2),λx r=> ?_,λx c h _=>(aA h).elim,λ_=>I.ok.hd hc,I.ok.frames,.inl rfl,λb f=> ?_,I.bs,
   ay I.ok.bsz I.sz,λb o e f=> ?_,λb f hb' => ?_,I.stack,I.stkFree⟩,rfl,I.bare,Un.kept M,⟨_,P,λi x v h1 h2 h3=> ?_⟩,λx c e=> ?_,fresh,λx c e=>I.freeC x c (a _ _ e),λp hp=> ?_,I.hok.kept M,hl⟩
 ·have Z :=r;obtain⟨y,hy,rfl,hyf⟩:∃y∈scope.names,y.1=x/\y.2= .free:=by
   rcases Z with h | h
   ·exact Ja h (.inl rfl) S.nocell
   ·exact Ja h (.inr rfl) S.nocell
  exact G y hy hyf
 ·refine⟨aK (O b f),λx c e=>(g b f).2.2.2.2.1 x c (a _ _ e)⟩
 ·rcases(g b f).2.2.2.1 with h | h
  ·exact I.ok.noex b o e h
  ·exact absurd (aN (ax e) (ay I.ok.bsz h)) (bj _)
 ·have q:=g b f;rcases aq.mp (B b hb') with z | z
  ·exact q.2.1 z
  ·exact q.2.2.1 z
 ·obtain⟨j,e1,e2,e3,e4,e5⟩:=hσ i x v h1 h2;obtain⟨m,hn,D⟩:=I.loc;obtain⟨u,ru,lk⟩:=D j x v e1 e2 e3;refine⟨u,ru,.inr ⟨?_, ?_⟩⟩
  ·rcases h3 with h | h | h
   ·exfalso;have:∀ns:List _,ns.lookup x=some .free->(ns.map λ(n,k)=>if (k == NameKind.free && X.env.scope.kind == .function && X.env.kindOf n == some .cell) then (n,NameKind.cell) else (n,k)).lookup x ≠ some .local:=by
     intro ns
     induction ns with
     | nil=>intro z;simp at z
     | cons y ns ih=>
      obtain⟨n,k⟩:=y;intro z w;rw[aF]at w
      by_cases r:x=n
      ·subst r;have hkf:=by simpa[aM] using z
       by_cases d:(k == NameKind.free && X.env.scope.kind == .function && X.env.kindOf x == some .cell)=true
       ·simp only[if_pos d,aM,beq_self_eq_true]at w;cases w
       ·simp only[if_neg d,aM,beq_self_eq_true]at w;rw[hkf]at w;cases w
      ·have z' :=by rw[aM,(beq_eq_false_iff_ne.mpr r)]at z;exact z
       refine ih z' ?_
       by_cases d:(k == NameKind.free && X.env.scope.kind == .function && X.env.kindOf n == some .cell)=true
       ·simp only[if_pos d,aM,(beq_eq_false_iff_ne.mpr r)]at w;exact w
       ·simp only[if_neg d,aM,(beq_eq_false_iff_ne.mpr r)]at w;exact w
    exact this _ e4 h
   ·exact .inl h
   ·exact .inr h
  ·rcases lk with ⟨J,_⟩ | ⟨_,c,U,l⟩
   ·rcases e5 with z | z <;> (rw[z]at J;cases J)
   ·obtain⟨c',K⟩:=G _ (bu e4) rfl;have:=a x c' K;rw[U]at this;cases this;obtain⟨o,eo,ed⟩:=l;exact⟨c,K,o,M _ _ eo,ed⟩
 ·obtain⟨v,o,eo,ed⟩:=I.cell x c (a _ _ e);exact⟨v,o,M _ _ eo,ed⟩
 ·have Q :=by
   have:=hp;rwa[bo]at this
  obtain⟨e,n,ne,nf,dc⟩:=I.pin p Q;refine⟨M _ _ e,n,aK (ax e),λf=> ?_,dc⟩;rcases aq.mp (B _ f) with z | z
  ·exact ne z
  ·exact nf z
end
def PIf (X:Cx)(e:List Expr)(t:TT):Prop:=
 ∀(a:List (Addr×Obj)) (s:Shared) (d:Sg) (H:Hp) (Q:Bool->Hp->Prop),L2.Inv X a d H s->t d H Q->
  wpAny (model X.prog X.w) X.A (forIn e true λc r=>if r=true then do let ok ← isTrue c X.env (eval c X.env);pure (ForInStep.yield ok) else pure (ForInStep.yield r)) (TP X a d Q) X.xe s
theorem kQ:PIf X [] (λ_ H Q=>Q true H):=λ_ _ a H _ I h=>wpAny_tests_nil ⟨H,I,h⟩
theorem kR (h:PT X c t):PIf X [c] t:=λa s d H Q I q=>wpAny_tests_one (h _ s d H Q I q)
noncomputable abbrev XE (X:Cx)(xe:Value->Shared->Prop):Cx:={ X with xe:=xe }
theorem y0 (I:L2.Inv X pins σ H s):L2.Inv (XE X xe) pins σ H s:=
 ⟨⟨I.ok.mod,I.ok.kind,I.ok.glob,I.ok.blt,I.ok.above,I.ok.inj,I.ok.has,I.ok.cab,I.ok.hd,I.ok.frames,I.ok.stk,I.ok.exf,I.ok.bs,I.ok.bsz,I.ok.noex,I.ok.exfs,I.ok.funs,I.ok.frf⟩,I.os,I.bare,I.base,I.loc,I.cell,I.free,I.freeC,I.pin,I.hok,I.len⟩
theorem qB (I:L2.Inv (XE X xe) pins σ H s):L2.Inv X pins σ H s:=(y0 I:L2.Inv _ _ σ H s)
theorem Fu (j:X.xe=λ_ _=>False)(h:PG X e t):PG (XE X xe) e t:=λa s g H v u Q I r q=>bV (h _ s g H v u Q (qB I) r q) (λ_ k ⟨σ',f,i,d⟩=>⟨σ',f,y0 i,d⟩) λe k z=>by rw[j]at z;exact z.elim
theorem Df (j:X.xe=λ_ _=>False)(h:PIf X e t):PIf (XE X xe) e t:=λa s g H Q I q=>bV (h _ s g H Q (qB I) q) (λ_ k ⟨f,i,d⟩=>⟨f,y0 i,d⟩) λe k z=>by rw[j]at z;exact z.elim
theorem y3 {a:Type}{m:Sem a}{Q:a->Shared->Prop}(hE:∀e d,E' e d ->E e d)(h:wpAny M A m Q E' s):wpAny M A m Q E s:=bV h (λ_ _ q=>q) hE
def Y6 (J:It)(D:Addr)(g:TG)(tt:TT)(te:TE)(f:Sg->Hp->Prop)(W:Nat->Nat->List V->Sg->Hp->Prop):Prop:=
 ∀i m ys e H,W i m ys e H->H D=some (.lst ys)/\((J.stop i H/\f e H)\/(J.go i H/\∀x l,J.yld i H x l->g x e l λa H3=>tt a H3 λk j=>
  if k=true then te a j λv o=>o D=some (.lst ys)/\ys.length < sizeLine/\∃d,d < m/\W (i+1) d (ys++[v]) a (lC o D (.lst (ys++[v]))) else ∃d,d < m/\W (i+1) d ys a j))
theorem uH {X:Cx}{R:Result->Shared->Prop}(hx:∀e G,X.xe e G ->notedBy (model X.prog X.w) X.A X.env (λe G =>R (.error e) G) e G)(hc:X.calm=true){tg iter U:Expr}{ifs:List Expr}{scope:Scope}{pos:Pos}{J:It}{fp:List Addr}{it:Addr}{tn:Nat->Heap->Prop}(Q:yQ X.prog X.w X.K tg J fp it tn)
  {g:TG} {tt:TT} {te:TE} (hg:PG X tg g) (ht:PIf X ifs tt) (he:PE X U te) {D:Addr} {fin:Sg->Hp->Prop} (W:Nat->Nat->List V->Sg->Hp->Prop) (turn:Y6 J D g tt te fin W)
  (hR:∀s σ H,L2.Inv X [] σ H s->fin σ H->R (.ok .next) s) {m0:Nat} {N:Sg} {H0:Hp} {s0:Shared} (w0:W 0 m0 [] N H0) (I0:L2.Inv X [] N H0 s0) (t0:tn 0 s0.heap) (f0:∀b∈fp,Jh X [] H0 b):
  codeAny (model X.prog X.w) X.A (.compLoop (.ListComp U [⟨tg,iter,ifs,0⟩] scope pos) 0 (.ref it) (.ref D) X.env) R s0:=by
 have f:∀{j :Hp},(∀b∈fp,j b=none)->∀b∈fp,Jh X [] j b:=λhn b l=>⟨hn b l,(f0 b l).2⟩;refine codeAny_loop rfl (λn G =>∃i ys σ' j,L2.Inv X [] σ' j G /\tn i G.heap/\(∀b∈fp,j b=none)/\W i n ys σ' j) (λn s3 h3=> ?_) m0 ⟨0,[],N,H0,I0,t0,λb l=>(f0 b l).1,w0⟩;obtain⟨i,ys,a,H3,I3,st3,fr3,w3⟩:=h3;show wpAny _ X.A ((compTurn _ 0 _ _ _).onRaise (λx=>do noteFrame x _;theTreesLotGoes x)) _ _ s3
 refine wpAny_noted ?_;obtain⟨hD,h⟩:=turn i n ys a H3 w3;rcases h with ⟨stop,qn⟩ | ⟨go,next⟩
 ·refine aa (wpAny_standAt (aa (lz (Q.done X rfl rfl rfl hc i [] s3 a H3 _ I3 (f fr3) st3 stop) λr s4 ⟨hr,I4⟩=> ?_)));subst hr;exact aw (hR s4 a H3 I4 qn)
 ·refine aa (wpAny_standAt (aa (lz (Q.item X rfl rfl rfl hc i [] s3 a H3 _ I3 (f fr3) st3 go) λr s4 ⟨u,hr,h4⟩=> ?_)));subst hr;refine aa (lz h4 λ_ s5 ⟨x,H5,I5,r5,y5,B,fr5⟩=> ?_);have I5' :=I5.pinned (f fr5) (Q.obj _ _ B);refine aa (y3 hx (lz (hg _ s5 a H5 x u _ I5' r5 (next x H5 y5)) λ_ s6 ⟨p,H6,I6,q6⟩=> ?_));have again:∀{q:Sg} {O:Hp} {Z:Shared} {I :List V},L2.Inv X _ q O Z->(∃M,M < n/\W (i+1) M I q O)->∃m,m < n/\∃i ys σ' j,L2.Inv X [] σ' j Z/\tn i _/\(∀b∈fp,j b=none)/\W i m ys σ' j :=λ{q O Z I} P ⟨M,hm,w7⟩=>by
   refine⟨M,hm,i+1,I,q,O,P.unpinned,Q.keep _ _ _ B λb l o e=>(P.pin _ (aL _ (aL _ (jy l e)))).1,λb l=> ?_,w7⟩;obtain⟨o,e,d⟩:=Q.obj _ _ B b l;exact(P.pin _ (aL _ (aL _ (jy l e)))).2.1
  refine aa (y3 hx (lz (ht _ s6 p H6 _ I6 q6) λk Z ⟨O,P,q7⟩=> ?_));cases k with
  | false=>exact aw ⟨rfl,again P q7⟩
  | true=>
   refine aa (aa (y3 hx (lz (he _ Z p O _ P q7) λv s8 ⟨y,H8,I8,r8,hD8,S,q8⟩=> ?_)));refine aa (y3 hx (lz (uB _ s8 p H8 (.ref D) [y] _ [v] (λ_ H9=>∃M,M < n/\W _ M _ p H9) I8 rfl (.cons r8 .nil) ⟨D,ys,y,rfl,rfl,hD8,S,q8⟩) λw s9 ⟨_,H9,I9,_,q9⟩=> ?_));exact aw (aw ⟨rfl,again I9 q9⟩)
def Wy (k:Nat)(js:List Nat)(a:Sg):Sg:=ai k none++js.map λj=>(a[j]?).getD none
section
abbrev Xa (X:Cx)(scope:Scope)(N' :List Str)(P:Cx->Prop):Prop:=∀cl C s3 H3 fp pins,P (nR X scope N' cl C s3 H3 fp pins)
abbrev rd (X:Cx)(scope:Scope)(N' :List Str)(E:XK)(P:Cx->Prop):Prop:=∀cl C s3 H3 fp pins xe,Zq (lE X.prog X.w) (XE (nR X scope N' cl C s3 H3 fp pins) xe) E->P (XE (nR X scope N' cl C s3 H3 fp pins) xe)
structure gL (X:Cx) (scope:Scope) (N' :List Str) (k:Nat) (js:List Nat):Prop where
 len:N'.length=k+js.length
 cap:∀(i j:Nat),js[i]? =some j->∃x,N'[k+i]? =some x/\X.N[j]? =some x/\ov X.env.scope x/\scope.names.lookup x=some .free/\(X.env.kindOf x=some .cell\/X.env.kindOf x=some .free)
theorem Wz (hp:Gy X E){js:List Nat}{use:Option (Value->Sem Unit)}(S:sL X scope)(CP:gL X scope N' k js)(hc:X.calm=true)
  (hi:PI X tg iter wi) (hg:Xa X scope N' λXC=>PG XC tg g) (ht:Xa X scope N' λXC=>PIf XC ifs tt) (he:rd X scope N' E λXC=>PE XC elt te) {a:List (Addr×Obj)} {M:Sg} {H:Hp} {s:Shared} {Q:Value->Shared->Prop} {F:Addr->Hp->Prop} (I:L2.Inv X a M H s)
  (h:wi M H λJ H1=>∀D,H1 D=none->∃W,(∃m,W 0 m [] (Wy k js M) (lC H1 D (.lst [])))/\Y6 J D g tt te (λ_ H' =>F D H') W)
  (hQ:∀D C H' P,L2.Inv X a M H' P ->F D H' ->H' C=none->(X.s₀.heap.objs.size<=C)->C ≠ X.env.locals->(∀x c,X.env.cells.lookup x=some c->c ≠ C)->(∀p∈X.pn++a,p.1 ≠ C)->(∃m,P.heap.Ns C m)->compPost (model X.prog X.w) X.A X.xe use Q (.ref D) C (.ok .next) P)
  (hs:∀x,foldedSetIterable iter X.env x=pure x:=by intro _;rfl):
  wpAny (model X.prog X.w) X.A (comprehension (.ListComp elt [⟨tg,iter,ifs,0⟩] scope pos) scope X.env pos' (newList []) false (eval iter X.env) use) Q X.xe s:=by
 obtain⟨cl,ecl,hcl,hcf⟩:=Uo (scope:=scope) (env:=X.env) λx hx hf=>I.ok.has x.1 (S.fre x hx hf);refine wpAny_comprehension_free rfl hs ecl S.kind S.loc ?_;refine lz (hi a s M H _ I h) λv s1 h1=>lz h1 λitv d N=> ?_;obtain⟨it,fp,tn,J,H2,e,I2,TJ,mq,f2,q2⟩:=N;subst e;refine bx ?_;have hD:=I2.hok.fresh (ao _);have r:L2.Inv X a M (lC H2 d.heap.objs.size (.lst [])) { d with heap:=d.heap.push { cls:= .type "list",data:= .seq _ } }:=
  I2.laid (t' :=d.toks) (λb u e=>af _ e) (ao _) ⟨bn _,[],_,.nil,am _ rfl⟩
 obtain⟨W,⟨m0,w0⟩,turn⟩:=q2 d.heap.objs.size hD;have f3:∀b∈fp,Jh X a (lC H2 d.heap.objs.size (.lst [])) b:=λb l=>by
  obtain⟨o,eo,_⟩:=TJ.obj _ _ mq b l;exact⟨by rw[zm (aK (ax eo))];exact(f2 b l).1,(f2 b l).2⟩
 have o3:∀b∈fp,∃o,(d.heap.push { cls:= .type "list",data:= .seq ([]:List Value).toArray }).get? b=some o:=λb l=>by
  obtain⟨o,eo,_⟩:=TJ.obj _ _ mq b l;exact⟨o,af _ eo⟩
 refine wpAny_newFunctionEnv S.nocell (by intro y hy;simp at hy) (λh4 K G=> ?_) S.kind
 generalize hG:d.heap.push _=G3 at r o3 K G ⊢;have s3e:∃f:Shared,f={ d with heap:=G3 }:=⟨_,rfl⟩;obtain⟨f,O⟩:=s3e;have hh3:f.heap=d.heap.push { cls:= .type "list",data:= .seq ([]:List Value).toArray }:=by rw[O,hG]
 have hg3:G3=f.heap:=by rw[O]
 rw[← O]at r;rw[hg3]at K G o3;have k4:=λb o e=>G.extBut b o (aK (ax e)) (af _ e);have IC:=qA (N' :=N') (cl:=cl) (fp:=fp) (σ' :=Wy k js M) (tk:=f.toks+([]:List (Str×Value)).length) r S hc hcl hcf f3 o3 K k4 (by unfold Wy;simp[CP.len]) (λi x v h1 N=>by
  unfold Wy at N
  by_cases hik:i < k
  ·rw[aV (by simpa using hik),aJ,if_pos hik]at N
   cases N
  ·have hk' :k<=i:=by omega
   rw[aQ (by simpa using hk'),aT,av]at N
   cases ej:js[i - k]? with
   | none=>rw[ej]at N;cases N
   | some j=>
    rw[ej]at N;obtain⟨y,e1,e2,e3,e4,e5⟩:=CP.cap (i - k) j ej;have:k+(i - k)=i:=by omega
    rw[this,h1]at e1;cases e1;refine⟨j,e2, ?_,e3,e4,e5⟩;have U :some ((M[j]?).getD none)=some (some v):=N;cases ez:M[j]? with
    | none=>rw[ez]at U;cases U
    | some z=>rw[ez]at U;exact congrArg some (aI U))
 have TC:yQ _ _ _ tg J fp it tn:=TJ;have t4:tn 0 h4:=TJ.keep _ _ _ mq λb l o e=>k4 b o (by rw[hh3];exact af _ e)
 have fC:∀b∈fp,Jh (nR X scope N' cl f.heap.objs.size f (lC H2 d.heap.objs.size (.lst [])) fp a) [] _ b:=λb l=>by
  obtain⟨q0,q1,q2,q3,q4,q5⟩:=f3 b l;obtain⟨o,eo⟩:=o3 b l;refine⟨q0,aK (ax eo),λhb' => ?_,.inl l,λx c e=>q4 x c (hcl _ _ e),λp hp=> ?_⟩
  ·rcases aq.mp (r.stkSub b hb') with z | z
   ·exact q1 z
   ·exact q2 z
  ·exact q5 p (by
    have:=hp;rwa[bo]at this)
 have fin:∀(s5:Shared) (Z:Sg) (H5:Hp),L2.Inv (nR X scope N' cl f.heap.objs.size f (lC H2 d.heap.objs.size (.lst [])) fp a) [] Z H5 s5->F d.heap.objs.size H5->compPost (model X.prog X.w) X.A X.xe use Q _ f.heap.objs.size (.ok .next) s5:=λs5 Z H5 I5 q5=>by
  have J5:=r.call' (ch:=fp) I5.os I5.base I5.hok I5.bare λb l=>by
   obtain⟨q0,q1,q2,q3,q4,q5⟩:=f3 b l;exact⟨q3,q1,q4,q5⟩
  refine hQ _ _ H5 s5 J5 q5 I5.free r.sz (dy r.lt) (λx c e z=> ?_) (λp hp z=> ?_) (let ⟨m,hm,_⟩:=I5.loc;⟨m,hm⟩)
  ·obtain⟨v',o,eo,_⟩:=r.cell x c e;exact absurd (ax eo) (by rw[z];exact bj _)
  ·exact absurd (ax (r.pin p hp).1) (by rw[z];exact bj _)
 have pass:Zq (lE X.prog X.w) (XE (nR X scope N' cl f.heap.objs.size f (lC H2 d.heap.objs.size (.lst [])) fp a) (notedBy (model X.prog X.w) X.A (compEnvC scope cl f.heap.objs.size X.env) λe P =>compPost (model X.prog X.w) X.A X.xe use Q (.ref d.heap.objs.size) f.heap.objs.size (.error e) P)) E:=by
  intro pins1 σ1 H1 s1 e P I1 c1;have J1:=r.call' I1.os I1.base I1.hok I1.bare λb l=>by
   obtain⟨q0,q1,q2,q3,q4,q5⟩:=f3 b l;exact⟨q3,q1,q4,q5⟩
  obtain⟨m1,hm1,_⟩:=I1.loc;refine lz (hp a M H1 s1 e P _ m1 _ _ J1 hm1 I1.free r.sz (λz=> ?_) rfl c1) λ_ s'' q=> ?_
  ·obtain⟨_,o,eo,_⟩:=r.stack.mem z;exact absurd (ax eo) (bj _)
  ·cases use <;> exact q
 have B:=uH (X:=XE (nR X scope N' cl _ f _ fp _) (notedBy _ X.A _ λe P =>compPost _ X.A _ use Q _ _ _ P)) (iter:=iter) (scope:=scope) (pos:=pos) (λ_ _ z=>z) hc TC (Fu rfl (hg _ _ _ _ _ _)) (Df rfl (ht _ _ _ _ _ _)) (he _ _ _ _ _ _ _ pass) W turn (λs5 Z H5 I5=>fin s5 Z H5 (qB I5)) w0 (y0 IC) t4 fC;rw[O]at B;exact codeAny_compStart_list B (TJ.self _ _ _ _ _ t4 B)
end
def zy (g:T->En->R En)(ft:En->R Bool)(fe:En->R T):List T->En->R (List T)
 | [],_=> .ok []
 | t :: ts,ρ=>(g t ρ).bind λa=>(ft a).bind λk=>if k=true then (fe a).bind λv=>(zy g ft fe ts a).bind λd=> .ok (v :: d) else zy g ft fe ts a
noncomputable def Up:Option Sl->Sl
 | some (.vl t)=> .vl t
 | some (.ob k _)=> .oc k []
 | some (.oc k fs)=> .oc k fs
 | _=> .un
def jQ (k:Nat)(js:List Nat)(ρ:En):En:=ai k .un++js.map λj=>Up ρ[j]?
noncomputable def quiet {d:Type}:R d->R d
 | .ok a=> .ok a
 | _=> .bad
def zp (g:T->En->R En)(ft:En->R Bool)(fe:En->R T)(k:Nat)(js:List Nat)(ρ:En)(ts:List T):R (List T):=if ts.length<=lB then quiet (zy g ft fe ts (jQ k js ρ)) else .bad
def zv (fi:En->R (List T))(g:T->En->R En)(ft:En->R Bool)(fe:En->R T)(k:Nat)(js:List Nat):En->R T:=λρ=>(fi ρ).bind λts=>(zp g ft fe k js ρ ts).bind λa=> .ok (.lst a)
def nA (e:TG)(g:T->En->R En):Prop:=∀Y B ρ d H v x Q,SI Y B ρ d H->Rep B v x->(match g x ρ with | .ok a =>∀σ',SI Y B a σ' H->Q σ' H | _=>False)->e v d H Q
theorem y6 (i:Nat):nA (wM i) (zq i):=λY B ρ a H v x Q I r q=>q _ (I.setV i r)
theorem Vu (K:aj)(i j:Nat):nA (sk K 2 (YJ (wM i) (YJ (wM j) Ah))) (zX i j):=λY B ρ f H v t Q I r q=>by
 cases r with
 | @tup l xs ts h r=>
  cases r with
  | nil=>exact q.elim
  | cons d a=>
   cases a with
   | nil=>exact q.elim
   | cons e a=>
    cases a with
    | cons _ _=>exact q.elim
    | nil=>exact⟨l,_,rfl,SqT.of (I.sB _ _ h),rfl,_,_,rfl,_,_,rfl,rfl,q _ ((I.setV i d).setV j e)⟩
 | _=>exact q.elim
theorem SI.blockS (I:SI Y B ρ σ H)(k:Nat)(js:List Nat)(E:XK)(s:zl H H'):SI ⟨B,H,E,Y.cl,[]⟩ B (jQ k js ρ) (Wy k js σ) H' where
 s0:=I.sB
 sH:=s
 sB:=I.sB.trans s
 old:=λ_ _ _=>rfl
 len:=by unfold jQ Wy;simp
 vl:=λi t h=>by
  unfold jQ at h;unfold Wy
  by_cases g:i < k
  ·rw[aV (by simpa using g),aJ,if_pos g]at h;cases h
  ·have l :k<=i:=by omega
   rw[aQ (by simpa using l),aT,av]at h ⊢
   cases o:js[i - k]? with
   | none=>rw[o]at h;cases h
   | some j=>
    rw[o]at h;have h' :Up ρ[j]? = .vl t:=aI h;unfold Up at h';split at h'
    ·rename_i u e;cases h';obtain⟨v,P,r⟩:=I.vl j _ e;exact⟨v,by show some ((σ[j]?).getD none)=_;rw[P];rfl,r⟩
    all_goals cases h'
 ow:=λi ts h=>by
  exfalso;unfold jQ at h
  by_cases g:i < k
  ·rw[aV (by simpa using g),aJ,if_pos g]at h;cases h
  ·have l :k<=i:=by omega
   rw[aQ (by simpa using l),aT,av]at h
   cases o:js[i - k]? with
   | none=>rw[o]at h;cases h
   | some j=>
    rw[o]at h;have h' :Up ρ[j]? = .ow ts:=aI h;unfold Up at h';split at h' <;> cases h'
 xc:=λi c h=>by
  exfalso;unfold jQ at h
  by_cases g:i < k
  ·rw[aV (by simpa using g),aJ,if_pos g]at h;cases h
  ·have l :k<=i:=by omega
   rw[aQ (by simpa using l),aT,av]at h
   cases o:js[i - k]? with
   | none=>rw[o]at h;cases h
   | some j=>
    rw[o]at h;have h' :Up ρ[j]? = .xc c:=aI h;unfold Up at h';split at h' <;> cases h'
 st:=by
  have get:∀(i:Nat) (x:Sl),x.isO=true->(jQ k js ρ)[i]? =some x->∃j,js[i - k]? =some j/\k<=i/\Up ρ[j]? =x:=λi x N h=>by
   unfold jQ at h
   by_cases g:i < k
   ·rw[aV (by simpa using g),aJ,if_pos g]at h
    cases h;cases N
   ·have l :k<=i:=by omega
    rw[aQ (by simpa using l),aT,av]at h
    cases o:js[i - k]? with
    | none=>rw[o]at h;cases h
    | some j=>
     rw[o]at h;exact⟨j,rfl,l,aI h⟩
  refine⟨[],λ_=>none,fq _,λi os h=> ?_,λi _ os _ h=> ?_,λi Q n h=> ?_,λi Q fs h=> ?_,λi os h=> ?_⟩
  ·obtain⟨j,_,_,e⟩:=get i _ rfl h;unfold Up at e;split at e <;> cases e
  ·obtain⟨j,_,_,e⟩:=get i _ rfl h;unfold Up at e;split at e <;> cases e
  ·obtain⟨j,_,_,e⟩:=get i _ rfl h;unfold Up at e;split at e <;> cases e
  ·obtain⟨j,o,l,e⟩:=get i _ rfl h;have K:(Wy k js σ)[i]? =some ((σ[j]?).getD none):=by
    unfold Wy;rw[aQ (by simpa using l),aT,av,o];rfl
   obtain⟨S,O,x⟩:=I.st;unfold Up at e;split at e
   ·cases e
   ·rename_i k2 U q;cases e;obtain⟨a,C,y,J,_,D,G,w,_,_,p⟩:=x.ob j _ _ q;exact⟨a,C,y,J,by rw[K,D];rfl,G,w,p,λm f d z=>by cases z⟩
   ·rename_i k2 M q;cases e;obtain⟨a,C,y,J,D,G,w,p,e7⟩:=x.oc j _ _ q;exact⟨a,C,y,J,by rw[K,D];rfl,G,I.sH _ _ w,p,e7.mono (zl.refl _) I.sH⟩
   ·cases e
  ·obtain⟨j,_,_,e⟩:=get i _ rfl h;unfold Up at e;split at e <;> cases e
theorem SI.block {Y:Fx}{B:Hp}{ρ:En}{a:Sg}{H H3:Hp}{D:Addr}(I:SI Y B ρ a H)(k:Nat)(js:List Nat)(E:XK)(d:H D=none)(o:HO):SI ⟨B,H,E,Y.cl,[]⟩ B (jQ k js ρ) (Wy k js a) (lC H D o):=I.blockS k js E (zl.new d _)
theorem SI.acc {Y:Fx}{B:Hp}{ρ:En}{g:Sg}{H:Hp}{D:Addr}(I:SI Y B ρ g H)(y:B D=none)(v:Y.H0 D=none)(G:∀(i:Nat) (ts:List T),ρ[i]? =some (Sl.ow ts)->g[i]? ≠ some (some (V.ref D)))(f:∀(i:Nat) (x:Sl),ρ[i]? =some x->Sl.isS x=true->False)(o:HO):SI Y B ρ g (lC H D o) where
 s0:=I.s0
 sH:=λb u h=>by
  rw[zm (λz=>by subst z;rw[v]at h;cases h)];exact I.sH b u h
 sB:=λb u h=>by
  rw[zm (λz=>by subst z;rw[y]at h;cases h)];exact I.sB b u h
 old:=I.old
 len:=I.len
 vl:=I.vl
 ow:=λi ts h=>by
  obtain⟨a,xs,e,q,l,w,r,d⟩:=I.ow i ts h;refine⟨a,xs,e,q,l, ?_,r,d⟩;rw[zm (λz=>G i ts h (by rw[e,z]))];exact w
 xc:=I.xc
 st:=let ⟨as,O,x⟩:=I.st;⟨as,O,x.pre,λi os h=>f i _ h rfl |>.elim,λi j os p h=>f i _ h rfl |>.elim,λi k n h=>f i _ h rfl |>.elim,x.oc,λi os h=>f i _ h rfl |>.elim⟩
def kS (ρ:En):Prop:=∀(i:Nat) (x:Sl),ρ[i]? =some x->(∀ts,x ≠ Sl.ow ts)/\(x.isS=true->False)
theorem y7 (k:Nat)(js:List Nat)(ρ:En):kS (jQ k js ρ):=λi x h=>by
 unfold jQ at h
 by_cases a:i < k
 ·rw[aV (by simpa using a),aJ,if_pos a]at h
  cases h;exact⟨λ_=>Sl.noConfusion,aA⟩
 ·have d :=by omega
  rw[aQ (by simpa using d),aT,av]at h
  cases e:js[i - k]? with
  | none=>rw[e]at h;cases h
  | some j=>
   rw[e]at h;have h' :Up _=x:=aI h;unfold Up at h';split at h' <;> (subst h';exact⟨λ_=>Sl.noConfusion,aA⟩)
theorem WA {ρ:En}{i:Nat}{t:T}(h:kS ρ):kS (ρ.set i (.vl t)):=λj x e=>by
 rcases zD e with ⟨_,z⟩ | ⟨_,z⟩
 ·subst z;exact⟨λ_=>Sl.noConfusion,aA⟩
 ·exact h j x z
def nu (g:T->En->R En):Prop:=(∀t ρ a,kS ρ->g t ρ= .ok a ->kS a)/\∀t ρ c,g t ρ ≠ .ex c
theorem y8 (i:Nat):nu (zq i):=⟨λt ρ a h e=>by
 cases e;exact WA h,λt ρ c e=>by cases e⟩
theorem Vv (i j:Nat):nu (zX i j):=⟨λt ρ a h e=>(by
 unfold zX at e;split at e
 ·cases e;exact WA (WA h)
 ·cases e),λt ρ c e=>by unfold zX at e;split at e <;> cases e⟩
section
variable {X:Cx}{Y:Fx}{tg iter elt:Expr}{ifs:List Expr}{scope:Scope}{pos pos' :Pos}{N' :List Str}{k:Nat}{js:List Nat}{fi:En->R (List T)}{tG:TG}{g:T->En->R En}{ft:En->R Bool}{fe:En->R T}
structure JJ (X:Cx) (Y:Fx) (ifs:List Expr) (f:En->R Bool):Prop where
 mk ::
 go:∀ρ,PIf X ifs (tS Y rE f ρ)
instance {X:Cx}{Y:Fx}{ifs:List Expr}{f:En->R Bool}:CoeFun (JJ X Y ifs f) λ_=>∀ρ,PIf X ifs (tS Y rE f ρ):=⟨JJ.go⟩
theorem PIf.imp {X:Cx}{e:List Expr}{t t' :TT}(h:PIf X e t)(i:∀a H Q,t' a H Q->t a H Q):PIf X e t' :=λd s a H Q I q=>h _ s a H Q I (i a H Q q)
def Z9:En->R Bool:=λ_=> .ok true
theorem DS {X:Cx}:JJ X Y [] Z9:= .mk λρ=>PIf.imp kQ λa H Q ⟨B,I,q⟩=>ZL I q rfl
theorem CL {X:Cx}{c:Expr}(h:uk X Y c ft):JJ X Y [c] ft:= .mk λρ=>kR (h ρ)
noncomputable def pk (r:R (List T))(P:List T->Prop)(Z:Nat->Prop):Prop:=match r with
 | .ok a=>P a
 | .ex c=>Z c
 | .bad=>False
theorem Y7 {S O:Hp}{σ:Sg}{ρ:En}{J:It}{ts:List T}{r:R (List T)}{D:Addr}{E0:XK}(hG:nA tG g)(hN:nu g)(I:SI Y S ρ σ O)(rI' :rI S O J ts)(hl:ts.length<=lB)(ev:zy g ft fe ts (jQ k js ρ)=r)(hD:O D=none){F:Hp->Prop}
  (hF:pk r (λvs=>∀l xs B,zl O l ->l D=some (.lst xs)->zG B xs vs->zl B (zL S O l)->B D=none->zl S B ->F l) λc=>∀d l,zl O l ->zl S l ->E0 (Y.cl c) d l):
  ∃W,(∃m,W 0 m [] (Wy k js σ) (lC O D (.lst [])))/\Y6 J D tG (λσ H Q=>∃Y' p,Y'.cl=Y.cl/\tS Y' rE ft p σ H Q) (λσ H Q=>∃Y' p,Y'.cl=Y.cl/\Y'.E=E0/\tS Y' rC fe p σ H Q) (λ_ l =>F l) W:=by
 refine⟨λi m ys σ' l =>m=ts.length - i/\i<=ts.length/\ys.length<=i/\l D=some (.lst ys)/\∃p B us,SI ⟨S,O,E0,Y.cl,[]⟩ B p σ' l /\kS p /\zl S B /\B D=none/\zG B ys us/\((zy g ft fe (ts.drop i) p).bind λws=> .ok (us++ws))=r,
  ⟨ts.length,by simp,bn _,bn _,zB,_,S,[],I.block (H3:=O) k js _ hD _,y7 k js ρ,zl.refl _,I.sB.free hD,.nil,by rw[cI,ev];cases r <;> rfl⟩, ?_⟩
 rintro i m ys σ' l ⟨rfl,hi,hyl,U,p,B,us,I',no',K,bD,r',ew⟩
 refine⟨U, ?_⟩;obtain⟨hgo,hyld,hstop⟩:=rI' B l K I'.sB;have tD:∀P,zl l P->zL B l P D=none:=λP s=>by rw[zW U];exact bD
 by_cases G:i < ts.length
 ·refine .inr ⟨hgo i G,λx P y=> ?_⟩;obtain⟨s2,r2⟩:=hyld i _ x P (ak G) y;rw[cb G]at ew;unfold zy at ew;have I2:=I'.grow s2;refine hG _ _ p σ' P x _ _ I2 r2 ?_;cases eg:g ts[i] p with
  | bad=>rw[eg]at ew;subst ew;exact hF
  | ex c=>exact(hN.2 _ _ _ eg).elim
  | ok f=>
   rw[eg]at ew;have no1:=hN.1 _ _ _ no' eg;intro σ1 J1;refine⟨⟨S,O,E0,Y.cl,[]⟩,f,rfl,_,J1, ?_⟩;have M:((ft f).bind (λk=>if k=true then (fe f).bind λv=>(zy g ft fe (ts.drop (i+1)) f).bind λvs=> .ok (v :: vs) else zy g ft fe (ts.drop _) f)).bind (λws=> .ok _)=r:=ew
   cases ef:ft f with
   | bad=>rw[ef]at M;subst M;exact hF
   | ex c=>
    rw[ef]at M;subst M;exact λd l a b=>hF d l a ((K.trans (zL.ge I'.sB s2)).trans b)
   | ok kk=>
    rw[ef]at M;intro b H3 s3 eb;have eb' :=eb;subst eb';have ew2:=M;have J2:=J1.grow s3;have hD3:H3 D=some _:=s3 _ _ (s2 _ _ U);have bD3:zL (zL B l P) P H3 D=none:=by rw[zW (s2 _ _ U)];exact tD P s2
    have Z:=(zL.ge I'.sB s2).trans (zL.ge I2.sB s3);cases b with
    | false=>exact⟨ts.length - (i+1),by omega,rfl,G,by omega,hD3,f,_,us,J2,no1,K.trans Z,bD3,r'.mono Z,ew2⟩
    | true=>
     refine⟨⟨S,O,E0,Y.cl,[]⟩,f,rfl,rfl,_,J2, ?_⟩;have N:=ew2;cases ee:fe f with
     | bad=>rw[ee]at N;subst N;exact hF
     | ex c=>
      rw[ee]at N;subst N;exact λd l a b=>hF d l a ((K.trans Z).trans b)
     | ok v=>
      rw[ee]at N;have ew4:=N;have ew5:(zy g ft fe (ts.drop (i+1)) f).bind (λws=> .ok ((us++[v])++ws))=r:=by
       rw[← ew4];cases zy g ft fe _ f with
       | ok ws=>show R.ok _=R.ok _;rw[bg];rfl
       | _=>rfl
      intro w H4 s4 rw4;have hD4:=s4 _ _ hD3;have J3:=J2.grow s4;have bD4:zL (zL (zL B l P) P H3) H3 H4 D=none:=by rw[zW hD3];exact bD3
      have sB4:=Z.trans (zL.ge J2.sB s4);refine⟨hD4,aN (bW hyl G) (ZP hl),ts.length - (i+1),by omega,rfl,G,by rw[az,aC];omega,zB,f,_,us++[v], ?_,no1,K.trans sB4,bD4,(r'.mono sB4).append (.cons rw4 .nil),ew5⟩
      exact J3.acc bD4 hD (λj ts' e=>((no1 j _ e).1 ts' rfl).elim) (λj x e=>(no1 j x e).2) _
 ·have e:i=ts.length:=by omega
  subst e;refine .inl ⟨hstop _ (ao _), ?_⟩;rw[fE]at ew;have ew' :R.ok _=r:=ew;rw[bo]at ew';subst ew';refine hF l ys B I'.sH U r' (λb o h=> ?_) bD K;cases q:O b with
  | none=>rw[zV q];exact I'.sB b o h
  | some u=>
   rw[zW q];have z:B b=S b:=I'.old b u q;rw[← z];exact h
theorem wa {J:It}(l:nA tG g)(p:nu g)(I:SI Y B1 ρ f H1)(j :rI B1 H1 J ts)(r:ts.length<=lB)(q:zy g ft fe ts (jQ k js ρ)= .ok vs)(u:H1 D=none){F:Hp->Prop}
  (o:∀d xs i,zl H1 d ->d D=some (.lst xs)->zG i xs vs->zl i (zL B1 H1 d)->i D=none->zl B1 i ->F d):
  ∃W,(∃m,W 0 m [] (Wy k js f) (lC H1 D (.lst [])))/\Y6 J D tG (λf H Q=>∃e a,e.cl=Y.cl/\tS e rE ft a f H Q) (λf H Q=>∃e a,e.cl=Y.cl/\(e.E=λ_ _ _=>False)/\tS e rC fe a f H Q) (λ_ d =>F d) W:=Y7 l p I j r q u o
structure W4 (X:Cx) (Y:Fx) (tg iter elt:Expr) (ifs:List Expr) (scope:Scope) (N' :List Str) (k:Nat) (js:List Nat) (fi:En->R (List T)) (tG:TG) (g:T->En->R En) (ft:En->R Bool) (fe:En->R T):Prop where
 sc:sL X scope
 cp:gL X scope N' k js
 cm:X.calm=true
 it:um X Y tg iter fi
 gt:Xa X scope N' λXC=>PG XC tg tG
 gk:nA tG g
 gn:nu g
 tt:∀Y',Y'.cl=Y.cl->Xa X scope N' λXC=>JJ XC Y' ifs ft
 el:∀Y',Y'.cl=Y.cl->rd X scope N' Y'.E λXC=>Snd XC Y' elt fe
 hs:∀x,foldedSetIterable iter X.env x=pure x
theorem Xb (C:W4 X Y tg iter elt ifs scope N' k js fi tG g ft fe):Snd X Y (.ListComp elt [⟨tg,iter,ifs,0⟩] scope pos) (zv fi g ft fe k js):= .mk λρ=>by
 intro j s i H Q I ⟨B,J,q⟩;refine Wz (Jl rfl) (F:=λD v =>Q (.ref D) v) (te:=λi H Q=>∃d a,d.cl=Y.cl/\(d.E=λ_ _ _=>False)/\tS d rC fe a i H Q) (tt:=λi H Q=>∃d a,d.cl=Y.cl/\tS d rE ft a i H Q) C.sc C.cp C.cm (C.it ρ) C.gt
  (λcl l K H3 fp j r s i H Q I ⟨d,a,x,q⟩=>C.tt d x cl l K H3 fp _ a _ s i H Q I q) (λcl l K H3 fp j xe hp r s i H Q I ⟨d,a,x,P,q⟩=>C.el d x cl l K H3 fp _ xe (P ▸ hp) a _ s i H Q I q) I ?_ ?_ C.hs
 ·refine step J q λts it' U _ s1 r1 Z f=> ?_;intro D N;unfold zp at f;split at f
  ·rename_i hl;cases w:zy g ft fe ts _ with
   | bad=>rw[w]at f;exact f.elim
   | ex c=>rw[w]at f;exact f.elim
   | ok vs=>
    rw[w]at f;refine wa C.gk C.gn Z r1 hl w N λv xs B' M S r' l' b' sb' => ?_;refine(show Po Y rC _ U _ Q from f) _ v M ?_;exact .lst (by rw[zV N];exact S) (r'.mono l')
  ·exact f.elim
 ·intro D Cc v M I' O hC h0 hL p u G;obtain⟨m,hm⟩:=G;refine⟨m,hm,λh' y=>⟨.ref D,v, ?_,rfl,O⟩⟩;exact I'.turned (λb o hb e=>y.extBut b o hb e) hC (bI hL).symm (.inr h0) p u
end
section
variable {js:List Nat}{g:T->En->R En}
theorem Xc (C:W4 X Y tg iter elt ifs scope N' k js fi tG g ft fe)(hN:X.N.Nodup)(hi:X.N[i]? =some x)(hx:L2.Loc X.env.scope x)
  (hsw:swapsWith (.ListComp elt [⟨tg,iter,ifs,0⟩] scope pc) (some (.Name x p')) pos.line X.env=pure true) (hf:X.fn x=true\/X.env.scope.names.lookup x=some .local:=by first | exact .inl rfl | exact .inr rfl | assumption):
  wQ X Y (.Assign [.Name x p'] (.ListComp elt [⟨tg,iter,ifs,0⟩] scope pc) pos) (zr i (zv fi g ft fe k js)):= .mk λρ=>by
 intro r s l H D I ⟨B,J,q⟩;rw[exec_Assign_Name_used _ _ _ _ hsw];refine aa (wpAny_standAt (aa ?_));refine aa (lz (Wz (Jl rfl) (F:=λM P =>D.nx (l.set i (some (.ref M))) P) (te:=λl H Q=>∃j d,j.cl=Y.cl/\(j.E=λ_ _ _=>False)/\tS j rC fe d l H Q) (tt:=λl H Q=>∃j d,j.cl=Y.cl/\tS j rE ft d l H Q) C.sc C.cp C.cm (C.it ρ) C.gt
  (λcl u s3 H3 fp r w s l H Q I ⟨j,d,Z,q⟩=>C.tt j Z cl u s3 H3 fp _ d _ s l H Q I q) (λcl u s3 H3 fp r xe hp w s l H Q I ⟨j,d,Z,eE,q⟩=>C.el j Z cl u s3 H3 fp _ xe (eE ▸ hp) d _ s l H Q I q) I ?_ ?_ C.hs) λ_ O hq=>aw (aw hq))
 ·have q' :PoS Y B (((fi ρ).s λts=>(zp g ft fe k js ρ ts).s λK=> .nx (ρ.set i (.vl (.lst K))))) D:=by
   unfold zr zv at q;revert q;cases fi ρ with
   | bad=>exact λq=>q
   | ex c=>exact λq=>q
   | ok ts=>
    intro q;have q2:PoS Y B (((zp g ft fe k js ρ ts).bind λK=>R.ok _).s λt=>RS.nx _) D:=q;show PoS Y B ((zp g ft fe k js ρ ts).s λK=>RS.nx _) D;revert q2;cases zp g ft fe k js ρ ts with
    | bad=>exact λq=>q
    | ex c=>exact λq=>q
    | ok K=>exact λq=>q
  refine JH J q' λts it' H1 _ s1 r1 J1 p=> ?_;intro M hD;unfold zp at p;split at p
  ·rename_i hl;cases S:zy g ft fe ts _ with
   | bad=>rw[S]at p;exact p.elim
   | ex c=>rw[S]at p;exact p.elim
   | ok K=>
    rw[S]at p;refine wa C.gk C.gn J1 r1 hl S hD λP xs B' O e' r' l' b' sb' => ?_;have rr:Rep _ _ _:= .lst (by rw[zV hD];exact e') (r'.mono l')
    exact p _ _ _ (zL.ge J1.sB O) ((J1.grow O).setV i rr)
  ·exact p.elim
 ·intro M Cc P O I' q' hC h0 hL f G hns;obtain⟨m,hm⟩:=hns;refine wpAny_assign_Name (ur (v:= .ref M) I' hN hi hx rfl (λs'' I'' ⟨a,hsb,U⟩=> ?_) hf);have hne:Cc ≠ a:=by
   rcases U with rfl | U
   ·exact hL
   ·exact(f x a U).symm
  refine⟨m,hm.sameBut hsb hne,λh' y =>⟨_,P, ?_,q'⟩⟩;exact I''.turned (λb o hb e=>y.extBut b o hb e) hC hL (.inr h0) f G
end
noncomputable def A1 (x:Str):It:=⟨λi _=>i < x.cps.size,λi H v a =>a =H/\∃c,x.cps[i]? =some c/\v= .str ⟨#[c]⟩,λi _=>x.cps.size<=i⟩
theorem W5 {P:Program}{w:World}{K:aj}{tg:Expr}{x:Str}{t:Tok}{l:String}(it:Addr)(a:l="str_ascii_iterator"\/l="str_iterator"):yQ P w K tg (A1 x) [it] it (λi h=>h.IsStrIter it l x t i):=by
 have W:∀A:Around,A.handled=none->Walks P w A it [it] [it] x.cps.size (SignAt x) (λi h=>h.IsStrIter it l x t i):=λA Z=>by
  rcases a with rfl | rfl
  ·exact Walks.strAscii Z it x t
  ·exact Walks.strWide Z it x t
 have hn:["enumerate","zip","dict_itemiterator","dict_reverseitemiterator","odict_iterator","itertools.zip_longest","itertools.pairwise"].contains l=false:=by rcases a with rfl | rfl <;> decide
 refine⟨by simp,λi h st b f=> ?_,λi h h' st k=> ?_, ?_, ?_,λA i s Q E st h=> ?_⟩
 ·have e:b=it:=by simpa using f
  subst e;obtain⟨o,e,c,d⟩:=st;exact⟨o,e,λv z=>by rw[d]at z;cases z⟩
 ·obtain⟨o,e,r⟩:=st;exact⟨o,k it (by simp) o e,r⟩
 ·intro X hP hw hK p i g s S H E I J st M;obtain⟨D,G,f2,q,B,y⟩:=J it (by simp)
  refine(W X.A (I.ok.hd p)).item i s _ _ M st λv h' tk hv j kk=> ?_;obtain⟨c,u,O,rfl⟩:=hv;have I1:L2.Inv X _ S H { s with heap:=h',toks:=tk }:=I.turned (λb o f e=>kk b o (by simpa using f) e) D G q B y
  obtain⟨o,e,cl,d⟩:=id j;exact⟨_,rfl,yR e cl d hn ⟨.str _,H,I1,⟨u,rfl⟩,⟨rfl,c,O,rfl⟩,j,λb f=>(J b f).1⟩⟩
 ·intro X hP hw hK p i g s S H E I J st M;obtain⟨D,G,f2,q,B,y⟩:=J it (by simp)
  have U:=da M;rcases a with rfl | rfl
  ·exact wpAny_pyNext_ascii_end (I.ok.hd p) st U λh' N=>⟨rfl,I.turned (λb o f e=>N b o f e) D G q B y⟩
  ·exact wpAny_pyNext_wide_end (I.ok.hd p) st U λh' N=>⟨rfl,I.turned (λb o f e=>N b o f e) D G q B y⟩
 ·rcases a with rfl | rfl
  ·exact wpAny_pyIter_striter_ascii st h
  ·exact wpAny_pyIter_striter_wide st h
noncomputable def jj (x:Str):List T:=x.cps.toList.map λc=>T.str ⟨#[c]⟩
theorem Vw:rI B1 H1 (A1 x) (jj x):=λj k l g=>by
 have d:(jj x).length=x.cps.size:=by unfold jj;simp
 refine⟨λi hi=>by rw[d]at hi;exact hi,λi t v H3 e y=> ?_,λi hi=>by rw[d]at hi;exact hi⟩
 obtain⟨rfl,c,f,rfl⟩:=y;refine⟨zl.refl _, ?_⟩;unfold jj at e;rw[av]at e;have a :x.cps.toList[i]? =some c:=by simpa using f
 rw[a]at e;cases e;exact .str _
section
theorem Fp {l:Expr}{r:TE}(M:PE X l r):PI X tg l (λj H R=>r j H λx d=>(∃a,x= .ref a/\(((∃xs,SqL X.K d a xs)/\R (AE X.K a) d)\/((∃xs,SqT X.K d a xs)/\R (At X.K a) d)))\/(∃z,x= .str z/\R (A1 z) d)):=by
 intro w s j H R I h;refine lz (M _ s j H _ I h) λv f ⟨x,d,g,y,J⟩=> ?_;have ok:∀b∈[f.heap.objs.size],Jh X _ d b:=λb G=>by
  have e:=by simpa using G
  subst e;exact g.fpOk (ao _) (g.hok.fresh (ao _))
 rcases J with ⟨a,e,q⟩ | ⟨z,e,q⟩
 ·subst e;obtain rfl:v=Value.ref a:=y;rcases q with ⟨⟨xs,i⟩,q⟩ | ⟨⟨xs,i⟩,q⟩
  ·obtain⟨k,B,p,D⟩:=g.list i;exact cq p.isList ⟨f.heap.objs.size,[f.heap.objs.size],_,_,d,rfl,g.kept λb o e=>af _ e,YL a _,⟨_,am _ rfl,rfl,rfl⟩,ok,q⟩
  ·obtain⟨k,B,p,D⟩:=g.tuple i;exact wpAny_pyIter_tuple (show f.heap.IsTuple a _ from p) ⟨f.heap.objs.size,[f.heap.objs.size],_,_,d,rfl,g.kept λb o e=>af _ e,yS a _,⟨_,am _ rfl,rfl,rfl⟩,ok,q⟩
 ·subst e;obtain⟨t,rfl⟩:=y;cases u:z.cps.all _
  ·exact wpAny_pyIter_wide u ⟨f.heap.objs.size,[f.heap.objs.size],_,_,d,rfl,g.kept λb o e=>af _ e,W5 _ (.inr rfl),⟨_,am _ rfl,rfl,rfl⟩,ok,q⟩
  ·exact wpAny_pyIter_ascii u ⟨f.heap.objs.size,[f.heap.objs.size],_,_,d,rfl,g.kept λb o e=>af _ e,W5 _ (.inl rfl),⟨_,am _ rfl,rfl,rfl⟩,ok,q⟩
def Jb:T->R (List T)
 | .lst xs=> .ok xs
 | .tup xs=> .ok xs
 | .str x=> .ok (jj x)
 | _=> .bad
def Zg (a:En->R T):En->R (List T):=λρ=>(a ρ).bind Jb
theorem DK (g:Snd X Y a fa):um X Y tg a (Zg fa):= .mk λρ=>PI.imp (Fp (g ρ)) λj H R ⟨B,I,q⟩=>step I q λt v f _ k i d e=>by
 cases i with
 | @tup l xs ts h r=>
  exact .inl ⟨l,rfl,.inr ⟨⟨xs,SqT.of (d.sB _ _ h)⟩,ZL d (show Po Y rI _ f _ R from e) (GV h r)⟩⟩
 | @lst l xs ts h r=>
  exact .inl ⟨l,rfl,.inl ⟨⟨xs,SqL.of (d.sB _ _ h)⟩,ZL d (show Po Y rI _ f _ R from e) (GW h r)⟩⟩
 | str z=>exact .inr ⟨z,rfl,ZL d (show Po Y rI _ f _ R from e) Vw⟩
 | _=>exact e.elim
end
theorem Inv.laidT {X:Cx}{d:List (Addr×Obj)}{l:Sg}{H:Hp}{s:Shared}{h' :Heap}{tk:Nat}{ch:List Addr}{a:Addr}{xs:List V}(I:L2.Inv X d l H s)(p:∀b∈ch,Jh X d H b)(k:∀b o,b ∉ ch->s.heap.get? b=some o->h'.get? b=some o)
  (G:∀b o,b∈ch->s.heap.get? b=some o->∃r,h'.get? b=some r) (j:s.heap.objs.size<=a) (new:Zd X.prog X.w (lC H a (.tup xs)) h' a (.tup xs)):L2.Inv X d l (lC H a (.tup xs)) { s with heap:=h',toks:=tk }:=by
 have hn:=I.hok.fresh j;have i:∀b u,H b=some u->b ∉ ch:=λb u e g=>by rw[(p b g).1]at e;cases e
 refine I.call' rfl ⟨λb o e n _ f=>k b o f e,λb o e n _ f=>⟨o.slots,k b o f e⟩,λb o e n _=>by rw[zm (aK (aN (ax e) j))];exact n,λb o e f=>⟨o,k b o f e⟩,
  λb ys e=>by rw[zm (zH e hn)];exact e,λb o u e=>by rw[zm (zH e hn)];exact e,λb K q e=>by rw[zm (zH e hn)];exact e⟩ (λb u e=> ?_) I.bare λb g=> ?_
 ·by_cases g:b=a
  ·subst g;rw[zB]at e;cases e;exact new
  ·rw[zm g]at e;refine(I.hok b u e).stay (λc v f q=> ?_) (λc q=>by rw[zm (zH q hn)];exact q) (λc ys q=>by rw[zm (zH q hn)];exact q) λc o u q=>by rw[zm (zH q hn)];exact q
   rcases f with rfl | f
   ·exact k c v (i c u e) q
   ·exact k c v (i c _ f) q
 ·obtain⟨M,D,J,x,B,y⟩:=p b g;exact⟨x,D,B,y⟩
def A8 (K:aj)(l:Addr):It:=
 ⟨λi H=>∃xs x,SqL K H l xs/\xs[i]? =some x,λi H v a =>∃p x,H p=none/\v= .ref p/\(∀xs,SqL K H l xs->xs[i]? =some x)/\a =lC H p (.tup [.int i,x]),λi H=>∃xs,SqL K H l xs/\xs.length<=i⟩
theorem qD {P:Program}{w:World}{K:aj}{D:List Expr}{kk:Nat}{pt:Pos}(e it l:Addr)(M:e ≠ it)(O:l ≠ e)(N:l ≠ it):
  yQ P w K (.Tuple D kk pt) (A8 K l) [e,it] e (λi h=>(∃old,IsEnum h e it i old)/\h.IsListIter it l i) where
 mem:=by simp
 obj:=λi h st b a=>by
  obtain⟨⟨old,q⟩,o,e1,c,d⟩:=st;rcases aq.mp a with rfl | a
  ·exact⟨_,q,λv z=>nomatch z⟩
  ·have z:b=it:=by simpa using a
   subst z;exact⟨o,e1,λv z=>by rw[d]at z;cases z⟩
 keep:=λi h h' st k=>by
  obtain⟨⟨old,q⟩,g⟩:=st;exact⟨⟨old,k e (by simp) _ q⟩,g.at λo x=>k it (by simp) o x⟩
 item:=by
  intro X Q hw hK Z i J s σ H E I hf st hg;subst Q hw hK;obtain⟨xs,x,U,hx⟩:=hg;obtain⟨j,rv,p,hz⟩:=I.list U;obtain⟨u,hu,ru⟩:=rv.get hx;obtain⟨⟨old,q⟩,g⟩:=st;have hi:i < j.toArray.size:=by
   have:=(au.mp hu).1;simpa using this
  refine(iM (prog:=X.prog) (w:=X.w) (I.ok.hd Z) e it l M O N j.toArray).item i s _ _ hi ⟨⟨old,q⟩,g,p.isList⟩ λT vals h' tk Q hT G hM hk=> ?_;obtain⟨t,y,hy,rfl⟩:=Q;have hyu:y=u:=by
   have:j[i]? =some y:=by simpa using hy
   rw[hu]at this;exact(aI this).symm
  subst hyu;refine⟨.ref T,rfl, ?_⟩;refine(iM (prog:=X.prog) (w:=X.w) (I.ok.hd Z) e it l M O N j.toArray).go D kk pt i T _ _ _ hM λh2 f S=> ?_;have hTn:H T=none:=I.hok.fresh hT;have B:∀b∈[e,it],b ≠ T:=λb a z=>by
   obtain⟨_,_,_,h3,h4⟩:=hM;rcases aq.mp a with rfl | a
   ·exact h3 z.symm
   ·have:b=it:=by simpa using a
    subst this;exact h4 z.symm
  have Ym:IsTup h2 T #[.int i t,y]:=by
   obtain⟨o,eo,r⟩:=G;exact⟨o,S T o (λa=>B T a rfl) eo,r⟩
  refine⟨.ref T,lC H T (.tup [.int i,x]),Inv.laidT (s:=s) (h' :=h2) (ch:=[e,it]) (tk:=tk) I hf (λb o a e=>S b o a (hk b o a e)) (λb o a _=> ?_) hT ⟨by rw[cO];show 2<=16777216;decide,[.int i t,y],.cons ⟨t,rfl⟩ (.cons ru .nil),Ym,.inl ⟨_,_,rfl⟩⟩,rfl,⟨T,x,hTn,rfl,λys hy=>by rw[I.list_inj hy U];exact hx,rfl⟩,⟨f.1,f.2.1⟩,λb a=> ?_⟩
  ·obtain⟨⟨old2,he2⟩,⟨o2,eo2,_⟩,_⟩:=f;rcases aq.mp a with rfl | a
   ·exact⟨_,he2⟩
   ·have:b=it:=by simpa using a
    subst this;exact⟨o2,eo2⟩
  ·rw[zm (B b a)];exact(hf b a).1
 done:=by
  intro X Q hw hK Z i J s σ H E I hf st hg;subst Q hw hK;obtain⟨xs,U,hx⟩:=hg;obtain⟨j,rv,p,hz⟩:=I.list U;obtain⟨⟨old,q⟩,g⟩:=st;have hl:=rv.length;refine wpAny_pyNext_enum_end (I.ok.hd Z) q g p.isList (da (by simp;omega)) λh' hk=>⟨rfl, ?_⟩
  obtain⟨f0,f1,f2,f3,f4,f5⟩:=hf it (by simp)
  exact I.turned (t' :=s.toks) (λb o a e=>hk b o a e) f0 f1 f3 f4 f5
 self:=λ_ _ _ _ _ st h=>let ⟨⟨_,q⟩,_⟩:=st;wpAny_pyIter_enum q h
noncomputable def jb (xs:List T):List T:=(xs.zipIdx).map λp=>T.tup [.int (p.2:Nat),p.1]
theorem uI {xs:List T}{i:Nat}{t:T}(h:(jb xs)[i]? =some t):∃x,xs[i]? =some x/\t= .tup [.int (i:Nat),x]:=by
 unfold jb at h;rw[av,g7]at h;cases e:xs[i]? with
 | none=>rw[e]at h;cases h
 | some x=>rw[e]at h;cases h;exact⟨x,rfl,by simp⟩
theorem Jz (xs:List T):(jb xs).length=xs.length:=by unfold jb;simp
theorem kT {K:aj}{f k:Hp}{a:Addr}{xs:List V}{ts:List T}(h:f a=some (.lst xs))(r:zG f xs ts):rI f k (A8 K a) (jb ts):=λu w j g=>by
 have d:=g _ _ (j _ _ h);rw[Jz];refine⟨λi hi=> ?_,λi t x H3 e y=> ?_,λi hi=>⟨xs,SqL.of d,by rw[r.length];exact hi⟩⟩
 ·obtain⟨v,e,_⟩:=r.get (ak hi);exact⟨xs,v,SqL.of d,e⟩
 ·obtain⟨p,v,hp,rfl,y,rfl⟩:=y;obtain⟨t',l,rfl⟩:=uI e;obtain⟨B,q,o⟩:=r.get l;have:=y xs (SqL.of d);rw[q]at this;cases this;refine⟨zl.new hp _,.tup (jo hp _) (.cons (.int _) (.cons ?_ .nil))⟩;exact(o.mono j).mono (zL.ge g (zl.new hp _))
section
variable {X:Cx}{Y:Fx}{a:Expr}{fa:En->R T}{pos p pt:Pos}{elts:List Expr}{kk:Nat}
theorem kU {v:TA}(N:Gl X "enumerate")(Z:X.mg "enumerate"=none)(G:PA X [a] v)(J:lX X a:=by exact lO rfl):
  PI X (.Tuple elts kk pt) (.Call (.Name "enumerate" p) [a] [] pos) (λk H R=>v k H λD d=>∃l xs,D=[.ref l]/\d l=some (.lst xs)/\R (A8 X.K l) d):=by
 intro x s k H R I h;refine Call_ (jf I N Z PyProof.Rows.Boot.«enumerate» (aZ (lz (G pos _ s k H _ I h) λus j ⟨D,d,g,O,P⟩=> ?_) J rfl));obtain⟨l,xs,e,U,q⟩:=P;subst e;obtain⟨u,rfl,Q⟩:=ZX O;obtain rfl:u=Value.ref l:=Q;obtain⟨_,S,n,rv,B⟩:=(show Zd _ X.w d _ l _ from g.hok l _ U);have i:=ax B;refine call_enumerate_1 B λh' y o hsz M=>wpAny_pyIter_enum y ?_;have f:∀b∈[j.heap.objs.size+1,j.heap.objs.size],Jh X _ d b:=λb r=>by
  rcases aq.mp r with rfl | r
  ·exact g.fpOk (f6 _) (g.hok.fresh (f6 _))
  ·have z:=by simpa using r
   subst z;exact g.fpOk (ao _) (g.hok.fresh (ao _))
 exact⟨j.heap.objs.size+1,[j.heap.objs.size+1,j.heap.objs.size],_,_,d,rfl,g.kept M,qD _ _ l (iN _) (aK (cu i)) (aK i),⟨⟨_,y⟩,o⟩,f,q⟩
def Y8 (fa:En->R T):En->R (List T):=λρ=>(fa ρ).bind λt=>match t with
 | .lst xs=> .ok (jb xs)
 | _=> .bad
theorem Eo (g:Gl X "enumerate")(o:X.mg "enumerate"=none)(i:Snd X Y a fa)(d:lX X a:=by exact lO rfl):um X Y (.Tuple elts kk pt) (.Call (.Name "enumerate" p) [a] [] pos) (Y8 fa):= .mk λρ=>
 PI.imp (kU g o (zw (i ρ) zT d) d) λu H R ⟨B,I,q⟩=>step I q λt v j _ w k e f=>by
  cases k with
  | @lst l xs ts h r=>exact⟨l,xs,rfl,e.sB _ _ h,ZL e (show Po Y rI _ j _ R from f) (kT h r)⟩
  | _=>exact f.elim
noncomputable def YB:List T->Option (List Str)
 | []=>some []
 | .str x :: r=>match YB r with | some ys=>some (x :: ys) | none=>none
 | _ :: _=>none
def BV (d:Str):T->R T
 | .lst ts=>match YB ts with
  | some ys=>if (ys.map (·.length)).sum+ys.length*d.length<=16777216 then .ok (.str (Txt.join d ys)) else .bad
  | none=> .bad
 | _=> .bad
theorem WB {H:Hp}:∀{xs:List V} {ts:List T} {d:List Value} {ys:List Str},zG H xs ts->Z3 xs d->YB ts=some ys->StrsAre d ys
 | _,_,_,ys,.nil,.nil,h=>by
  have h' :=h;cases h';exact .nil
 | _,_,_,ys,.cons r g,.cons f i,h=>by
  cases r with
  | str x=>
   unfold YB at h;split at h
   ·rename_i j e;cases h;obtain⟨tk,rfl⟩:=f;exact .cons x tk (WB g i e)
   ·cases h
  | _=>cases h
theorem kW:rR X "str.join" (λx xs H Q=>∃z l f ts ys,x= .str z/\xs=[.ref l]/\H l=some (.lst f)/\zG H f ts/\YB ts=some ys/\(ys.map (·.length)).sum+ys.length*z.length<=16777216/\Q (.str (Txt.join z ys)) H):=by
 intro g s B H x xs v D Q I i d h;obtain⟨z,l,f,ts,ys,rfl,rfl,y,r,e,j,q⟩:=h;obtain⟨t,rfl⟩:=i;obtain⟨u,rfl,o⟩:=ZX d;obtain rfl:u=Value.ref l:=o;obtain⟨w,d,p,_⟩:=zS I (.inl y) r;exact join_list p (by simpa using WB r d e) j λt' k=>⟨.str _,H,I.tok k,⟨t',rfl⟩,q⟩
theorem CO (j:jn X Y a fa)(i:attributeBase (.Constant (.str z) kc pz) "join" X.env (eval (.Constant (.str z) kc pz) X.env)=eval (.Constant (.str z) kc pz) X.env:=by rfl)(f:lX X a:=by exact lO rfl)
  (g:(pa.endLine == p.line)=true:=by rfl):Snd X Y (.Call (.Attribute (.Constant (.str z) kc pz) "join" pa) [a] [] p) (lj (BV z) fa):= .mk λρ=>by
 have w:(((((backTo p (starEach [a] X.env)).all λx=> !x.fst) && (backToKw p (keywordEach [] X.env)).all λx=>x.fst.isSome) && decide (([a].length+([]:List Keyword).length+if ([]:List Keyword).isEmpty=true then 0 else 1) < 30))=true):=by rw[f];rfl
 refine PE.imp (qb PySem.F.plainAttrs_str PySem.F.slot_str_join PySem.F.type_str_join kW xQ (zw (j ρ) zT f) i w g f rfl) λD H Q ⟨B,I,q⟩=> ?_;refine⟨rfl,step I q λt v k _ G u o d=> ?_⟩;cases u with
 | @lst l xs ts h r=>
  have d:Po Y rC _ k (match YB ts with | some ys=>if (ys.map _).sum+ys.length*z.length<=16777216 then .ok _ else .bad | none=> .bad) Q:=d
  split at d
  ·rename_i ys e;split at d
   ·rename_i y;exact⟨z,l,xs,ts,ys,rfl,rfl,h,r,e,y,lU o.sB d rfl (.str _)⟩
   ·exact d.elim
  ·exact d.elim
 | _=>exact d.elim
end
noncomputable def dd:List Str->List Str->List Str
 | acc,[]=>acc
 | acc,x :: r=>dd (if x∈acc then acc else acc++[x]) r
section
variable {prog:Program}{w:World}{A:Around}{R:Result->Shared->Prop}{I:Addr}{fp wr:List Addr}{n:Nat}{P:Nat->Value->Prop}{St:Nat->Heap->Prop}
theorem jz {h h' :Heap}{S:Addr}{f g:Str->Bool}{m k:Nat}(x:h.SetOf (strKind prog w) S f m)(e:∀o,h.get? S=some o->h'.get? S=some o)(l:f=g)(j:m=k):h'.SetOf (strKind prog w) S g k:=by
 subst l j;obtain⟨o,d,a,t,i,r⟩:=x;exact⟨o,d,a,t,e o i,r⟩
theorem Vx (W:Walks prog w A.in1 I fp wr n P St)(S:Addr)(f:S ∉ fp)(a:Nat->Str)(p:∀i v,P i v->∃t,v=Value.str (a i) t)(d:n+1 < scanBound):
  ∀(k i:Nat) (acc:List Str) (s:Shared),n - i=k->i<=n->acc.length<=i->St i s.heap->s.heap.SetOf (strKind prog w) S (λx=>decide (x∈acc)) acc.length->
   (∀h' tk,(∀b o,b ∉ S :: wr->s.heap.get? b=some o->h'.get? b=some o)->h'.SetOf (strKind prog w) S (λx=>decide (x∈dd acc ((iT i k).map a))) (dd acc ((iT i k).map a)).length->
    R (.ok (.ret .none)) { s with heap:=h',toks:=tk })->codeAny (model prog w) A (.builtin "set.update.loop" ⟨[.ref S,.ref I],[]⟩) R s:=by
 intro k
 induction k with
 | zero=>
  intro i acc s hk hi N g hS O;obtain rfl:i=n:=by omega
  refine bB fF ?_;refine aa (W.done s _ _ g λh' tk l =>aw ?_);exact O h' tk (λb o d e=>l b o (λz=>d (ac _ z)) e) (jz hS (λo e=>l S o (λz=>f (W.sub _ z)) e) rfl rfl)
 | succ k ih=>
  intro i acc s hk hi N g hS O;refine bB fF ?_;refine aa (W.item i s _ _ (by omega) g λv U tk1 hP y r=> ?_)
  obtain⟨t,rfl⟩:=p i v hP;have B:=jz hS (λo e=>r S o (λz=>f (W.sub _ z)) e) rfl rfl;refine aa (m:=holding _ _) (bM ?_);unfold setAdd;have u:(strKind prog w).is (a i) (.str (a i) t)=true:=strKind_is _ _ _ _;refine bM (aa ((strKind _ w).pyHash u ?_));refine wpAny_setAddHashed_of u rfl B (by omega) λh2 q K=> ?_
  have X:(if decide (a i∈acc)=true then acc.length else acc.length+1)=(if a i∈acc then acc else acc++[a i]).length:=by
   by_cases j:a i∈acc
   ·simp[j]
   ·simp[j]
  have Z:(λx=>decide (x∈acc) || decide (x=a i))=(λx=>decide (x∈(if a i∈acc then acc else acc++[a i]))):=by
   funext x
   by_cases j:a i∈acc
   ·simp only[if_pos j]
    by_cases Q:x=a i
    ·subst Q;simp[j]
    ·simp[Q]
   ·simp[j,Bool.decide_or]
  have M:=jz K (λo e=>e) Z X;refine aw ⟨bQ F.plain_set_update_loop _,ih _ _ _ (by omega) (by omega) ?_ (W.frame _ U _ y λb d o e=> ?_) M λh3 G J D=> ?_⟩
  ·split
   ·omega
   ·rw[az,aC];omega
  ·exact(q.2 b (λz=>f (z ▸ d))).trans e
  ·refine O h3 G (λb o d e=>J b o d ?_) D;exact(q.2 b (λz=>d (z ▸ ag))).trans (r b o (λz=>d (ac _ z)) e)
end
section
set_option maxRecDepth 100000 in
set_option maxHeartbeats 3200000 in
theorem qE {l:Addr}{a:List Value}{ys:List Str}{Q:Value->Shared->Prop}(hh:A.handled=none)(hl:s.heap.IsList l a.toArray)(hi:StrsAre a ys)(Z:a.length+1 < scanBound)
  (h:∀(h' :Heap) (tk:Nat),h'.SetOf (strKind prog w) s.heap.objs.size (λx=>decide (x∈dd [] ys)) (dd [] ys).length->(∀b o,b < s.heap.objs.size->s.heap.get? b=some o->h'.get? b=some o)->
   Q (.ref s.heap.objs.size) { s with heap:=h',toks:=tk }):wpAny (model prog w) A (call (.type "set") [.ref l]) Q E s:=by
 have U:∀{a:List Value} {ys:List Str},StrsAre a ys->a.length=ys.length/\∀(i:Nat) (v:Value),a[i]? =some v->∃t,v=Value.str (ys.getD i ⟨#[]⟩) t:=λ{a ys} hi=>by
  induction hi with
  | nil=>exact⟨rfl,λi v e=>by simp at e⟩
  | cons y t _ ih=>
   refine⟨by simp[ih.1],λi v e=> ?_⟩
   cases i with
   | zero=>exact⟨t,by simpa using e.symm⟩
   | succ i=>exact ih.2 i v (by simpa using e)
 obtain⟨K,X⟩:=U hi;have hys:(iT 0 a.length).map (λi=>ys.getD i ⟨#[]⟩)=ys:=by
  rw[K];refine dW λi=> ?_;rw[av]
  by_cases q :i < ys.length
  ·rw[List.getElem?_range' q,ak q];simp[ak q]
  ·rw[aY (by simp;omega),aY (by omega)]
   rfl
 obtain⟨c,tl,hmro⟩:=db.mro;have hmade:=db.made;have hsub:=db.sub;have h1:=db.notType;have h2:=db.canCreate;have hct:=F.typeCall_set_1 (.ref l);refine wpAny_call (codeAny_of_tree (show wpAny _ _ (callAny (.type "set") _) _ _ _ from ?_));refine aw ⟨ig _ (by decide+kernel),bB F.entry_type_call ?_⟩
 rw[Around.under_plain (weight_type_call_type "set" [.ref l] []) rfl]
 repeat any_goals (first | assumption | wp_step)
 refine d8 (code_set_new_1 (.ref l) (E:=E) (Q₁:=λobj j=>∃d:Bool,obj= .ref s.heap.objs.size/\j={ s with heap:=s.heap.push { cls:= .type "set",dict:=none,data:= .set #[] 0 (.fresh 0 0 d) } }) λd=>⟨d,rfl,rfl⟩) λr j hr=> ?_;cases r with
 | error e=>exact hr
 | ok fl=>
  cases fl with
  | ret obj=>
   obtain⟨d,rfl,rfl⟩:=hr;generalize hG:s.heap.push { cls:= .type "set",dict:=none,data:= .set #[] 0 (.fresh 0 0 d) }=G;have hS:G.get? s.heap.objs.size=some { cls:= .type "set",dict:=none,data:= .set #[] 0 (.fresh 0 0 d) }:=by rw[← hG];exact am _ rfl
   have B:G.objs.size=s.heap.objs.size+1:=by rw[← hG,bR]
   have I:∀b o,s.heap.get? b=some o->G.get? b=some o:=λb o e=>by rw[← hG];exact af _ e
   have hT:Shared.TypeIs { s with heap:=G } (.ref s.heap.objs.size) "set":=⟨_,hS,rfl⟩;have hli:=db.init.lookup;have hbi:=db.init.bind (.ref s.heap.objs.size)
   repeat any_goals (first | assumption | wp_step)
   refine d8 (codeAny_call_builtin (R:=wants (λr k=>r= .none/\∃h' tk,k={ s with heap:=h',toks:=tk }/\h'.SetOf (strKind prog w) s.heap.objs.size (λx=>decide (x∈dd [] ys)) (dd [] ys).length/\
     (∀b o,b < s.heap.objs.size->s.heap.get? b=some o->h'.get? b=some o)) E) db.init.plain F.entry_set_init (check_set_init_1 hT ?_)) λO k f=> ?_
   ·obtain⟨⟨ocls,odict,odata,oslots⟩,S,D,nl,N⟩:=hl;simp only at D N;subst D;subst N;have P :=I _ _ S;have hsls:=F.sub_list_set;have hslf:=F.sub_list_frozenset;have hne:(Value.type "list" == Value.type "dict")=false:=by decide
    have M:G.IsList l a.toArray:=⟨_,P,rfl,nl,rfl⟩;have J:l < s.heap.objs.size:=ax S;unfold Builtin.«set.__init__» noKeywords Builtin.Frozenset.updateFrom;generalize hPI:pyIter=PI
    wp_walk
    subst hPI;refine cq M (aa (wpAny_runValue ?_));have hSf:s.heap.objs.size ∉ [G.objs.size,l]:=by
     rw[B];intro z;rcases aq.mp z with z | z
     ·exact absurd z (aK (eF _))
     ·exact absurd (aH.mp z) (dy J)
    refine Vx (dw (A:=A.in1.in1.in1) (by simp[hh]) G.objs.size l (by rw[B];exact aK (cu J)) a.toArray) s.heap.objs.size hSf (λi=>ys.getD i ⟨#[]⟩) (λi v e=>X i v (by simpa using e)) (by simpa using Z) a.length 0 [] _ (by simp) (bn _) (ao _)
     ⟨⟨_,am _ rfl,rfl,rfl⟩,M.push _⟩ ?_ ?_
    ·have p :(G.push { cls:= .type "list_iterator",data:= .fields #[.ref l,.int 0 0] }).get? s.heap.objs.size=some { cls:= .type "set",dict:=none,data:= .set #[] 0 (.fresh 0 0 d) }:=af _ hS;exact jz ((PyProof.Rows.setObjOf_fresh (knd:=strKind prog w) d).setOf p (by unfold scanBound;omega)) (λo e=>e) (by funext x;simp) rfl
    ·intro h' tk' hm g;rw[hys]at g;refine aw (show wpAny _ _ (ret Value.none) _ _ _ from aw ⟨rfl,h',tk',rfl,g,λb o Z e=> ?_⟩);refine hm b o (λz=> ?_) (af _ (I b o e));rcases aq.mp z with z | z
     ·exact absurd z (aK Z)
     ·have z' :b=G.objs.size:=aH.mp z;rw[B]at z';exact absurd z' (aK (cu Z))
   ·cases O with
    | error e=>exact f
    | ok u=>
     cases u with
     | ret r=>
      obtain⟨rfl,h',tk,rfl,g,hk'⟩:=f
      repeat any_goals (first | assumption | wp_step)
      exact h _ _ g hk'
     | _=>exact f.elim
  | _=>exact hr.elim
end
section
theorem qF (B:X.A.handled=none):ZB X (.type "set") (λk H Q=>∃l xs ts ys,k=[.ref l]/\H l=some (.lst xs)/\zG H xs ts/\YB ts=some ys/\ts.length+1 < 4096/\
  ∀q,H q=none->Q (.ref q) (lC H q (.ext λh=>h.SetOf (strKind X.prog X.w) q (λx=>decide (x∈dd [] ys)) (dd [] ys).length))):=by
 intro j s P H k Z Q I d h;obtain⟨l,xs,ts,ys,rfl,M,r,v,hb,q⟩:=h;obtain⟨u,rfl,J⟩:=ZX d;obtain rfl:u=Value.ref l:=J;obtain⟨K,d,pl,G,_⟩:=zS I (.inl M) r;refine qE B pl (WB r d v) (by unfold scanBound;omega) λh' tk hS y=> ?_
 refine⟨.ref _,_,I.laid (λb u e=>y b u (ax e) e) (ao _) ?_,rfl,q _ (I.hok.fresh (ao _))⟩;obtain⟨o,es,U,t,D,rr⟩:=id hS;exact⟨hS,⟨o,D⟩,λO S ⟨p,i,g,N,a,f⟩ e=>⟨p,i,g,N,e _ a,f⟩⟩
theorem qG:ZB X (.builtin "len") (λg H Q=>∃q a f n,g=[.ref q]/\H q=some (.ext a)/\(∀h:Heap,a h->h.SetOf (strKind X.prog X.w) q f n)/\Q (.int n) H):=by
 intro e s B H g G Q I i h;obtain⟨l,a,f,n,rfl,y,d,q⟩:=h;obtain⟨u,rfl,x⟩:=ZX i;obtain rfl:u=Value.ref l:=x;obtain⟨j,_,_⟩:=(show Zd _ X.w H _ l _ from I.hok l _ y);obtain⟨o,p,D,t,r,hex,hd,_,_,k,v,hn⟩:=d _ j;refine call_len_set r hex hd v ?_ ⟨.int _,H,I.tok _,⟨_,rfl⟩,by rw[hn];exact q⟩
 have:p.size < 4096:=k;omega
def Vy:T->R T
 | .lst ts=>match YB ts with
  | some ys=>if ts.length+1 < 4096 then .ok (.int (dd [] ys).length) else .bad
  | none=> .bad
 | _=> .bad
theorem F5 (j:X.A.handled=none)(o:Gl X "len")(x:X.mg "len"=none)(g :Gl X "set")(i :X.mg "set"=none)(w:jn X Y a fa)(k:lX X a:=by exact lO rfl)(f :lX X (.Call (.Name "set" p') [a] [] pos'):=by exact lO rfl):
  Snd X Y (.Call (.Name "len" p) [.Call (.Name "set" p') [a] [] pos'] [] pos) (lj Vy fa):= .mk λρ=>
 PE.imp (ZZ qG o x PySem.boot_len (zw (jZ (qF j) g i PyProof.Rows.Boot.«set» (zw (w ρ) zT k) (by decide) (by decide) k rfl) zT f) (by decide) (by decide) f rfl) λJ H Q ⟨B,I,q⟩=>
  step I q λt v y _ M D K d=>by
   cases D with
   | @lst l xs ts h r=>
    have d:Po Y rC _ y (match YB ts with | some ys=>if ts.length+1 < 4096 then .ok _ else .bad | none=> .bad) Q:=d
    split at d
    ·rename_i ys e;split at d
     ·rename_i G;refine⟨l,xs,ts,ys,rfl,h,r,e,G,λz u=>⟨z,_,_,_,rfl,zB,λh j=>j, ?_⟩⟩;exact d _ _ (zl.new u _) (.int _)
     ·exact d.elim
    ·exact d.elim
   | _=>exact d.elim
def rF (i j:Nat)(a:En->R (List T)):En->RS:=λρ=>(a ρ).s λts=>match ts with
 | [x,y]=> .nx ((ρ.set i (.vl x)).set j (.vl y))
 | _=> .bad
theorem Hi (k:X.calm=true)(p:X.N.Nodup)(hi:X.N[i]? =some x)(l:X.N[j]? =some y)(e:i ≠ j)(G:X.env.scope.names.lookup x=some .local)(hy:X.env.scope.names.lookup y=some .local)
  (g:ul X Y [a,b] ga) (o:swappedStores [.Tuple [.Name x px,.Name y py] kt pt] (.Tuple [a,b] k2 pt2) X.env=pure (some [x,y])) (J:swapsWithSole [.Tuple [.Name x px,.Name y py] kt pt] (.Tuple [a,b] k2 pt2) pos.line X.env=pure false:=by rfl):
  wQ X Y (.Assign [.Tuple [.Name x px,.Name y py] kt pt] (.Tuple [a,b] k2 pt2) pos) (rF i j ga):= .mk λρ=>
 PS.imp (Ga k p hi l e G hy (g ρ) o J) λD M H ⟨B,I,q⟩=>JH I q λts O K _ P w u d=>by
  cases w with
  | nil=>exact d.elim
  | cons r f=>
   cases f with
   | nil=>exact d.elim
   | cons v f=>
    cases f with
    | cons _ _=>exact d.elim
    | nil=>exact⟨_,_,rfl,d _ _ _ (zl.refl _) ((u.setV i r).setV j v)⟩
end
theorem kX:Zq mw X E:=λ_ _ _ _ _ _ _ h=>h.elim
section
theorem kY (hy:Y.cl=cl)(F:Jj X.prog X.w X.K X.mg X.base mw j f fd ps (spP cl n g))(hr:ZY k X.A)(d:j<=k)(e:Gl X x)
  (q:X.mg x=some (.ref f)) (kp:cG X.K (.ref f)=true) (r:L2.Binds X.K fd ps []) (o:ul X Y (a :: es) ga) (hd:(x == ("__debug__":Str))=false:=by decide)
  (i:starEach (a :: es) X.env=(false,eval a X.env) :: starEach es X.env:=by exact zU rfl) (l:((backTo pos (starEach es X.env)).any λx=>x.fst)=false:=by exact Zl rfl):Snd X Y (.Call (.Name x p) (a :: es) [] pos) (za n g ga):=by
 subst hy;exact X3 F (hr.mono d) e q kp r kX o hd i l
theorem WC (a:Gl X x)(e:X.mg x=some u)(d:∃t,u=Value.int i t)(hd:(x == ("__debug__":Str))=false:=by decide):Snd X Y (.Name x pos) (cE (.int i)):= .mk λρ=>
 PE.imp (YG (v:= .int i) a e d hd) λf H Q ⟨B,I,q⟩=>ZL I q (.int i)
end
noncomputable def pK (scope a:Scope):Bool:=(scope.kind == .function) && scope.names.all (λx=>x.2 != .cell) && scope.names.all (λx=>x.2 != .local || scope.names.lookup x.1 == some .local) &&
 scope.names.all (λx=>x.2 != .free || a.names.lookup x.1 == some .cell || a.names.lookup x.1 == some .free)
theorem Xd (d:Scope)(i:X.env.scope=d)(h:pK scope d=true):sL X scope:=by
 unfold pK at h;simp only[ae,aO]at h;obtain⟨⟨⟨j,f⟩,e⟩,g⟩:=h;refine⟨eq_of_beq j,λx a=>by simpa using f x a,λx a l=> ?_,λx a k=> ?_⟩
 ·have:=e x a;rw[l]at this;simpa using this
 ·have:=g x a;rw[k]at this;show X.env.scope.names.lookup x.1=_\/X.env.scope.names.lookup x.1=_;rw[i];simpa using this
noncomputable def kZ (N N' :List Str)(scope a:Scope)(k:Nat)(js:List Nat):Bool:=(N'.length == k+js.length) && (aU js.length).all λi=>match js[i]? with
 | none=>true
 | some j=>match N'[k+i]?,N[j]? with
  | some x,some y=>(x == y) && (a.names.lookup x == some .cell || a.names.lookup x == some .free) && (scope.names.lookup x == some .free)
  | _,_=>false
theorem Uq {js:List Nat}(N:List Str)(a:Scope)(p:X.N=N)(f:X.env.scope=a)(h:kZ N N' scope a k js=true):gL X scope N' k js:=by
 unfold kZ at h;simp only[ae,aO]at h;obtain⟨g,l⟩:=h;refine⟨eq_of_beq g,λi j e=> ?_⟩;have hi:=(au.mp e).1;have q:=l i (aS.mpr hi);rw[e]at q;dsimp only at q;split at q
 ·rename_i x y u r;simp only[ae,k_,beq_iff_eq]at q;obtain⟨⟨rfl,d⟩,o⟩:=q;refine⟨x,u,by rw[p];exact r, ?_,o, ?_⟩
  ·rw[f];exact .inr d
  ·show X.env.scope.names.lookup x=_\/X.env.scope.names.lookup x=_;rw[f];exact d
 ·cases q
theorem Xe {js:List Nat}{g:T->En->R En}(N' :List Str)(N:List Str)(a:Scope)(o:X.N=N)(f:X.env.scope=a)
  (h:(pK scope a && kZ N N' scope a k js)=true) (l:X.calm=true) (it:um X Y tg iter fi) (i:Xa X scope N' λe=>PG e tg tG) (q:nA tG g) (r:nu g) (tt:∀d,d.cl=Y.cl->Xa X scope N' λe=>JJ e d ifs ft)
  (p:∀d,d.cl=Y.cl->rd X scope N' d.E λe=>Snd e d elt fe) (j:∀x,foldedSetIterable iter X.env x=pure x:=by intro _;rfl):W4 X Y tg iter elt ifs scope N' k js fi tG g ft fe:=by
 rw[ae]at h;exact⟨Xd a f h.1,Uq N a o f h.2,l,it,i,q,r,tt,p,j⟩
end PV
namespace PV
open PySem PySem.Spec PyProof.Rows L2 PySem.W
section
theorem K0 (hy:Y.cl=cl)(hp:Zq (lE X.prog X.w) X Y.E)(F:Jj X.prog X.w X.K X.mg X.base (lE X.prog X.w) j f fd ps (spP cl n g))(hr:ZY k X.A)(d:j<=k)(e:Gl X x)
  (q:X.mg x=some (.ref f)) (kp:cG X.K (.ref f)=true) (r:L2.Binds X.K fd ps []) (o:ul X Y (a :: es) ga) (hd:(x == ("__debug__":Str))=false:=by decide)
  (i:starEach (a :: es) X.env=(false,eval a X.env) :: starEach es X.env:=by exact zU rfl) (l:((backTo pos (starEach es X.env)).any λx=>x.fst)=false:=by exact Zl rfl):Snd X Y (.Call (.Name x p) (a :: es) [] pos) (za n g ga):=by
 subst hy;exact X3 F (hr.mono d) e q kp r hp o hd i l
end
def W6 (c:Nat):En->RS:=λ_=> .ex c
section
variable {P:Program}{w:World}{K:aj}{mg:Str->Option Value}{base:Heap}{N:List Str}{qual:Str}{scope:Scope}{f:Addr}{cd:Value}{A:Around}{outer:List Env}{s:Shared}{H:Hp}{E:XK}{Y:Fx}
theorem WD {x m:Str}{C:Addr}{l o:List Value}{r u a g d k:String}{M e pos J:Pos}{j c:Nat}(O:OwnCls x C l a mg base)(Fn:ExcBaseFacts r a k o)(i:l.contains (.type r)=true)(S:ExcBaseFacts u g d l)
  (v:Y.E=E) (y:Y.cl c= .ref C) (Q:Gl (jO (lE P w) P w K mg base N qual scope f cd A outer s H E) x) (hd:(x == ("__debug__":Str))=false:=by decide):
  wQ (jO (lE P w) P w K mg base N qual scope f cd A outer s H E) Y (.Raise (some (.Call (.Name x M) [.Constant (.str m) j J] [] e)) none pos) (W6 c):= .mk λρ=>by
 subst v;refine PS.imp (qf O Fn i S Q ((xW GA GB:ul _ Y _ _) ρ) (zU rfl) hd) λD Z X ⟨B,I,q⟩=>⟨B,I,λvs G p U=> ?_⟩;refine⟨?_, ?_⟩
 ·rw[U.length];exact(by decide:1<=sizeLine)
 ·have:=q none G (I.sH.trans p) (I.sB.trans p);rw[y]at this;exact this
theorem Fun.okX {x qual:Str}{st:Stmt}{f:Addr}{j:FuncData}{N e:List Str}{k:Nat}{sp:Sp}(F:Fun K x qual st f j)(S:j2 N e (zf st))(len:∀d H Q E,sp d H Q E->d.length=e.length)
  (a:∀(cdv:Value) (A:Around) (outer:List Env) (s:Shared) (H:Hp) (d:List V) (Q:VK) (E:XK),ZY k (A.deeper (envOfC qual (zf st) s.heap.objs.size f cdv))->sp d H Q E->
   ∃t,PSs (jO (lE P w) P w K mg base N qual (zf st) f cdv A outer s H E) (zR st) t/\t { nx:=λ_ o =>Q .non o,rt:=Q } (start N d) H):Jj P w K mg base (lE P w) (k+1) f j e sp:=by
 obtain⟨v,u,kV,p,r,q,cdv,ct,l,rfl,lk,i⟩:=F.ex;exact Vh lk i S len λA outer s H d Q E hr g=>a cdv A _ s H d Q E hr g
theorem DJ {cl:Nat->Value}{x qual:Str}{st:Stmt}{f:Addr}{o:FuncData}{N i:List Str}{k n:Nat}{j:En->RS}{g:List T->R T}(F:Fun K x qual st f o)(S:j2 N i (zf st))(hn:n=i.length)
  (I:∀(cdv:Value) (A:Around) (outer:List Env) (s:Shared) (H:Hp) (E:XK) (Y:Fx),Y.cl=cl->Y.E=E->ZY k (A.deeper (envOfC qual (zf st) s.heap.objs.size f cdv))->
   w4 (jO (lE P w) P w K mg base N qual (zf st) f cdv A outer s H E) Y (zR st) j)
  (D:∀ts,ts.length=n->g ts=zh (j (lm N.length ts))):Jj P w K mg base (lE P w) (k+1) f o i (spP cl n g):=by
 subst hn;refine Fun.okX F S spP.len λcdv A outer s H O Q E hr ⟨B,ts,J,u,r,q⟩=> ?_;refine⟨_,I cdv A _ s H E ⟨B,H,E,cl,[]⟩ rfl rfl hr _,B,SI.start u r, ?_⟩;rw[D ts J]at q;revert q;cases j _ with
 | rt t=>exact λq v d s r=>q v d s r
 | rf t=>exact λq a xs d y G n e r _ l=>q _ d G (.lst (by rw[zV n];exact e) (r.mono l))
 | nx ρ=>exact λq σ' d y M p =>q _ d p.sH .non
 | bk ρ=>exact λq=>q.elim
 | ct ρ=>exact λq=>q.elim
 | ex c=>exact λq=>q
 | bad=>exact λq=>q
end
def K1 (k:Nat)(ok:Nat->Bool)(a:En->RS):En->RS:=λρ=>match a ρ with
 | .ex c=>if ok c=true then .nx ((ai ρ.length Sl.un).set k (.xc c)) else .bad
 | r=>r
theorem SI.wish (I:SI Y B ρ σ H)(E:XK):SI { Y with E:=E } B ρ σ H:=⟨I.s0,I.sH,I.sB,I.old,I.len,I.vl,I.ow,I.xc,let ⟨as,O,x⟩:=I.st;⟨as,O,x.on (λ_ _ _ h=>⟨h,rfl⟩) (zl.refl _) rfl rfl (zl.refl _) λ_ _ h a d _=>⟨h,a,d,id⟩⟩⟩
theorem SI.unwish (I:SI { Y with E:=E } B ρ σ H):SI Y B ρ σ H:=⟨I.s0,I.sH,I.sB,I.old,I.len,I.vl,I.ow,I.xc,let ⟨as,O,x⟩:=I.st;⟨as,O,x.on (λ_ _ _ h=>⟨h,rfl⟩) (zl.refl _) rfl rfl (zl.refl _) λ_ _ h a d _=>⟨h,a,d,id⟩⟩⟩
theorem SI.caught (g:zl Y.B0 Y.H0)(old:∀b o,Y.H0 b=some o->B b=Y.B0 b)(a:zl Y.H0 H')(p:zl B H')(j:H' ea=none)(v:m=σ.length)(l:σ[k]? =some (some (V.ref ea))):
  ∃f,zl B f /\SI Y f ((ai m Sl.un).set k (.xc c)) σ (lC H' ea (.ext (Y0 (Y.cl c) ea))):=by
 have up:zl H' (lC H' ea (.ext (Y0 (Y.cl c) ea))):=zl.new j _;have r:=a.free j;refine⟨zL _ _ (lC H' ea (.ext (Y0 (Y.cl c) ea))),λb o e=> ?_,⟨g,a.trans up,λb o e=> ?_,λb o e=>by rw[zW e],by rw[bp,aT,v],λi t e=> ?_,λi ts e=> ?_,λi d e=> ?_,StI.no λi y hy e=> ?_⟩⟩
 ·cases q:Y.H0 b with
  | none=>rw[zV q];exact up b o (p b o e)
  | some u=>rw[zW q,← old b u q];exact e
 ·cases q:Y.H0 b with
  | none=>rw[zV q]at e;exact e
  | some u=>rw[zW q]at e;exact up b o (a b o (g b o e))
 ·rcases zD e with ⟨_,z⟩ | ⟨_,z⟩
  ·cases z
  ·rw[aJ]at z;split at z <;> cases z
 ·rcases zD e with ⟨_,z⟩ | ⟨_,z⟩
  ·cases z
  ·rw[aJ]at z;split at z <;> cases z
 ·rcases zD e with ⟨rfl,z⟩ | ⟨_,z⟩
  ·cases z;exact⟨ea,l,by rw[zV r,zB]⟩
  ·rw[aJ]at z;split at z <;> cases z
 ·rcases zD e with ⟨_,z⟩ | ⟨_,z⟩
  ·subst z;cases hy
  ·rw[aJ]at z;split at z
   ·cases z;cases hy
   ·cases z
theorem Et {ok:Nat->Bool}
  (hX:X.stack=X.env :: X.outer) (hf:X.env.frame=some X.env.locals) (hN:X.N.Nodup)
  (hi:X.N[i]? =some n) (hl:X.env.scope.names.lookup n=some .local) (Z:X.N[k]? =some y) (hy:X.env.scope.names.lookup y=some .local) (Q:i ≠ k)
  (hg:Gl X c) (hm:X.mg c=some (.ref C)) (P:∀c,ok c=true->exmOne X.K (Y.cl c) (.ref C)=some true)
  (hb:∀(u :XK) (pn:List (Addr×Obj)) (xe:Value->Shared->Prop),Zq (lE X.prog X.w) (X.try' pn xe) u ->w4 (X.try' pn xe) { Y with E:=u } body fb)
  (hs:swapsWith (.Name n np) (some (.Name y yp)) apos.line X.env=pure false:=by rfl)
  (x:(c == ("__debug__":Str))=false:=by decide) (S:(n == ("__debug__":Str))=false:=by decide) (v:(n == ("__classdict__":Str))=false:=by decide):
  wQ X Y (.Try body [.ExceptHandler (some (.Name c cp)) (some n) [.Assign [.Name y yp] (.Name n np) apos] hp] [] [] pos) (K1 k ok fb):= .mk λρ=>by
 refine PS.imp (kq hX hf hN hi hl Z hy hg hm (λu pn xe p=>hb u pn xe p ρ) hs x S v) λD σ H ⟨B,I,q⟩=> ?_;refine⟨λcls _ a =>zl Y.H0 a /\zl B a /\∃c,cls=Y.cl c/\ok c=true/\PoS Y B (.nx ((ai ρ.length Sl.un).set k (.xc c))) D,λcls d a U σ' ⟨M,J,c,e1,e2,q1⟩=> ?_,B,I.wish _, ?_⟩
 ·subst e1;refine⟨P c e2,λhe r O => ?_⟩;have G:k < σ'.length:=by rw[r,O];exact(au.mp Z).1
  have g:ρ.length=((((σ'.set i (some (V.ref U))).set k (some (V.ref U))).set i none)).length:=by
   rw[bp,bp,bp,r,I.len]
  obtain⟨f,b1,b2⟩:=SI.caught I.s0 I.old M J he g (by
   rw[aP Q,ba (by rw[bp];exact G)])
  exact q1 _ _ f b1 b2
 ·unfold K1 at q;cases e:fb ρ with
  | nx j =>rw[e]at q;exact λσ' a f o l =>q σ' a f o l.unwish
  | rt t=>rw[e]at q;exact q
  | rf t=>rw[e]at q;exact q
  | bk j =>rw[e]at q;exact λσ' a f o l =>q σ' a f o l.unwish
  | ct j =>rw[e]at q;exact λσ' a f o l =>q σ' a f o l.unwish
  | bad=>rw[e]at q;exact q
  | ex c=>
   rw[e]at q;dsimp only at q;split at q
   ·rename_i hc;exact λd a M J=>⟨M,J,c,rfl,hc,q⟩
   ·exact q.elim
end PV
namespace PySem.W
open PySem PySem.Calls PyProof.Rows PySem.Spec Builtin Builtin.ObjectAttr Builtin.Getset_descriptor
section
variable {prog:Program}{w:World}{A:Around}{E:Value->Shared->Prop}{s:Shared}{K:Frag}{x C:Addr}
theorem uJ {a:Value}{R:Result->Shared->Prop}(X:K.In s.heap)(f:Looks (model prog w) s.heap (typeOf (.ref x)) (.ref C))(d:mroIn K C (.type "object")=some true)
  (h:R (.ok (.ret (.ref C))) s):codeAny (model prog w) A (.call (.builtin "getset_descriptor.__get__") ⟨[.builtin "object.__class__",.ref x,a],[]⟩) R s:=by
 have e:=looks_mroIn (M:=model prog w) X d;refine codeAny_call_builtin KF.slot_gs.plain KF.entry_gs (KF.slot_gs.check _ _ _ _ _ _ _ _ KF.type_class (KF.args_gs _ _ _) ?_);refine aa (aw ?_);unfold descrGetter descrCheckInstance descrNameAndClass isInstance;simp only[KF.owner_class]
 repeat lk
 refine⟨ig _ (by decide+kernel),bB KF.entry_class ?_⟩
 repeat lk
 exact h
theorem K2 {M:Model}{h:Heap}(X:K.In h)(e:findIn K (.ref C) "__class__"=some (some (.builtin "object.__class__")))(hn:specialIn K (.builtin "object.__class__") "__get__"=some (some (.builtin "getset_descriptor.__get__")))
  (a:takesIn K (.builtin "object.__class__")=some true):Looks M h (find (.ref x) (.ref C) "__class__") (.bind (.builtin "getset_descriptor.__get__") (.builtin "object.__class__")):=by
 have g:=looks_findIn (M:=M) X e;have f:Looks M h _ _:=looks_specialIn X hn;have d:=looks_takesIn (M:=M) X a;refine g.andThen (f.andThen ?_);exact(show Looks M h (dataDescriptor? (some _) (some _)) _ from d.andThen .now).andThen (Looks.tag .now)
theorem Vz {Q:Unit->Shared->Prop}(g:Looks M s.heap (typeOf (.ref x)) (.ref C))(f:Looks M s.heap (isSubtype (.ref C) (.type "BaseException")) true)(d:Q () s):wpAny M A (checkBuiltinCall "BaseException.__getattribute__" ⟨[.ref x,nameV],[]⟩) Q E s:=by
 have e:builtinKind "BaseException.__getattribute__"=some .slot:=by decide+kernel
 have a:splitId "BaseException.__getattribute__"=some ("BaseException","__getattribute__"):=by decide+kernel
 simp only[checkBuiltinCall,e,a]
 repeat (first | lk | wp_step)
 exact d
end
end PySem.W
namespace PySem.W
open PySem PySem.Calls PyProof.Rows PySem.Spec Builtin Builtin.ObjectAttr Builtin.Getset_descriptor
section
variable {prog:Program}{w:World}{A:Around}{E:Value->Shared->Prop}{s:Shared}{K:Frag}{x C:Addr}
structure XCls (K:Frag) (C:Addr):Prop where
 ga:findIn K (.ref C) "__getattribute__"=some (some (.builtin "BaseException.__getattribute__"))
 gt:findIn K (.ref C) "__getattr__"=some none
 ca:findIn K (.ref C) "__class__"=some (some (.builtin "object.__class__"))
 sp:specialIn K (.builtin "object.__class__") "__get__"=some (some (.builtin "getset_descriptor.__get__"))
 tk:takesIn K (.builtin "object.__class__")=some true
 ob:mroIn K C (.type "object")=some true
 be:mroIn K C (.type "BaseException")=some true
 cl:(clsIn K C).isSome=true
theorem VA {tk:Tok}{Q:Fin->Shared->Prop}(X:K.In s.heap)(c:XCls K C)(a:Looks (model prog w) s.heap (typeOf (.ref x)) (.ref C))(d:Q (.done (.ret (.ref C))) s):
  wpAny (model prog w) A (Builtin.«object.__getattribute__» ⟨[.ref x,.str "__class__" tk],[]⟩) Q E s:=by
 have e:=K2 (M:=model prog w) (x:=x) X c.ca c.sp c.tk;refine aa (aw (aa (aw (aa (a.at (aa (e.at ?_)))))));refine aa (wpAny_call (uJ X a c.ob ?_));exact aw d
end
end PySem.W
namespace PySem.W
open PySem PySem.Calls PyProof.Rows PySem.Spec Builtin Builtin.ObjectAttr Builtin.Getset_descriptor
section
variable {prog:Program}{w:World}{A:Around}{E:Value->Shared->Prop}{s:Shared}{K:Frag}{x C:Addr}
theorem VB {Q:Option Value->Shared->Prop}(X:K.In s.heap)(c:XCls K C)(a:Looks (model prog w) s.heap (typeOf (.ref x)) (.ref C))(h:Q (some (.ref C)) { s with toks:=s.toks+1 }):wpAny (model prog w) A (getAttr? (.ref x) "__class__") Q E s:=by
 have g:=looks_findIn (M:=model prog w) X c.ga;have e:=looks_findIn (M:=model prog w) X c.gt;have d:=looks_mroIn (M:=model prog w) X c.be;have f:=fG.ga.bind (.ref x);refine aa (wpAny_mkText (aa (dk (bM (aa (a.at (aa (g.at ?_))))))));refine aa ?_;refine e.at ?_;refine aa (dk (bM ?_));unfold callGetattribute;unfold boundAndCalled;rw[f];refine wpAny_call (codeAny_call_builtin fG.ga.plain PySem.F.entry_bexc_ga (Vz a d (VA X c a ?_)));exact handed_on rfl (aw h)
theorem K3 (c:XCls K C):KitX K (.ref x) (.ref C) (λh=>∃o,h.get? x=some o/\o.cls= .ref C) where
 ty:=λM h _ ⟨o,g,i⟩=>i ▸ (Looks.ld g).andThen .now
 it:=λ_ _ X _=>by
  obtain⟨p,a⟩:=dD.mp c.cl;unfold clsIn at a;split at a
  ·rename_i u r j d l;intro G D B J k q;unfold isType loadHead;exact aa (wpAny_loadPart (k _ _ (X _ _ l)) (aw q))
  ·cases a
 ne:=λh v dd y n I X f=>by
  obtain⟨p,a⟩:=dD.mp c.cl;refine Bool.eq_false_iff.mpr λq=> ?_;have e:C=v:=Value.ref.inj (beq_iff_eq.mp q);subst e;unfold clsIn at a;split at a
  ·rename_i u r j d l;have z:=(X _ _ l).symm.trans f;cases z
  ·cases a
 ca:=λ{prog w A E Q s} X ⟨o,g,i⟩ k=>VB X c (i ▸ (Looks.ld g).andThen .now) k
end
end PySem.W
namespace PV
open PySem PySem.Spec PyProof.Rows L2 PySem.W
section
def wb (i:Nat)(ok a:Nat->Bool):En->R T:=λρ=>match ρ[i]? with
 | some (.xc c)=>if ok c=true then .ok (.bl (a c)) else .bad
 | _=> .bad
theorem uK:ZB X (.builtin "isinstance") (λxs H Q=>∃a C v b,xs=[.ref a,v]/\H a=some (.ext (Y0 (.ref C) a))/\XCls X.K C/\(∀u,Z2 v u->kitOne X.K (.ref C) u=some b)/\Q (.bl b) H):=by
 intro f s o H xs l Q I i h;obtain⟨a,C,v,b,rfl,e,c,g,q⟩:=h;obtain⟨u,w,rfl,j,d⟩:=yW i;obtain rfl:u=Value.ref a:=j;obtain⟨k,_,_⟩:=(show Zd _ X.w H _ a _ from I.hok a _ e);exact kia_one (K3 c) I.kIn k (g w d) (λz=>nomatch z) λtk=>⟨.bl _,H,I.tok tk,rfl,q⟩
structure Bf (K:Frag) (cl:Nat->Value) (ok:Nat->Bool):Prop where
 at_:∀c,ok c=true->∃C,cl c= .ref C/\XCls K C
theorem Jn {ok f:Nat->Bool}(O:Bf X.K Y.cl ok)(o:∀c,ok c=true->kitOne X.K (Y.cl c) (.ref C)=some (f c))(l:Gl X "isinstance")(x:X.mg "isinstance"=none)(D:PE X (.Name y yp) (Yz i))(g :Gl X cn)(j :X.mg cn=some (.ref C))
  (hd:(cn == ("__debug__":Str))=false:=by decide):Snd X Y (.Call (.Name "isinstance" p) [.Name y yp,.Name cn cp] [] pos) (wb i ok f):= .mk λρ=>
 PE.imp (ZZ uK l x PyProof.Rows.Boot.«isinstance» (zw D (zw (YG (v:= .ref C) g j rfl hd) zT (lO rfl)) (mq rfl rfl)) (by decide) (by decide) (by rw[mq rfl rfl,lO rfl]) (Zl rfl)) λP H Q ⟨B,I,q⟩=>by
  unfold wb at q;split at q
  ·rename_i c e;split at q
   ·rename_i k;obtain⟨a,N,r⟩:=I.xc i c e;obtain⟨J,M,w⟩:=O.at_ c k;have d :=o c k;rw[M]at r d;exact⟨_,N,a,J,_,_,rfl,I.sB a _ r,w,λu G=>by obtain rfl:u=Value.ref C:=G;exact d,ZL I q (.bl _)⟩
   ·exact q.elim
  ·exact q.elim
theorem K4 {ok f:Nat->Bool}(O:Bf X.K Y.cl ok)(o:∀c,ok c=true->kitOne X.K (Y.cl c) (.type n)=some (f c))(l:Gl X "isinstance")(w:X.mg "isinstance"=none)(M:PE X (.Name y yp) (Yz i))(g :Gl X (bh n))(j :X.mg (bh n)=none)
  (J:bootBuiltins (bh n)=some (.type n)) (hn:bh n ≠ "__name__":=by decide) (hd:(bh n == ("__debug__":Str))=false:=by decide):Snd X Y (.Call (.Name "isinstance" p) [.Name y yp,.Name (bh n) cp] [] pos) (wb i ok f):= .mk λρ=>
 PE.imp (ZZ uK l w PyProof.Rows.Boot.«isinstance» (zw M (zw (YH (v:= .ty n) g j J rfl hn hd) zT (lO rfl)) (mq rfl rfl)) (by decide) (by decide) (by rw[mq rfl rfl,lO rfl]) (Zl rfl)) λS H Q ⟨B,I,q⟩=>by
  unfold wb at q;split at q
  ·rename_i c e;split at q
   ·rename_i k;obtain⟨a,D,r⟩:=I.xc i c e;obtain⟨N,x,G⟩:=O.at_ c k;have d :=o c k;rw[x]at r d;exact⟨_,D,a,N,_,_,rfl,I.sB a _ r,G,λu P=>by obtain rfl:u=Value.type n:=P;exact d,ZL I q (.bl _)⟩
   ·exact q.elim
  ·exact q.elim
def Bz (i:Nat):En->R Bool:=λρ=>match ρ[i]? with
 | some (.xc _)=> .ok false
 | some (.vl t)=>V2 t .non
 | _=> .bad
theorem FC:lH X (compareOp .Is) (λx y H Q=>y= .non/\((∃a,x= .ref a/\Q (.bl false) H)\/∃t b,Rep H x t/\V2 t .non= .ok b/\Q (.bl b) H)):=by
 intro f s i H x y v u Q I d g h;obtain⟨rfl,h⟩:=h;rcases h with ⟨a,rfl,q⟩ | ⟨t,b,r,e,q⟩
 ·obtain rfl:u=Value.none:=g;obtain rfl:v=Value.ref a:=d;exact wpAny_is_plain rfl ⟨.bl _,H,I,rfl,q⟩
 ·exact GL _ s i H x _ v u Q I d g ⟨t,.non,b,r,.non,e,q⟩
theorem EU (g:PE X (.Name y yp) (Yz i)):uk X Y (.Compare (.Name y yp) [.Is] [.Constant .none j p'] pos) (Bz i):= .mk λρ=>
 PT.imp (YR FC g xP (by rfl)) λk H Q ⟨B,I,q⟩=>by
  unfold Bz at q;split at q
  ·rename_i c e;obtain⟨a,f,r⟩:=I.xc i c e;exact⟨_,f,rfl,.inl ⟨a,rfl,false,rfl,ZL I q rfl⟩⟩
  ·rename_i t e;obtain⟨v,f,r⟩:=I.vl i t e;refine⟨v,f,rfl,.inr ?_⟩;cases d:V2 t _ with
   | bad=>rw[d]at q;exact q.elim
   | ex c=>exact absurd d (GK _ _ _)
   | ok b=>rw[d]at q;exact⟨t,b,r.mono I.sB,d,b,rfl,ZL I q rfl⟩
  ·exact q.elim
def AT (cl:Nat->Value)(d:Nat->R T):Sp:=λe H Q E=>∃B a c,e=[V.ref a]/\zl B H/\B a=some (.ext (Y0 (cl c) a))/\Po ⟨B,H,E,cl,[]⟩ rC B H (d c) Q
def K5 (i:Nat)(a:Nat->R T):En->R T:=λρ=>match ρ[i]? with
 | some (.xc c)=>a c
 | _=> .bad
theorem K6 {g:Nat->R T}(hy:Y.cl=cl)(F:Jj X.prog X.w X.K X.mg X.base mw j f fd ps (AT cl g))(hr:ZY k X.A)(G:j<=k)(l:Gl X x)
  (u:X.mg x=some (.ref f)) (kp:cG X.K (.ref f)=true) (v:L2.Binds X.K fd ps []) (D:PE X (.Name y yp) (Yz i)) (hd:(x == ("__debug__":Str))=false:=by decide):Snd X Y (.Call (.Name x p) [.Name y yp] [] pos) (K5 i g):= .mk λρ=>
 PE.imp (Wn F (hr.mono G) l u kp v .nil (kX) (zw D zT (lO rfl)) hd (lO rfl) rfl) λN H Q ⟨B,I,q⟩=>by
  subst hy;unfold K5 at q;split at q
  ·rename_i c e;obtain⟨a,J,r⟩:=I.xc i c e;refine⟨_,J,B,a,c,rfl,I.sB,r, ?_⟩;revert q;cases g c with
   | bad=>exact λq=>q
   | ex c=>exact λq d o s M=>q d o (I.sH.trans s) M
   | ok t=>exact λq=>q
  ·exact q.elim
end
section
variable {P:Program}{w:World}{K:aj}{mg:Str->Option Value}{base:Heap}
def ny (n c:Nat):En:= .xc c :: ai (n - 1) .un
theorem SI.startC (s:zl Y.B0 Y.H0)(e:1<=N.length)(r:Y.B0 a=some (.ext (Y0 (Y.cl c) a))):SI Y Y.B0 (ny N.length c) (L2.start N [V.ref a]) Y.H0 where
 s0:=s
 sH:=zl.refl _
 sB:=s
 old:=λ_ _ _=>rfl
 len:=by unfold ny L2.start;simp
 vl:=λi t h=>by
  unfold ny at h;cases i with
  | zero=>cases h
  | succ i=>rw[bY,aJ]at h;split at h <;> cases h
 ow:=λi t h=>by
  unfold ny at h;cases i with
  | zero=>cases h
  | succ i=>rw[bY,aJ]at h;split at h <;> cases h
 xc:=λi d h=>by
  unfold ny at h;cases i with
  | zero=>
   cases h;exact⟨a,by unfold L2.start;rfl,r⟩
  | succ i=>rw[bY,aJ]at h;split at h <;> cases h
 st:=StI.no λi y hy h=>by
  unfold ny at h;cases i with
  | zero=>cases h;cases hy
  | succ i=>
   rw[bY,aJ]at h;split at h
   ·cases h;cases hy
   ·cases h
theorem Ds {cl:Nat->Value}{x d q:Str}{st:Stmt}{f:Addr}{j:FuncData}{N:List Str}{k:Nat}{i:En->RS}{o:Nat->R T}(F:Fun K x d st f j)(S:j2 N [q] (zf st))(p:1<=N.length)
  (J:∀(cdv:Value) (A:Around) (outer:List Env) (s:Shared) (H:Hp) (E:XK) (Y:Fx),Y.cl=cl->ZY k (A.deeper (envOfC d (zf st) s.heap.objs.size f cdv))->
   w4 (jO mw P w K mg base N d (zf st) f cdv A outer s H E).nox Y (zR st) i)
  (D:∀c,o c=zh (i (ny N.length c))):Jj P w K mg base mw (k+1) f j [q] (AT cl o):=by
 refine F.ok S (λM H Q E ⟨_,_,_,e,_⟩=>by rw[e];rfl) λcdv A outer s H M Q E hr ⟨B,a,c,e,u,r,q⟩=> ?_
 subst e;refine⟨_,J cdv A _ s H E ⟨B,H,E,cl,[]⟩ rfl hr _,B,SI.startC u p r, ?_⟩;rw[D c]at q;revert q;cases i _ with
 | rt t=>exact λq v g s r=>q v g s r
 | rf t=>exact λq a xs g y G n e r _ l=>q _ g G (.lst (by rw[zV n];exact e) (r.mono l))
 | nx ρ=>exact λq σ' g y _ I=>q _ g I.sH .non
 | ex c=>exact λq=>q
 | bk ρ=>exact λq=>q.elim
 | ct ρ=>exact λq=>q.elim
 | bad=>exact λq=>q
end
end PV
namespace PySem.ZG
open PySem PySem.Spec PySem.Builtin.SmallTypes
structure Ur (i:Addr) (fp:List Addr) (v:Nat->Option Value) (St:Nat->Heap->Prop):Prop where
 mem:i∈fp
 item:∀{prog:Program} {w:World} {A:Around} {E:Value->Shared->Prop} {s:Shared} {Q:Value->Shared->Prop} {k:Nat} {x:Value},St k s.heap->v k=some x->(∀h',St (k+1) h' ->d7 i s.heap h' ->Q x { s with heap:=h' })->wpAny (model prog w) A (nextOf (.ref i)) Q E s
 stop:∀{prog:Program} {w:World} {A:Around} {E:Value->Shared->Prop} {s:Shared} {Q:Value->Shared->Prop} {k:Nat},A.handled=none->St k s.heap->v k=none->(∀h' e,g_ i s.heap h' ->(∃o,h'.get? e=some o/\o.cls= .type "StopIteration")->E (.ref e) { s with heap:=h' })->wpAny (model prog w) A (nextOf (.ref i)) Q E s
 keep:∀{k:Nat} {h h' :Heap},St k h->(∀b∈fp,∀o,h.get? b=some o->h'.get? b=some o)->St k h'
 there:∀{k:Nat} {h:Heap},St k h->∀b∈fp,∃o,h.get? b=some o
theorem Ur.but {v:Nat->Option Value}{St:Nat->Heap->Prop}(N:Ur i fp v St)(x:St k h)(e:g_ b h h')(n:b ∉ fp):St k h' :=
 N.keep x λc a o q=>e c o (λz=>n (z ▸ a)) q
theorem K7 (f:l ≠ i)(xs:Array Value):Ur i [i,l] (λk=>xs[k]?) (λk h=>h.IsListIter i l k/\h.IsList l xs) where
 mem:= .head _
 item:=λst g h=>wpAny_nextOf_list_item st.1 st.2 g λh' a b=>h h' ⟨a,st.2.extBut b.extBut f⟩ b
 stop:=λj st g h=>wpAny_nextOf_list_end j st.1 st.2 g h
 keep:=λst k=>⟨st.1.at λo e=>k i (.head _) o e,st.2.at λo e=>k l (.tail _ (.head _)) o e⟩
 there:=λst b d=>by
  obtain⟨⟨o,e,_⟩,p,q,_⟩:=st;rcases aq.mp d with z | d
  ·exact⟨o,z ▸ e⟩
  ·exact⟨p,(aH.mp d) ▸ q⟩
end PySem.ZG
namespace PySem.ZG
open PySem PySem.Spec PySem.Builtin.SmallTypes
section
theorem y9 (a:s.heap.IsTupleIter it l k)(h:wpAny (model prog w) A.in1 (Builtin.«tuple_iterator.__next__» ⟨[.ref it],[]⟩) (λd f =>∃v,d= .done (.ret v)/\Q v f) E s):wpAny (model prog w) A (nextOf (.ref it)) Q E s:=by
 exact aa (bJ a.typeIs dX (cf dX a.typeIs PySem.F.entry_tuple_iterator_next
  (bV h (λd f ⟨v,e,q⟩=>⟨v,e,aw q⟩) λ_ _ z=>z) (PySem.F.args_tuple_iterator_next_1 _)))
theorem tup_item (a:s.heap.IsTupleIter it l k)(i:s.heap.IsTuple l xs)(j:xs[k]? =some x)(h:∀h',h'.IsTupleIter it l (k+1)->d7 it s.heap h' ->Q x { s with heap:=h' }):wpAny (model prog w) A (nextOf (.ref it)) Q E s:=by
 refine y9 a ?_;obtain⟨o,d,p,hd⟩:=id a;obtain⟨r,e,_,q,f⟩:=i;refine aa (m:=field _ 0) (bz d hd rfl ?_);refine aa (bz d hd rfl (aa (bC e f ?_)));simp only[a_,j];have g:=Heap.get?_update_self (Obj.mapFields (·.setIfInBounds 1 (rawInt (k+1)))) d (Obj.isFreed_of_fields (ii hd _));refine aa (wpAny_setField d hd (by simp) (aw ⟨x,rfl,h _ ⟨_,g,(Obj.cls_mapFields ..).trans p, ?_⟩ (i4 ..)⟩))
 rw[ii hd];simp[rawInt]
theorem tup_stop (j:A.handled=none)(a:s.heap.IsTupleIter it l k)(i:s.heap.IsTuple l xs)(p:xs[k]? =none)
  (h:∀h' e,g_ it s.heap h' ->(∃o,h'.get? e=some o/\o.cls= .type "StopIteration")->E (.ref e) { s with heap:=h' }):wpAny (model prog w) A (nextOf (.ref it)) Q E s:=by
 refine y9 a ?_;obtain⟨o,f,q,hd⟩:=id a;obtain⟨u,d,_,r,g⟩:=i;refine aa (m:=field _ 0) (bz f hd rfl ?_);refine aa (bz f hd rfl (aa (bC d g ?_)));simp only[a_,p];refine aa (eD (aa (wpAny_setField f hd (by simp) (aa ?_))))
 refine aa (bx (aa (cB (by first | rfl | (simp only[firstArgMember])) (bx ?_ (by size_fits)))) (by size_fits))
 refine aa (wpAny_handled ?_);rw[j];exact aa (aw (wpAny_throw (h _ _ (((i4 ..).extBut.push _).push _) ⟨_,am _ rfl,rfl⟩)))
end
theorem nx_tup (g:l ≠ i)(xs:Array Value):Ur i [i,l] (λk=>xs[k]?) (λk h=>h.IsTupleIter i l k/\h.IsTuple l xs) where
 mem:= .head _
 item:=λst p h=>tup_item st.1 st.2 p λh' a b=>h h' ⟨a,st.2.extBut b.extBut g⟩ b
 stop:=λq st p h=>tup_stop q st.1 st.2 p h
 keep:=λst k=>by
  obtain⟨⟨o,e,r⟩,d,j,u⟩:=st;exact⟨⟨o,k i (.head _) o e,r⟩,d,k l (.tail _ (.head _)) d j,u⟩
 there:=λst b f=>by
  obtain⟨⟨o,e,_⟩,d,j,_⟩:=st;rcases aq.mp f with z | f
  ·exact⟨o,z ▸ e⟩
  ·exact⟨d,(aH.mp f) ▸ j⟩
end PySem.ZG
namespace PySem.ZG
open PySem PySem.Spec PySem.Builtin.SmallTypes
structure Ap (z TI TO i1 i2:Addr) (fp1 fp2:List Addr):Prop where
 Iz:TI ≠ z
 Oz:TO ≠ z
 IO:TI ≠ TO
 I1:TI ≠ i1
 I2:TI ≠ i2
 z1:z ∉ fp1
 z2:z ∉ fp2
 O1:TO ∉ fp1
 O2:TO ∉ fp2
 a:i1 ∉ fp2
 b:i2 ∉ fp1
section
variable {v1 v2:Nat->Option Value}{S1 S2:Nat->Heap->Prop}
theorem Ap.ne1 (D:Ap z TI TO i1 i2 fp1 fp2)(a:Ur i1 fp1 v1 S1):i1 ≠ z/\i1 ≠ TO:=⟨λe=>D.z1 (e ▸ a.mem),λe=>D.O1 (e ▸ a.mem)⟩
theorem Ap.ne2 (D:Ap z TI TO i1 i2 fp1 fp2)(a:Ur i2 fp2 v2 S2):i2 ≠ z/\i2 ≠ TO:=⟨λe=>D.z2 (e ▸ a.mem),λe=>D.O2 (e ▸ a.mem)⟩
theorem K8 {Q:Value->Shared->Prop}(g:Ur i1 fp1 v1 S1)(d:Ur i2 fp2 v2 S2)(D:Ap z TI TO i1 i2 fp1 fp2)(j:IsZip s.heap z TI TO .none)(N:IsPair s.heap TI (.ref i1) (.ref i2))(K:IsPair s.heap TO a b)(p1:S1 k s.heap)(p2:S2 k s.heap)(hx:v1 k=some x)(hy:v2 k=some y)
  (hQ:∀h',IsZip h' z TI TO (rawInt s.heap.objs.size)->IsPair h' TO x y->S1 (k+1) h' ->S2 (k+1) h' ->IsPair h' s.heap.objs.size x y->
   (∀c o,c ≠ z->c ≠ TO->c ≠ i1->c ≠ i2->s.heap.get? c=some o->h'.get? c=some o)->Q (.ref s.heap.objs.size) { s with heap:=h' }):
  wpAny (model prog w) A (Builtin.«zip.__next__» ⟨[.ref z],[]⟩) (λP s' =>∃v,P= .done (.ret v)/\Q v s') E s:=by
 refine aa (m:=field (.ref z) 2) (bz j rfl (x:= .bool false) rfl (aa (bz j rfl (x:= .ref TI) rfl (aa (bC N rfl ?_)))));refine aa ?_;refine aa (bz j rfl (x:= .none) rfl (aw ?_));refine aa (eD (aa (bz j rfl (x:= .ref TO) rfl (aa (bK j (by simp) λg1 S p=> ?_)))))
 replace S:=S
 refine aa ?_;refine aa (aa (wpAny_onRaise (aa (g.item (g.but p1 p.extBut D.z1) hx λg2 q1 l=>aw ?_))));have t2:IsPair g2 TO a b:=l.extBut _ _ (D.ne1 g).2.symm (p.extBut _ _ D.Oz K);refine aa (bC t2 rfl (aa (wpAny_updateSeq_pair t2 λg3 t3 u=> ?_)));refine aa (cC (aw ?_));refine aa (aa (wpAny_onRaise (aa (d.item (d.but (d.but (d.but p2 p.extBut D.z2) l.extBut D.a) u.extBut D.O2) hy λg4 q2 B=>aw ?_))));have t4:IsPair g4 TO x b:=B.extBut _ _ (D.ne2 d).2.symm t3;refine aa (bC t4 rfl (aa (wpAny_updateSeq_pair t4 λf I r=> ?_)))
 replace I:IsPair f TO x y:=I
 refine aa (cC (aw (aw ?_)));refine aa (bC I rfl (aa (wpAny_newTuple ?_)));have sz:f.objs.size=s.heap.objs.size:=by rw[r.1,B.1,u.1,l.1,p.1]
 have U:=r.extBut _ _ D.Oz.symm (B.extBut _ _ (D.ne2 d).1.symm (u.extBut _ _ D.Oz.symm (l.extBut _ _ (D.ne1 g).1.symm S)));have k5:∀c o,c ≠ z->c ≠ TO->c ≠ i1->c ≠ i2->s.heap.get? c=some o->f.get? c=some o:=λc o i G M O e=>
  r.extBut _ _ G (B.extBut _ _ O (u.extBut _ _ G (l.extBut _ _ M (p.extBut _ _ i e))))
 have r1:S1 (k+1) f:=g.but (g.but (g.but q1 u.extBut D.O1) B.extBut D.b) r.extBut D.O1;have r2:S2 (k+1) f:=d.but q2 r.extBut D.O2;refine aa ?_;have z6:IsZip (f.push { cls:= .type "tuple",data:= .seq #[x,y] }) z TI TO _:=af _ U;refine aa (bK z6 (by simp) λg7 z7 e7=> ?_)
 refine bK z7 (by simp) λX Z e8=> ?_
 have up:∀c o,c ≠ z->f.get? c=some o->X.get? c=some o:=λc o i e=>e8.extBut _ _ i (e7.extBut _ _ i (af _ e));have hn:f.objs.size ≠ z:=dy (ax U);have t8:=e8.extBut _ _ hn (e7.extBut _ _ hn (am _ rfl));rw[sz]at Z t8;refine aw ⟨_,rfl, ?_⟩;rw[sz];exact hQ X Z (up _ _ D.Oz I) (g.keep r1 λc J o e=>up c o (λq=>D.z1 (q ▸ J)) e) (d.keep r2 λc J o e=>up c o (λq=>D.z2 (q ▸ J)) e) t8 λc o i G M O e=>up c o i (k5 c o i G M O e)
theorem K9 {Q:Fin->Shared->Prop}(hh:A.handled=none)(i:Ur i1 fp1 v1 S1)(B:Ur i2 fp2 v2 S2)(D:Ap z TI TO i1 i2 fp1 fp2)(u:IsZip s.heap z TI TO .none)(O:IsPair s.heap TI (.ref i1) (.ref i2))(K:IsPair s.heap TO a b)(S:S1 k s.heap)(p2:S2 k s.heap)(G:v1 k=none\/v2 k=none)
  (hE:∀h' e,(∀c o,c ≠ z->c ≠ TO->c ≠ i1->c ≠ i2->s.heap.get? c=some o->h'.get? c=some o)->(∃o,h'.get? e=some o/\o.cls= .type "StopIteration")->E (.ref e) { s with heap:=h' }):
  wpAny (model prog w) A (Builtin.«zip.__next__» ⟨[.ref z],[]⟩) Q E s:=by
 refine aa (m:=field (.ref z) 2) (bz u rfl (x:= .bool false) rfl (aa (bz u rfl (x:= .ref TI) rfl (aa (bC O rfl ?_)))));refine aa ?_;refine aa (bz u rfl (x:= .none) rfl (aw ?_));simp only[if_true];refine aa (eD (aa (bz u rfl (x:= .ref TO) rfl (aa (bK u (by simp) λg1 J j=> ?_)))))
 replace J:=J
 refine aa ?_;have y:∀{g:Heap} {e:Addr} {r:Obj},IsZip g z TI TO .ellipsis->g.get? e=some r->r.cls= .type "StopIteration"->e ≠ z:=λhg l d q=>by
  subst q;rw[hg]at l;cases l;simp at d
 cases M:v1 k with
 | none=>
  refine aa (aa (wpAny_onRaise (aa (i.stop hh (i.but S j.extBut D.z1) M λg2 e f l=> ?_))));obtain⟨r,I,d⟩:=l;have z2:=f _ _ (D.ne1 i).1.symm J;exact bK z2 (by simp) λP _ p=>hE P e (λc o v _ N _ q=>p.extBut _ _ v (f _ _ N (j.extBut _ _ v q))) ⟨r,p.extBut _ _ (y z2 I d) I,d⟩
 | some x=>
  have hy:v2 k=none:=by
   rcases G with q | q
   ·rw[M]at q;cases q
   ·exact q
  refine aa (aa (wpAny_onRaise (aa (i.item (i.but S j.extBut D.z1) M λg2 q1 f=>aw ?_))));have Z:=f.extBut _ _ (D.ne1 i).2.symm (j.extBut _ _ D.Oz K);refine aa (bC Z rfl (aa (wpAny_updateSeq_pair Z λP t3 p=>aa (cC (aw ?_)))));refine aa (aa (wpAny_onRaise (aa (B.stop hh (B.but (B.but (B.but p2 j.extBut D.z2) f.extBut D.a) p.extBut D.O2) hy λg4 e e4 l=> ?_))));obtain⟨r,I,d⟩:=l;have X:=e4 _ _ (D.ne2 B).1.symm (p.extBut _ _ D.Oz.symm (f.extBut _ _ (D.ne1 i).1.symm J));exact bK X (by simp) λg5 _ U=>hE g5 e (λc o v c2 N c4 q=>U.extBut _ _ v (e4 _ _ c4 (p.extBut _ _ c2 (f.extBut _ _ N (j.extBut _ _ v q))))) ⟨r,U.extBut _ _ (y X I d) I,d⟩
theorem Ka {Q:Option Value->Shared->Prop}(q:Ur i1 fp1 v1 S1)(l:Ur i2 fp2 v2 S2)(D:Ap z TI TO i1 i2 fp1 fp2)(f:IsZip s.heap z TI TO .none)(d:IsPair s.heap TI (.ref i1) (.ref i2))(e:IsPair s.heap TO a b)(u:S1 k s.heap)(v:S2 k s.heap)(G:v1 k=some x)(hy:v2 k=some y)
  (J:∀h',IsZip h' z TI TO (rawInt s.heap.objs.size)->IsPair h' TO x y->S1 (k+1) h' ->S2 (k+1) h' ->IsPair h' s.heap.objs.size x y->
   (∀c o,c ≠ z->c ≠ TO->c ≠ i1->c ≠ i2->s.heap.get? c=some o->h'.get? c=some o)->Q (some (.ref s.heap.objs.size)) { s with heap:=h' }):wpAny (model prog w) A (pyNext (.ref z)) Q E s:=by
 have g:s.TypeIs (.ref z) _:=⟨_,f,rfl⟩;exact aa (dk (bJ g dq (cf dq g fP
  (K8 q l D f d e u v G hy λh' I p r i B j=>aw (J h' I p r i B j)) (fH _))))
theorem Kb {Q:Option Value->Shared->Prop}(l:A.handled=none)(u:Ur i1 fp1 v1 S1)(q:Ur i2 fp2 v2 S2)(D:Ap z TI TO i1 i2 fp1 fp2)(i:IsZip s.heap z TI TO .none)(f:IsPair s.heap TI (.ref i1) (.ref i2))(g:IsPair s.heap TO a b)(x:S1 k s.heap)(y:S2 k s.heap)(d:v1 k=none\/v2 k=none)
  (B:∀h',(∀c o,c ≠ z->c ≠ TO->c ≠ i1->c ≠ i2->s.heap.get? c=some o->h'.get? c=some o)->Q none { s with heap:=h' }):wpAny (model prog w) A (pyNext (.ref z)) Q E s:=by
 have j:s.TypeIs (.ref z) _:=⟨_,i,rfl⟩;refine aa (dk (bJ j dq (cf dq j fP
  (K9 l u q D i f g x y d λh' e kp p=> ?_) (fH _))))
 obtain⟨o,v,r⟩:=p;exact aa (wpAny_isInstance ⟨o,v,r⟩ isSubtype_stop (aw (B _ kp)))
end
end PySem.ZG
namespace PySem.ZG
open PySem PySem.Spec PySem.Builtin.SmallTypes
structure Kc (l:Addr) (o:Obj) (P:Heap->Prop):Prop where
 go:∀{prog:Program} {w:World} {A:Around} {E:Value->Shared->Prop} {s:Shared} {Q:Value->Shared->Prop},P s.heap->Q (.ref s.heap.objs.size) { s with heap:=s.heap.push o }->wpAny (model prog w) A (pyIter (.ref l)) Q E s
 push:∀{h:Heap} (o' :Obj),P h->P (h.push o')
 fresh:o.isFreed=false
noncomputable abbrev oL (l:Addr):Obj:={ cls:= .type "list_iterator",data:= .fields #[.ref l,.int 0 0] }
noncomputable abbrev oT (l:Addr):Obj:={ cls:= .type "tuple_iterator",data:= .fields #[.ref l,.int 0 0] }
theorem Ke (l:Addr)(xs:Array Value):Kc l (oL l) (λh=>h.IsList l xs):=⟨λp q=>cq p q,λo p=>Heap.IsList.push p o,rfl⟩
theorem FO (l:Addr)(xs:Array Value):Kc l (oT l) (λh=>h.IsTuple l xs):=⟨λp q=>wpAny_pyIter_tuple p q,λo p=>Heap.IsTuple.push p o,rfl⟩
noncomputable abbrev AB (h:Heap)(o1 o2:Obj):Heap:=(h.push o1).push o2
abbrev tV (h:Heap)(o1 o2:Obj):Heap:=(AB h o1 o2).push { cls:= .type "tuple",data:= .seq #[.ref h.objs.size,.ref (h.push o1).objs.size] }
abbrev AA (h:Heap)(o1 o2:Obj):Heap:=(tV h o1 o2).push { cls:= .type "tuple",data:= .seq #[.none,.none] }
abbrev oz (h:Heap)(o1 o2:Obj):Heap:=(AA h o1 o2).push { cls:= .type "zip",data:= .fields #[.none,.bool false,.bool false,.ref (AB h o1 o2).objs.size,.ref (tV h o1 o2).objs.size] }
theorem EM {e a:Heap->Prop}(o:Kc l1 o1 e)(f:Kc l2 o2 a):
  Meets (Builtin.«zip.__new__» ⟨[.type "zip",.ref l1,.ref l2],[]⟩) (λ_ R s=>e s.heap/\a s.heap/\R (.ok (.ret (.ref (AA s.heap o1 o2).objs.size))) { s with heap:=oz s.heap o1 o2 }):=
 .of_wp λprog w A R s h=>by
  obtain⟨hp,g,d,tk,os⟩:=s;obtain⟨p,j,h⟩:=h;have i:=sub_zip;have k:e (iU ⟨hp,g,d,tk,os⟩):=p;have l:a (iU ⟨hp.push o1,g,d,tk,os⟩):=f.push o1 j
  wp_walk using o.go k,f.go l
  exact⟨_,rfl,h⟩
end PySem.ZG
namespace PySem.ZG
open PySem PySem.Spec PySem.Builtin.SmallTypes
theorem Kf {j k:Heap->Prop}(u:Kc l1 o1 j)(v:Kc l2 o2 k)(B:j s.heap)(y:k s.heap)
  (h:∀h' n,n=s.heap.objs.size->IsZip h' (n+4) (n+2) (n+3) .none->IsPair h' (n+2) (.ref n) (.ref (n+1))->IsPair h' (n+3) .none .none->h'.get? n=some o1->h'.get? (n+1)=some o2->
   (∀c o,s.heap.get? c=some o->h'.get? c=some o)->Q (.ref (n+4)) { s with heap:=h' }):wpAny (model prog w) A (call (.type "zip") [.ref l1,.ref l2]) Q E s:=by
 refine callType_new PySem.F.called_zip (by decide) (PySem.F.typeCall_zip_2 _ _) (PySem.F.newCall_zip_2 _ _) (λobj=>PySem.F.args_object_init_3 obj _ _) PySem.F.entry_zip_new (EM u v) ⟨B,y, ?_⟩
 have d:(s.heap.push o1).objs.size=s.heap.objs.size+1:=bR ..;have a:(AB s.heap o1 o2).objs.size=s.heap.objs.size+2:=by rw[bR,d]
 have g:(tV s.heap o1 o2).objs.size=s.heap.objs.size+3:=by rw[bR,a]
 have r:(AA s.heap o1 o2).objs.size=s.heap.objs.size+4:=by rw[bR,g]
 have up:∀{h:Heap} {c:Addr} {o:Obj} (f :Obj),h.get? c=some o->(h.push f).get? c=some o:=λf e=>af f e;have i:(oz s.heap o1 o2).get? _=some _:=am _ rfl;have p:(oz s.heap o1 o2).get? _=some _:=up _ (am _ rfl);have l:(oz s.heap o1 o2).get? _=some _:=up _ (up _ (am _ rfl));have x:(oz s.heap o1 o2).get? _=some _:=up _ (up _ (up _ (am _ v.fresh)));have D:(oz s.heap o1 o2).get? _=some _:=up _ (up _ (up _ (up _ (am _ u.fresh))));rw[a,g,r]at i;rw[d,a]at l;rw[g]at p;rw[d]at x;rw[r];exact⟨⟨_,i,rfl⟩,h _ _ rfl i l p D x λc o q=>up _ (up _ (up _ (up _ (up _ q))))⟩
end PySem.ZG
namespace PV
open PySem PySem.Spec PyProof.Rows L2 PySem.ZG
inductive SK where
 | l | t
noncomputable def SK.it:SK->Heap->Addr->Addr->Nat->Prop
 | .l=>λh i l k=>h.IsListIter i l k
 | .t=>λh i l k=>h.IsTupleIter i l k
noncomputable def SK.has:SK->Heap->Addr->Array Value->Prop
 | .l=>λh l xs=>h.IsList l xs
 | .t=>λh l xs=>h.IsTuple l xs
def SK.sq (K:aj):SK->Hp->Addr->List V->Prop
 | .l=>λH a xs=>SqL K H a xs
 | .t=>λH a xs=>SqT K H a xs
noncomputable def SK.tr:SK->List V->HO
 | .l=> .lst
 | .t=> .tup
def SK.ob:SK->Addr->Obj
 | .l=>oL
 | .t=>oT
theorem SK.nx (k:SK){i l:Addr}(h:l ≠ i)(xs:Array Value):Ur i [i,l] (λn=>xs[n]?) (λn hp=>k.it hp i l n/\k.has hp l xs):=by
 cases k with
 | l=>exact K7 h xs
 | t=>exact nx_tup h xs
theorem SK.of (k:SK)(l:Addr)(xs:Array Value):Kc l (k.ob l) (λh=>k.has h l xs):=by
 cases k with
 | l=>exact Ke l xs
 | t=>exact FO l xs
theorem SK.start (k:SK){h:Heap}{i l:Addr}(e:h.get? i=some (k.ob l)):k.it h i l 0:=by
 cases k with
 | l=>exact⟨_,e,rfl,rfl⟩
 | t=>exact⟨_,e,rfl,rfl⟩
theorem SK.obj {k:SK}{h:Heap}{i l:Addr}{n:Nat}(x:k.it h i l n):∃o,h.get? i=some o/\∀v,o.data ≠ .cell v:=by
 cases k with
 | l=>obtain⟨o,e,_,d⟩:=x;exact⟨o,e,λv z=>by rw[d]at z;cases z⟩
 | t=>obtain⟨o,e,_,d⟩:=x;exact⟨o,e,λv z=>by rw[d]at z;cases z⟩
theorem SK.at_ {k:SK}{h h' :Heap}{i l:Addr}{n:Nat}(x:k.it h i l n)(q:∀o,h.get? i=some o->h'.get? i=some o):k.it h' i l n:=by
 cases k with
 | l=>obtain⟨o,e,r⟩:=x;exact⟨o,q o e,r⟩
 | t=>obtain⟨o,e,r⟩:=x;exact⟨o,q o e,r⟩
theorem SK.sqOf {K:aj}(k:SK){H:Hp}{a:Addr}{xs:List V}(e:H a=some (k.tr xs)):k.sq K H a xs:=by
 cases k with
 | l=>exact SqL.of e
 | t=>exact SqT.of e
theorem Inv.seq (I:L2.Inv X pins σ H s)(k:SK)(h:k.sq X.K H a xs):∃d:List Value,Z3 xs d/\k.has s.heap a d.toArray/\∃o,s.heap.get? a=some o:=by
 cases k with
 | l=>
  obtain⟨d,r,p,_⟩:=I.list h;obtain⟨o,_,e,_⟩:=id p;exact⟨d,r,p.isList,o,e⟩
 | t=>
  obtain⟨d,r,p,_⟩:=I.tuple h;obtain⟨o,e,_⟩:=id p;exact⟨d,r,p,o,e⟩
def A6 (K:aj)(k1 k2:SK)(d a:Addr):It:=
 ⟨λi H=>∃xs ys x y,k1.sq K H d xs/\k2.sq K H a ys/\xs[i]? =some x/\ys[i]? =some y,λi H v e =>∃p x y,H p=none/\v= .ref p/\(∀xs,k1.sq K H d xs->xs[i]? =some x)/\(∀ys,k2.sq K H a ys->ys[i]? =some y)/\e =lC H p (.tup [x,y]),
  λi H=>∃xs ys,k1.sq K H d xs/\k2.sq K H a ys/\(xs.length<=i\/ys.length<=i)⟩
theorem Inv.seq_inj (I:L2.Inv X pins σ H s)(k:SK)(h:k.sq X.K H a xs)(h' :k.sq X.K H a ys):xs=ys:=by
 cases k with
 | l=>exact I.list_inj h h'
 | t=>exact I.tuple_inj h h'
theorem nN {a b:Nat}(h:a ≠ b): @Ne Addr a b:=h
theorem nM {a b c:Nat}(h:a ≠ b)(h' :a ≠ c):¬ @Membership.mem Addr (List Addr) _ [b,c] a:=λq=>by
 rcases aq.mp q with z | z
 ·exact h z
 ·exact h' (aH.mp z)
theorem VC {P:Program}{w:World}{K:aj}{elts:List Expr}{kk:Nat}{pt:Pos}(k1 k2:SK){n l1 l2:Nat}(h1:l1 < n)(h2:l2 < n):
  yQ P w K (.Tuple elts kk pt) (A6 K k1 k2 l1 l2) [n+4,n+2,n+3,n,n+1] (n+4)
   (λi h=>IsZip h (n+4) (n+2) (n+3) .none/\IsPair h (n+2) (.ref n) (.ref (n+1))/\(∃a b,IsPair h (n+3) a b)/\k1.it h n l1 i/\k2.it h (n+1) l2 i):=by
 have D:Ap (n+4) (n+2) (n+3) n (n+1) [n,l1] [n+1,l2]:=by
  refine⟨nN (by omega),nN (by omega),nN (by omega),nN (by omega),nN (by omega),nM (by omega) (by omega),nM (by omega) (by omega),nM (by omega) (by omega),nM (by omega) (by omega),nM (by omega) (by omega),nM (by omega) (by omega)⟩
 refine⟨by simp,λi h st b d=> ?_,λi h h' st k=> ?_, ?_, ?_, ?_⟩
 ·obtain⟨p,r,⟨a,c,G⟩,J,M⟩:=st;simp only[aq,bG,or_false]at d;rcases d with rfl | rfl | rfl | rfl | rfl
  ·exact⟨_,p,λv z=>nomatch z⟩
  ·exact⟨_,r,λv z=>nomatch z⟩
  ·exact⟨_,G,λv z=>nomatch z⟩
  ·exact SK.obj J
  ·exact SK.obj M
 ·obtain⟨p,r,⟨a,c,G⟩,J,M⟩:=st;exact⟨k _ (by simp) _ p,k _ (by simp) _ r,⟨a,c,k _ (by simp) _ G⟩,SK.at_ J λo e=>k n (by simp) o e,SK.at_ M λo e=>k (n+1) (by simp) o e⟩
 ·intro X hP hw hK j i S s σ H E I Z st hg;subst hP hw hK;obtain⟨xs,ys,x,y,s1,s2,hx,hy⟩:=hg;obtain⟨p,r,⟨a,c,G⟩,J,M⟩:=st;obtain⟨l,r1,b1,_⟩:=Inv.seq I k1 s1;obtain⟨B,r2,b2,_⟩:=Inv.seq I k2 s2;obtain⟨u,hu,ru⟩:=r1.get hx;obtain⟨v,hv,rv⟩:=r2.get hy;refine Ka (k1.nx (aK h1) l.toArray) (k2.nx (i:=n+1) (nN (by omega)) B.toArray) D p r G ⟨J,b1⟩ ⟨M,b2⟩ (x:=u) (y:=v) (by simpa using hu) (by simpa using hv) λg a1 a2 a3 a4 a5 kp=>⟨_,rfl, ?_⟩
  refine wpAny_letOwnedTupleGo_zip a1 λg2 z2 O=> ?_;have hlt:n+4 < s.heap.objs.size:=ax p;have ne:∀b:Nat,b<=n+4->s.heap.objs.size ≠ b:=λb d=>by
   omega
  have f:∀b o,b ∉ [n+4,n+2,n+3,n,n+1]->s.heap.get? b=some o->g2.get? b=some o:=λb o d e=>by
   simp only[aq,bG,or_false,not_or]at d;exact O.extBut _ _ d.1 (kp b o d.1 d.2.2.1 d.2.2.2.1 d.2.2.2.2 e)
  have g2P:=O.extBut _ _ (ne _ (ao _)) a5;have g2I:=O.extBut _ _ D.Iz (kp _ _ D.Iz D.IO D.I1 D.I2 r);have g2O:=O.extBut _ _ D.Oz a2;have q1:=SK.at_ a3.1 λo e=>O.extBut _ _ (nN (by omega)) e
  have q2:=SK.at_ a4.1 λo e=>O.extBut _ _ (nN (by omega)) e
  have hfr:=I.hok.fresh (ao _);refine⟨.ref s.heap.objs.size,lC H s.heap.objs.size (.tup [x,y]),Inv.laidT (s:=s) (h' :=g2) (tk:=s.toks) I Z f (λb o d _=> ?_) (ao _)
   ⟨by rw[cO];show 2<=16777216;decide,[u,v],.cons ru (.cons rv .nil),⟨_,g2P,rfl,_,rfl⟩,.inr ⟨_,g2P,rfl⟩⟩,rfl,⟨_,x,y,hfr,rfl,λzs hq=>by rw[← Inv.seq_inj I k1 s1 hq];exact hx,λzs hq=>by rw[← Inv.seq_inj I k2 s2 hq];exact hy,rfl⟩,⟨z2,g2I,⟨u,v,g2O⟩,q1,q2⟩,λb d=> ?_⟩
  ·simp only[aq,bG,or_false]at d;rcases d with rfl | rfl | rfl | rfl | rfl
   ·exact⟨_,z2⟩
   ·exact⟨_,g2I⟩
   ·exact⟨_,g2O⟩
   ·obtain⟨o',e',_⟩:=SK.obj q1;exact⟨o',e'⟩
   ·obtain⟨o',e',_⟩:=SK.obj q2;exact⟨o',e'⟩
  ·have hb2:(b:Nat)<=n+4:=by
    have d:=by simpa using d
    rcases d with rfl | rfl | rfl | rfl | rfl
    ·exact ao _
    ·exact eM (by decide) n
    ·exact eM (by decide) n
    ·exact aG _ _
    ·exact eM (by decide) n
   rw[zm λz=>ne b hb2 z.symm];exact(Z b d).1
 ·intro X hP hw hK j i S s σ H E I Z st hg;subst hP hw hK;obtain⟨xs,ys,s1,s2,U⟩:=hg;obtain⟨p,r,⟨a,c,G⟩,J,M⟩:=st;obtain⟨l,r1,b1,_⟩:=Inv.seq I k1 s1;obtain⟨B,r2,b2,_⟩:=Inv.seq I k2 s2;have l1' :=r1.length;have l2' :=r2.length;refine Kb (I.ok.hd j) (k1.nx (aK h1) l.toArray) (k2.nx (nN (by omega)) _) D p r G ⟨J,b1⟩ ⟨M,b2⟩ ?_ λg kp=>⟨rfl, ?_⟩
  ·rcases U with q | q
   ·exact .inl (da (by rw[aD,← l1'];exact q))
   ·exact .inr (da (by rw[aD,← l2'];exact q))
  ·have f:∀b o,b ∉ [n+4,n+3,n,n+1]->s.heap.get? b=some o->g.get? b=some o:=λb o d e=>by
    simp only[aq,bG,or_false,not_or]at d;exact kp b o d.1 d.2.1 d.2.2.1 d.2.2.2 e
   have nch:∀b u,H b=some u->b ∉ [n+4,n+3,n,n+1]:=λb u e d=>by
    have N :b∈[n+4,n+2,n+3,n,n+1]:=by
     simp only[aq,bG,or_false]at d ⊢;rcases d with q | q | q | q
     ·exact .inl q
     ·exact .inr (.inr (.inl q))
     ·exact .inr (.inr (.inr (.inl q)))
     ·exact .inr (.inr (.inr (.inr q)))
    rw[(Z b N).1]at e;cases e
   refine I.call' rfl ⟨λb o e _ _ j=>f b o j e,λb o e _ _ j=>⟨o.slots,f b o j e⟩,λb o e q _=>q,λb o e j=>⟨o,f b o j e⟩,λb ys e=>e,λb o u e=>e,λ_ _ _ e=>e⟩ (λb u e=> ?_) I.bare λb d=> ?_
   ·refine(I.hok b u e).stay (λc v j q=>f c v ?_ q) (λ_ q=>q) λ_ _ q=>q;rcases j with rfl | j
    ·exact nch c u e
    ·exact nch c _ j
   ·have N :b∈[n+4,n+2,n+3,n,n+1]:=by
     simp only[aq,bG,or_false]at d ⊢;rcases d with q | q | q | q
     ·exact .inl q
     ·exact .inr (.inr (.inl q))
     ·exact .inr (.inr (.inr (.inl q)))
     ·exact .inr (.inr (.inr (.inr q)))
    obtain⟨f0,f1,f2,f3,f4,f5⟩:=Z b N;exact⟨f3,f1,f4,f5⟩
 ·intro A i s Q E st h;exact wpAny_pyIter_zip st.1 h
noncomputable def V3 (xs ys:List T):List T:=(xs.zip ys).map λp=>T.tup [p.1,p.2]
theorem VD {xs ys:List T}{i:Nat}{t:T}(h:(V3 xs ys)[i]? =some t):∃x y,xs[i]? =some x/\ys[i]? =some y/\t= .tup [x,y]:=by
 unfold V3 at h;rw[av]at h;cases e:(xs.zip ys)[i]? with
 | none=>rw[e]at h;cases h
 | some p=>
  rw[e]at h;cases h;have:=cJ.mp e;exact⟨p.1,p.2,this.1,this.2,rfl⟩
theorem Us (xs ys:List T):(V3 xs ys).length=min xs.length ys.length:=by unfold V3;simp
theorem DT {K:aj}{d G:Hp}{k1 k2:SK}{a b:Addr}{xs ys:List V}{ts r:List T}(D:d a=some (k1.tr xs))(N:d b=some (k2.tr ys))(l:zG d xs ts)(g:zG d ys r):rI d G (A6 K k1 k2 a b) (V3 ts r):=λS U f j=>by
 have k:=k1.sqOf (K:=K) (j _ _ (f _ _ D));have b2:=k2.sqOf (K:=K) (j _ _ (f _ _ N));rw[Us];refine⟨λi hi=> ?_,λi t x H3 e y=> ?_,λi hi=>⟨xs,ys,k,b2, ?_⟩⟩
 ·obtain⟨v,q,_⟩:=l.get (ak (show i < ts.length by omega))
  obtain⟨u,o,_⟩:=g.get (ak (show i < r.length by omega))
  exact⟨xs,ys,v,u,k,b2,q,o⟩
 ·obtain⟨p,v,u,hp,rfl,M,J,rfl⟩:=y;obtain⟨t1,Z,I,O,rfl⟩:=VD e;obtain⟨X,q,P⟩:=l.get I;obtain⟨u',o,Q⟩:=g.get O;have B:=M xs k;have w:=J ys b2;rw[q]at B;cases B;rw[o]at w;cases w;have up:=zL.ge j (zl.new hp (.tup [v,u]));exact⟨zl.new hp _,.tup (jo hp _) (.cons ((P.mono f).mono up) (.cons ((Q.mono f).mono up) .nil))⟩
 ·rw[l.length,g.length];omega
section
theorem EC {y:TA}(hg:Gl X "zip")(hm:X.mg "zip"=none)(S:PA X [a,b] y)(Z:starEach [a,b] X.env=[(false,eval a X.env),(false,eval b X.env)])(l:starEach [b] X.env=[(false,eval b X.env)]):
  PI X (.Tuple elts kk pt) (.Call (.Name "zip" p) [a,b] [] pos) (λw H R=>y w H λJ i=>∃k1 k2 j k xs ys,J=[.ref j,.ref k]/\i j=some (SK.tr k1 xs)/\i k=some (SK.tr k2 ys)/\R (A6 X.K k1 k2 j k) i):=by
 intro D s w H R I h;refine Call_ (jf I hg hm PyProof.Rows.Boot.«zip» (aZ (lz (S pos _ s w H _ I h) λus d ⟨J,i,o,r1,q1⟩=> ?_) (by rw[Z,l]) (by rw[l];rfl)))
 obtain⟨k1,k2,j,k,xs,ys,e,Q,U,q⟩:=q1;subst e;obtain⟨u,v,rfl,ru,O⟩:=yW r1;obtain rfl:u=Value.ref j:=ru;obtain rfl:v=Value.ref k:=O;obtain⟨B,_,b1,o1,e1⟩:=Inv.seq o k1 (k1.sqOf Q);obtain⟨x,_,b2,o2,e2⟩:=Inv.seq o k2 (k2.sqOf U);refine Kf (k1.of j _) (k2.of k _) b1 b2 λg n hn M z2 P z4 N kp=>wpAny_pyIter_zip M ?_;subst hn;have f:∀b∈[d.heap.objs.size+4,d.heap.objs.size+2,d.heap.objs.size+3,d.heap.objs.size,d.heap.objs.size+1],Jh X _ i b:=λb G=>by
  have r :d.heap.objs.size<=b:=by
   simp only[aq,bG,or_false]at G;rcases G with rfl | rfl | rfl | rfl | rfl
   ·exact aG _ _
   ·exact aG _ _
   ·exact aG _ _
   ·exact ao _
   ·exact aG _ _
  exact o.fpOk r (o.hok.fresh r)
 exact⟨d.heap.objs.size+4,_,_,_,i,rfl,o.kept kp,VC k1 k2 (ax e1) (ax e2),⟨M,z2,⟨_,_,P⟩,SK.start k1 z4,SK.start k2 N⟩,f,q⟩
noncomputable def Jo:T->R (List T)
 | .lst xs=> .ok xs
 | .tup xs=> .ok xs
 | _=> .bad
def Kg (d a:En->R T):En->R (List T):=λρ=>(d ρ).bind λt=>(a ρ).bind λu=>(Jo t).bind λxs=>(Jo u).bind λys=> .ok (V3 xs ys)
theorem qH (r:Rep B v t)(e:Jo t= .ok xs):∃(k:SK) (a:Addr) (d:List V),v= .ref a/\B a=some (k.tr d)/\zG B d xs:=by
 cases r with
 | lst h r=>cases e;exact⟨.l,_,_,rfl,h,r⟩
 | tup h r=>cases e;exact⟨.t,_,_,rfl,h,r⟩
 | _=>cases e
theorem ya (t:T)(c:Nat):Jo t ≠ .ex c:=by cases t <;> exact λz=>nomatch z
theorem FJ (K:Gl X "zip")(Q:X.mg "zip"=none)(y:Snd X Y a fa)(M:Snd X Y b fb)(r:starEach [a,b] X.env=[(false,eval a X.env),(false,eval b X.env)]:=by exact mq rfl rfl)(e:starEach [b] X.env=[(false,eval b X.env)]:=by exact lO rfl):
  um X Y (.Tuple elts kk pt) (.Call (.Name "zip" p) [a,b] [] pos) (Kg fa fb):= .mk λρ=>
 PI.imp (EC K Q (zw (y ρ) (zw (M ρ) zT e) (by rw[r,e])) r e) λU H R ⟨B,I,q⟩=>step I q λt v S _ s1 N w O=>step w O λu Z G _ x P j d=>by
  cases g:Jo t with
  | bad=>rw[g]at d;exact d.elim
  | ex c=>exact absurd g (ya _ _)
  | ok xs=>
   rw[g]at d;cases f:Jo u with
   | bad=>rw[f]at d;exact d.elim
   | ex c=>exact absurd f (ya _ _)
   | ok ys=>
    rw[f]at d;obtain⟨k1,J,i,rfl,l,w1⟩:=qH (N.mono (zL.ge w.sB x)) g;obtain⟨k2,D,k,rfl,o,w2⟩:=qH P f;exact⟨k1,k2,J,D,i,k,rfl,j.sB _ _ l,j.sB _ _ o,ZL j (show Po Y rI _ G _ R from d) (DT l o w1 w2)⟩
end
end PV
namespace PV
open PySem PySem.Spec PyProof.Rows L2
section
def qI:T->R T
 | .bl b=> .ok (.int (b2 b))
 | .int i=> .ok (.int i)
 | _=> .bad
theorem EW (v:V)(t:T)(B H:Hp)(Q:VK)(r:Rep B v t)(a:zl B H)(q:Po Y rC B H (qI t) Q):
  (∃i,[v]=[V.int i]/\Q (.int i) H)\/∃k,[v]=[V.bl k]/\Q (.int (if k then 1 else 0)) H:=by
 cases r with
 | int i=>exact .inl ⟨i,rfl,lU a q rfl (.int i)⟩
 | bl k=>exact .inr ⟨k,rfl,lU a q rfl (by cases k <;> exact .int _)⟩
 | _=>exact q.elim
theorem D0 (g:Gl X "int")(f:X.mg "int"=none)(e:Snd X Y a fa)(d:lX X a:=by exact lO rfl):Snd X Y (.Call (.Name "int" p) [a] [] pos) (lj qI fa):=
 X0 YU EW g f (PyProof.Rows.Boot.«int») e d
theorem qJ:ZB X (.type "range") (λxs H Q=>∃i j,xs=[.int i,.int j]/\∀r,H r=none->Q (.ref r) (lC H r (.rng i j))):=by
 intro a s k H xs g Q I r h;obtain⟨i,j,rfl,q⟩:=h;obtain⟨u,v,rfl,f,d⟩:=yW r;obtain⟨t,rfl⟩:=f;obtain⟨t',rfl⟩:=d;exact call_range_2 ⟨.ref _,_,I.laid (λb o e=>af _ e) (ao _) (show Zd _ X.w _ _ _ (.rng i j) from ⟨_,_,_,am _ rfl⟩),rfl,q _ (I.hok.fresh (ao _))⟩
noncomputable def V4 (lo:Int)(n:Nat):List V:=(aU n).map λ(i:Nat)=>V.int (lo+(i:Int))
theorem WF (G:X.A.handled=none):ZB X (.type "list") (λxs H Q=>∃r lo hi,xs=[.ref r]/\H r=some (.rng lo hi)/\(-1000000 < lo/\lo < 1000000/\ -1000000 < hi/\hi < 1000000)/\∀l,H l=none->Q (.ref l) (lC H l (.lst (V4 lo (hi - lo).toNat)))):=by
 intro o s P H xs Z Q I p h;obtain⟨r,lo,hi,rfl,e,⟨N,O,U,c4⟩,q⟩:=h;obtain⟨u,rfl,M⟩:=ZX p;obtain rfl:u=Value.ref r:=M;obtain⟨t,v,S,J⟩:=(show Zd _ X.w H _ r _ from I.hok r _ e);have hn:fo lo hi 1=((hi - lo).toNat):=by rw[rangeSize_one];split <;> omega
 refine call_list_range G J (small_one (by omega) (by omega) (by omega) (by omega)) hn (by omega) λh' tk acc c kp k a=> ?_
 have f:Z3 (V4 lo (hi - lo).toNat) acc.toList:=by
  have i:∀(n:Nat) (lo:Int) (d:List _),d.length=n->(∀(j:Nat) (v:Value),d[j]? =some v->∃t,v=Value.int (lo+(j)) t)->Z3 (V4 lo n) d:=by
   intro n
   induction n with
   | zero=>
    intro lo d g _;rw[ck g];exact .nil
   | succ n D=>
    intro lo d g f;cases d with
    | nil=>cases g
    | cons v d=>
     have e:V4 lo (n+1)=V.int (lo+0) :: V4 (lo+1) n:=by
      unfold V4;rw[cA,aF,bi];refine congrArg _ (bO λj _=> ?_);show V.int _=V.int _;congr 1;omega
     rw[e];refine .cons (f 0 v rfl) (D _ d (by simpa using g) λj x B=> ?_)
     obtain⟨t,z⟩:=f (j+1) x (by simpa using B)
     exact⟨t,by rw[z];congr 1;omega⟩
  refine i _ lo _ (by simpa using a.1) λj v K=> ?_
  obtain⟨t,z⟩:=a.2 j v (by simpa using K)
  exact⟨t,by rw[z];congr 1;omega⟩
 have y:(V4 lo (hi - lo).toNat).length<=sizeLine:=by
  rw[cO];unfold V4;rw[ah,bE];omega
 exact⟨.ref _,_,I.laid kp (ao _) (show Zd _ X.w _ h' _ (.lst _) from ⟨y,acc.toList,c,f,by simpa using k⟩),rfl,q _ (I.hok.fresh (ao _))⟩
def tF (fi:En->R (List T)):En->R T:=λρ=>(fi ρ).bind λts=> .ok (.lst ts)
theorem qK (lo:Int)(n:Nat):zG B (V4 lo n) (rng lo n):=by
 unfold V4 rng
 induction aU n with
 | nil=>exact .nil
 | cons i d a=>exact .cons (.int _) a
theorem Kh (K:X.A.handled=none)(y:Gl X "list")(G:X.mg "list"=none)(k :Gl X "range")(o :X.mg "range"=none)(D:Snd X Y a fa)(M:Snd X Y b fb)
  (w:starEach [a,b] X.env=[(false,eval a X.env),(false,eval b X.env)]:=by exact mq rfl rfl) (d:lX X b:=by exact lO rfl):Snd X Y (.Call (.Name "list" p) [.Call (.Name "range" p') [a,b] [] pos'] [] pos) (tF (JI fa fb)):= .mk λρ=>
 PE.imp (jZ (WF K) y G PyProof.Rows.Boot.«list» (zw (jZ qJ k o boot_range (zw (D ρ) (zw (M ρ) zT d) (by rw[w,d])) (by decide) (by decide) (by rw[w,d]) (by rw[d];rfl)) zT (lO rfl)) (by decide) (by decide) (lO rfl) rfl) λU H Q ⟨B,I,q⟩=>by
  have q:Po Y rC B H ((fa ρ).bind λt=>(fb ρ).bind λt' =>(match t,t' with | .int i,.int j=>if -1000000 < i/\i < 1000000/\ -1000000 < j/\j < 1000000 then R.ok (rng i (j - i).toNat) else .bad | _,_=> .bad).bind λts=> .ok (.lst ts)) Q:=by
   revert q;unfold tF JI;cases fa ρ with
   | ok t=>cases fb ρ <;> exact λq=>q
   | ex c=>exact λq=>q
   | bad=>exact λq=>q
  refine step I q λt v S _ s1 N J O=>step J O λt' v' Z _ P x I2 e=> ?_;cases N with
  | int i=>
   cases x with
   | int j=>
    by_cases c: -1000000 < i/\i < 1000000/\ -1000000 < j/\j < 1000000
    ·dsimp only at e;rw[if_pos c]at e;refine⟨i,j,rfl,λr hr=>⟨r,i,j,rfl,zB,c,λl f=> ?_⟩⟩;have g:l ≠ r:=λz=>by rw[z,zB]at f;cases f
     have u:=by rw[zm g]at f;exact f
     refine e _ _ (zl.new hr _ |>.trans (zl.new f _)) (.lst ?_ (qK _ _))
     rw[zV u,zB]
    ·dsimp only at e;rw[if_neg c]at e;exact e.elim
   | _=>exact e.elim
  | _=>cases x <;> exact e.elim
def rL (i j:Nat):En->RS:=λρ=>match ρ[j]? with
 | some (.ow ts)=> .nx ((ρ.set j (.vl (.lst ts))).set i (.vl (.lst ts)))
 | _=> .bad
theorem SI.give (I:SI Y B ρ σ H)(S:ρ[j]? =some (.ow ts)):∃(a:Addr) (K :Hp),σ[j]? =some (some (V.ref a))/\zl B K /\Rep K (.ref a) (.lst ts)/\SI Y K (ρ.set j (.vl (.lst ts))) σ H:=by
 obtain⟨a,xs,e,b0,h0,Q,rr,d⟩:=I.ow j ts S;have l:zl B (lC B a (.lst xs)):=zl.new b0 _;have P:Rep _ _ _:= .lst zB (rr.mono l);refine⟨a,_,e,l,P,⟨I.s0,I.sH,λb o q=> ?_,λb o q=> ?_,by rw[bp];exact I.len,λk t q=> ?_,λk G q=> ?_,λk c q=> ?_, ?_⟩⟩
 ·by_cases p:b=a
  ·subst p;rw[zB]at q;cases q;exact Q
  ·rw[zm p]at q;exact I.sB b o q
 ·rw[zm λz=>by rw[z,h0]at q;cases q];exact I.old b o q
 ·rcases zD q with ⟨rfl,z⟩ | ⟨_,z⟩
  ·cases z;exact⟨_,e,P⟩
  ·obtain⟨v,Z,r⟩:=I.vl k t z;exact⟨v,Z,r.mono l⟩
 ·rcases zD q with ⟨rfl,z⟩ | ⟨hk,z⟩
  ·cases z
  ·obtain⟨D,M,u,f,i,N,J,X⟩:=I.ow k G z;have g:D ≠ a:=λw=>by subst w;exact d k G hk z u
   refine⟨D,M,u,by rw[zm g];exact f,i,N,J.mono l,λm ws hm hw=> ?_⟩
   rcases zD hw with ⟨rfl,w⟩ | ⟨_,w⟩
   ·cases w
   ·exact X m ws hm w
 ·rcases zD q with ⟨rfl,z⟩ | ⟨_,z⟩
  ·cases z
  ·obtain⟨D,u,r⟩:=I.xc k c z;exact⟨D,u,l _ _ r⟩
 ·obtain⟨U,O,x⟩:=I.st;refine⟨U,O,x.on (λk y hy h=> ?_) l rfl rfl (zl.refl _) λb o p f i cs=> ?_⟩
  ·rcases zD h with ⟨_,z⟩ | ⟨_,z⟩
   ·subst z;cases hy
   ·exact⟨z,rfl⟩
  ·have g:b ≠ a:=λz=>by
    subst z;rcases cs with ⟨C,dx,vs,ez⟩ | ok
    ·rw[Q]at p;cases p;cases ez
    ·exact ok j ts S e
   refine⟨p,by rw[zm g];exact f,i,λok k G h=> ?_⟩
   rcases zD h with ⟨_,z⟩ | ⟨_,z⟩
   ·cases z
   ·exact ok k G z
theorem A0 (f:PE X (.Name y yp) (Yz j))(k:X.N.Nodup)(hi:X.N[i]? =some x)(l:L2.Loc X.env.scope x)(g:swapsWith (.Name y yp) (some (.Name x p')) pos.line X.env=pure false:=by rfl)
  (p:X.fn x=true\/X.env.scope.names.lookup x=some .local:=by first | exact .inl rfl | exact .inr rfl | assumption):wQ X Y (.Assign [.Name x p'] (.Name y yp) pos) (rL i j):= .mk λρ=>
 PS.imp (US k hi l f g p) λD v H ⟨B,I,q⟩=>by
  unfold rL at q;split at q
  ·rename_i ts e;obtain⟨a,d,o,u,r,J⟩:=I.give e;exact⟨_,o,q _ _ d u (J.setV i r)⟩
  ·exact q.elim
end
def nh (y:T):List T->Option (List Bool)
 | []=>some []
 | t :: ts=>match lw 30 t y with
  | none=>none
  | some b=>match nh y ts with
   | none=>none
   | some bs=>some (b :: bs)
def tT (y:T)(ts:List T):R T:=match nh y ts with
 | some bs=> .ok (.int (bs.count true))
 | none=> .bad
def VE (y:T)(ts:List T):R T:=match nh y ts with
 | some bs=>if true∈bs then .ok (.int (bs.idxOf true)) else .bad
 | none=> .bad
def VF (g:T->List T->R T)(a d:En->R T):En->R T:=λρ=>(a ρ).bind λt=>match t with
 | .lst ts=>(d ρ).bind λu=>g u ts
 | _=> .bad
theorem qL {H:Hp}{y:T}{e:Value->Bool}(i:∀(v:V) (t:T) (u:Value) (b:Bool),Z2 v u->Rep H v t->lw 30 t y=some b->e u=b):∀{xs:List V} {ts:List T} {a:List Value} {bs:List Bool},
  Z3 xs a->zG H xs ts->nh y ts=some bs->a.map e=bs/\∀u∈a,∃v t k,Z2 v u/\Rep H v t/\lw 30 t y=some k
 | _,_,_,_,.nil,.nil,h=>by
  cases h;exact⟨rfl,λu l=>by simp at l⟩
 | _,_,_,_,.cons j B,.cons r o,h=>by
  rename_i v u g D t ts;unfold nh at h;cases q:lw 30 t y with
  | none=>rw[q]at h;cases h
  | some k=>
   rw[q]at h;cases d :nh y ts with
   | none=>rw[d]at h;cases h
   | some G =>
    rw[d]at h;cases h;obtain⟨p,x⟩:=qL i B o d;refine⟨by rw[aF,p,i v t u k j r q],λw f=> ?_⟩
    rcases aq.mp f with z | f
    ·exact⟨v,t,k,z ▸ j,r,q⟩
    ·exact x w f
section
theorem qM {e:Value->Bool}:∀a:List Value,List.countP e a=(a.map e).count true
 | []=>rfl
 | u :: d=>by
  rw[List.countP_cons,aF,List.count_cons,qM d];cases e u <;> rfl
theorem VG (P:X.A.units+64 < cLine):rR X "list.count" (λx xs H Q=>∃l ys ts v t bs,x= .ref l/\xs=[v]/\H l=some (.lst ys)/\zG H ys ts/\Rep H v t/\nh t ts=some bs/\Q (.int (bs.count true)) H):=by
 intro g s U H x xs v0 Z Q I y B h;obtain⟨l,ys,ts,v,t,bs,rfl,rfl,O,r,rt,e,q⟩:=h;obtain rfl:v0=Value.ref l:=y;obtain⟨u,rfl,J⟩:=ZX B;obtain⟨S,N,n,K,j⟩:=(show Zd _ X.w H _ l _ from I.hok l _ O);obtain⟨f,o⟩:=Um λz=>lw 30 z t;obtain⟨D,M⟩:=qL o K r e;refine dL fJ ⟨_,j,rfl⟩ PySem.F.entry_list_count (PySem.F.args_list_count_2 _ _) (SeqAt.list_countAt l _ n _ #[] u f) ⟨j,λw G=> ?_, ?_⟩
 ·obtain⟨i,t',k,a,p,d⟩:=M w (by simpa using G)
  rw[o i t' w k a p d];exact(qj I 30 _ (by rw[J8];omega) t' t k i v w u d p rt a J).1
 ·rw[qM,D];exact⟨.int _,H,I.tok _,⟨_,rfl⟩,q⟩
theorem VH (hu:X.A.units+64 < cLine):rR X "list.index" (λx xs H Q=>∃l ys ts v t bs,x= .ref l/\xs=[v]/\H l=some (.lst ys)/\zG H ys ts/\Rep H v t/\nh t ts=some bs/\true∈bs/\Q (.int (bs.idxOf true)) H):=by
 intro B s σ H x xs v0 us Q I O P h;obtain⟨l,ys,ts,v,t,bs,rfl,rfl,hl,r,rt,e,g,q⟩:=h;obtain rfl:v0=Value.ref l:=O;obtain⟨u,rfl,ru⟩:=ZX P;obtain⟨S,d,n,G,J⟩:=(show Zd _ X.w H _ l _ from I.hok l _ hl);obtain⟨f,M⟩:=Um λz=>lw 30 z t;obtain⟨y,h3⟩:=qL M G r e;have K:=f9.mpr g;have a:bs.length=d.length:=by rw[← y,ah]
 have U:=G.length;rw[cO]at S;have j:∀m (g:m < d.length),f d[m]=bs[m]'(by rw[a];exact g):=λm g=>by
  have:(d.map f)[m]'(by rw[ah];exact g)=bs[m]'(by rw[a];exact g):=by simp only[y]
  rw[← this,List.getElem_map]
 refine dL fK ⟨_,J,rfl⟩ PySem.F.entry_list_index (PySem.F.args_list_index_2 _ _) (SeqAt.list_indexAt l _ n _ #[] u f _ (by rw[aD,← a];exact K) (by omega) ?_ ?_) ⟨J,λw Z=> ?_, ?_⟩
 ·rw[h9,j];exact ij K
 ·intro m g o;rw[h9,j m (by simpa using g)]
  have:=List.not_of_lt_findIdx o;simpa using this
 ·obtain⟨D,t',k,i,N,p⟩:=h3 w (by simpa using Z)
  rw[M D t' w k i N p];exact(qj I 30 _ (by rw[J8];omega) t' t k D v w u p N rt i ru).1
 ·exact⟨.int _,H,I.tok _,⟨_,rfl⟩,q⟩
theorem Ki (k:X.A.units+64 < cLine)(w:jn X Y a fa)(K:jn X Y b fb)(f:attributeBase a "count" X.env (eval a X.env)=eval a X.env:=by rfl)(g:lX X b:=by exact lO rfl)(o:(pa.endLine == p.line)=true:=by rfl):
  Snd X Y (.Call (.Attribute a "count" pa) [b] [] p) (VF tT fa fb):= .mk λρ=>by
 have D:(((((backTo p (starEach [b] X.env)).all λx=> !x.fst) && (backToKw p (keywordEach [] X.env)).all λx=>x.fst.isSome) && decide (([b].length+([]:List Keyword).length+if ([]:List Keyword).isEmpty=true then 0 else 1) < 30))=true):=by rw[g];rfl
 refine PE.imp (qb cY fJ PySem.F.type_list_count (VG k) (w ρ) (zw (K ρ) zT g) f D o g rfl) λP H Q ⟨B,I,q⟩=>step I q λt v O _ U M y j=> ?_;cases t with
 | lst ts=>
  cases M with
  | @lst l xs _ h r=>
   refine⟨.inl ⟨rfl,_,SqL.of h⟩,step y j λu G S _ i N J d=> ?_⟩;unfold tT at d;split at d
   ·rename_i bs e;exact⟨l,xs,ts,G,u,bs,rfl,rfl,i _ _ h,r.mono i,N,e,ZL J d (.int _)⟩
   ·exact d.elim
 | _=>exact j.elim
theorem Kj (k:X.A.units+64 < cLine)(w:jn X Y a fa)(K:jn X Y b fb)(f:attributeBase a "index" X.env (eval a X.env)=eval a X.env:=by rfl)(g:lX X b:=by exact lO rfl)(o:(pa.endLine == p.line)=true:=by rfl):
  Snd X Y (.Call (.Attribute a "index" pa) [b] [] p) (VF VE fa fb):= .mk λρ=>by
 have G:(((((backTo p (starEach [b] X.env)).all λx=> !x.fst) && (backToKw p (keywordEach [] X.env)).all λx=>x.fst.isSome) && decide (([b].length+([]:List Keyword).length+if ([]:List Keyword).isEmpty=true then 0 else 1) < 30))=true):=by rw[g];rfl
 refine PE.imp (qb cY fK PySem.F.type_list_index (VH k) (w ρ) (zw (K ρ) zT g) f G o g rfl) λS H Q ⟨B,I,q⟩=>step I q λt v P _ Z M y j=> ?_;cases t with
 | lst ts=>
  cases M with
  | @lst l xs _ h r=>
   refine⟨.inl ⟨rfl,_,SqL.of h⟩,step y j λu D U _ i N J d=> ?_⟩;unfold VE at d;split at d
   ·rename_i bs e;split at d
    ·rename_i O;exact⟨l,xs,ts,D,u,bs,rfl,rfl,i _ _ h,r.mono i,N,e,O,ZL J d (.int _)⟩
    ·exact d.elim
   ·exact d.elim
 | _=>exact j.elim
end
noncomputable def Zc:List T->Option (List Int)
 | []=>some []
 | .int i :: r=>match Zc r with | some l=>some (i :: l) | none=>none
 | _ :: _=>none
def VI:T->R T
 | .lst ts=>match Zc ts with | some l=> .ok (.int l.sum) | none=> .bad
 | _=> .bad
def sA (fi:En->R (List T))(g:T->En->R En)(ft:En->R Bool)(fe:En->R T)(k:Nat)(js:List Nat):En->RS:=λρ=>(fi (frz ρ)).s λts=>(zp g ft fe k js (frz ρ) ts).s λa=> .rf a
def mv (g:List T->R T):List T->R T:=λts=>quiet (g ts)
theorem noex {P:Program}{w:World}{K:aj}{i:Str->Option Value}{base:Heap}{cl:Nat->Value}{k n:Nat}{f:Addr}{l:FuncData}{j:List Str}{g:List T->R T}(F:Jj P w K i base (lE P w) k f l j (spP cl n g)):Jj P w K i base mw k f l j (spP cl n (mv g)):=by
 have d:∀a H Q E,spP cl n (mv g) a H Q E->spP cl n g a H Q (λ_ _ _=>False):=λa H Q E ⟨B,ts,u,o,r,q⟩=>⟨B,ts,u,o,r,by
  unfold mv at q;revert q;cases g ts with
  | ok t=>exact λq=>q
  | ex c=>exact λq=>q.elim
  | bad=>exact λq=>q.elim⟩
 refine⟨λa H Q E h=>F.len a H Q _ (d a H Q E h),λA outer s H args v a Q E hr x y G h=> ?_⟩;refine d8 (F.run A _ s H _ v a Q _ hr x y G (d a H Q E h)) λr p z=> ?_;cases r with
 | ok D=>cases D <;> exact z
 | error e=>
  obtain⟨_,_,_,_,_,_,_,z⟩:=(show lE P w _ H s (λ_ _ _=>False) e p from z);exact z.elim
theorem Ut:∀{H:Hp} {xs:List V} {ts:List T} {a:List Value} {f:List Int},zG H xs ts->Z3 xs a->Zc ts=some f->∃d:List (Int×Tok),a=d.map (λp=>Value.int p.1 p.2)/\d.map (·.1)=f
 | _,_,_,_,f,.nil,.nil,h=>by
  have h' :=h;cases h';exact⟨[],rfl,rfl⟩
 | H,_,_,_,f,.cons r j,.cons g q,h=>by
  cases r with
  | int i=>
   unfold Zc at h;split at h
   ·rename_i l e;cases h;obtain⟨d,k,o⟩:=Ut j q e;obtain⟨tk,rfl⟩:=g;exact⟨(i,tk) :: d,by rw[k];rfl,by rw[aF,o]⟩
   ·cases h
  | _=>cases h
section
variable {X:Cx}{Y:Fx}{a b:Expr}{fa fb:En->R T}{pos p p' pos' :Pos}
theorem qN (y:X.A.handled=none):ZB X (.builtin "sum") (λk H Q=>∃l xs ts d,k=[.ref l]/\H l=some (.lst xs)/\zG H xs ts/\Zc ts=some d/\Q (.int d.sum) H):=by
 intro j s G H k J Q I f h;obtain⟨l,xs,ts,d,rfl,D,r,x,q⟩:=h;obtain⟨u,rfl,B⟩:=ZX f;obtain rfl:u=Value.ref l:=B;obtain⟨i,f,p,_⟩:=zS I (.inl D) r;obtain⟨g,o,v⟩:=Ut r f x;have e:i.toArray=intItems g.toArray:=by rw[o];simp[intItems]
 rw[e]at p;refine sum_intListG y p λh' tk t' kp=> ?_;have w:preSum (numAt g.toArray) g.toArray.size=d.sum:=by
  rw[preSum_eq,dY (by simp),← v]
 rw[w];exact⟨.int _,H,I.kept kp,⟨t',rfl⟩,q⟩
theorem CQ (o:X.A.handled=none)(d:Gl X "sum")(g:X.mg "sum"=none)(f:jn X Y a fa)(i:lX X a:=by exact lO rfl):Snd X Y (.Call (.Name "sum" p) [a] [] pos) (lj VI fa):=
 W2 (qN o) (λv t B H Q r j q=>by
  cases r with
  | @lst l xs ts h r=>
   have q:Po Y rC B H (match Zc ts with | some k=> .ok _ | none=> .bad) Q:=q
   split at q
   ·rename_i k e;exact⟨l,xs,ts,k,rfl,h,r,e,lU j q rfl (.int _)⟩
   ·exact q.elim
  | _=>exact q.elim) d g boot_sum f i
end
section
variable {X:Cx}{Y:Fx}{tg iter elt:Expr}{ifs:List Expr}{scope:Scope}{pos pos' :Pos}{N' :List Str}{k:Nat}{js:List Nat}{fi:En->R (List T)}{tG:TG}{g:T->En->R En}{ft:En->R Bool}{fe:En->R T}
theorem Dy (C:W4 X Y tg iter elt ifs scope N' k js fi tG g ft fe):wQ X Y (.Return (some (.ListComp elt [⟨tg,iter,ifs,0⟩] scope pos)) pos') (sA fi g ft fe k js):= .mk λρ=>by
 have pe:PE X (.ListComp elt [⟨tg,iter,ifs,0⟩] scope pos) (λd H Q=>∃B,SI Y B (frz ρ) d H/\PoS Y B ((fi (frz ρ)).s λts=>(zp g ft fe k js (frz ρ) ts).s λr=> .rf r) { nx:=λ_ _=>False,rt:=Q }):=by
  intro j s d H Q I ⟨B,J,q⟩;refine Wz (Jl rfl) (F:=λD x =>Q (.ref D) x) (te:=λd H Q=>∃f a,f.cl=Y.cl/\(f.E=λ_ _ _=>False)/\tS f rC fe a d H Q) (tt:=λd H Q=>∃f a,f.cl=Y.cl/\tS f rE ft a d H Q) C.sc C.cp C.cm (C.it (frz ρ)) C.gt
   (λcl l O H3 fp j p s d H Q I ⟨f,a,G,q⟩=>C.tt f G cl l O H3 fp _ a _ s d H Q I q) (λcl l O H3 fp j xe hp p s d H Q I ⟨f,a,G,U,q⟩=>C.el f G cl l O H3 fp _ xe (U ▸ hp) a _ s d H Q I q) I ?_ ?_ C.hs
  ·refine JH J q λts it' H1 _ s1 r1 v i=> ?_;intro D P;unfold zp at i;split at i
   ·rename_i hl;cases y:zy g ft fe ts _ with
    | bad=>rw[y]at i;exact i.elim
    | ex c=>rw[y]at i;exact i.elim
    | ok r=>
     rw[y]at i;refine wa C.gk C.gn v r1 hl y P λx xs B' M Z r' l' S sb' => ?_;exact(show PoS Y _ _ _ from i) D xs x B' (v.sH.trans M) (v.sH.free P) Z r' S (l'.trans (X2 v.sH v.old M v.sB))
   ·exact i.elim
  ·intro D Cc x M I' q' hC h0 hL u w N;obtain⟨m,hm⟩:=N;refine⟨m,hm,λh' K=>⟨.ref D,x, ?_,rfl,q'⟩⟩;exact I'.turned (λb o hb e=>K.extBut b o hb e) hC (bI hL).symm (.inr h0) u w
 refine PS.imp (xR pe) λD d H ⟨B,I,q⟩=>⟨_,I.frz, ?_⟩;have q:=PoS.up I.up q;unfold sA at q;revert q;cases fi _ with
 | bad=>exact λq=>q
 | ex c=>exact λq=>q
 | ok ts=>
  show PoS Y _ ((zp g ft fe k js _ ts).s λr=> .rf r) D->PoS Y _ ((zp g ft fe k js _ ts).s λr=> .rf r) _;cases zp g ft fe k js _ ts with
  | bad=>exact λq=>q
  | ex c=>exact λq=>q
  | ok r=>exact λq=>q
end
end PV
namespace PySem.RV
open PySem PySem.Spec PyProof.Rows PySem.Builtin.SmallTypes
theorem yb:Manifest.owners.lookup (String.ofList "desrever".toList.reverse)=some Manifest.sig_reversed:=by kernel_rfl
theorem jp:Slot "reversed" "__next__" "reversed.__next__":=
 .of (owner:="reversed") (n:="__next__") (by kernel_rfl) (by decide+kernel) (by decide+kernel) (by decide+kernel)
  (by first | exact .inl (by decide+kernel) | exact .inr (by decide+kernel)) (by kernel_rfl)
theorem W7:entryFor table "reversed.__next__"=some Builtin.«reversed.__next__»:=entryFor_of_tree (by kernel_rfl)
theorem uL (a:Value):argsOk "reversed.__next__" ⟨[a],[]⟩:=by
 unfold argsOk;rw[signature?_of (n:="__txen__".toList) (by kernel_rfl) yb];kernel_rfl
theorem uM:Slot "reversed" "__iter__" "reversed.__iter__":=
 .of (owner:="reversed") (n:="__iter__") (by kernel_rfl) (by decide+kernel) (by decide+kernel) (by decide+kernel)
  (by first | exact .inl (by decide+kernel) | exact .inr (by decide+kernel)) (by kernel_rfl)
theorem qO (a:Value):argsOk "reversed.__iter__" ⟨[a],[]⟩:=by
 unfold argsOk;rw[signature?_of (n:="__reti__".toList) (by kernel_rfl) yb];kernel_rfl
theorem Y9:entryFor table "reversed.__iter__"=some Builtin.«dict_keyiterator.__iter__»:=
 entryFor_alias (id' :="dict_keyiterator.__iter__") (by kernel_rfl) (by first | rfl | decide+kernel | (unfold String.splitOn;simp+decide [String.splitOnAux])) (by decide+kernel) (by kernel_rfl)
theorem FW:typeLookup (.type "tuple") "__reversed__"=pure none:=by rw[typeLookup_type,builtinLookup_eq_fast];kernel_rfl
theorem Dc:isSubtype (.type "tuple") (.type "dict")=pure false:=by rw[isSubtype_type];kernel_rfl
noncomputable abbrev IsRv (h:Heap)(it:Addr)(v:Value)(i:Int):Prop:=h.get? it=some { cls:= .type "reversed",data:= .fields #[v,rawInt i] }
section
variable {prog:Program}{w:World}{A:Around}{E:Value->Shared->Prop}{s:Shared}{it l:Addr}{xs:Array Value}
theorem Uu {v:Value}{i:Int}(x:IsRv s.heap it v i):s.TypeIs (.ref it) "reversed":=⟨_,x,rfl⟩
theorem next_item {i:Nat}{x:Value}{Q:Option Value->Shared->Prop}(a:IsRv s.heap it (.ref l) (i:Int))(d:IsTup s.heap l xs)(o:(xs.size:Int) < 2 ^ 63)(e:xs[i]? =some x)
  (k:∀h' tk,IsRv h' it (.ref l) ((i:Int) - 1)->d7 it s.heap h' ->Q (some x) { s with heap:=h',toks:=tk }):wpAny (model prog w) A (pyNext (.ref it)) Q E s:=by
 refine aa (dk (bJ (Uu a) jp (cf jp (Uu a) W7 ?_ (uL _))));refine aa (cB rfl ?_);refine aa (bz a rfl rfl ?_);refine aa (bz a rfl rfl ?_);have hi:=(Array.getElem?_eq_some_iff.mp e).1;have hT:=d.typeIs;refine aa (wpAny_specialOf hT slot_tuple_getitem.lookup ?_);refine aa (wpAny_mkInt ?_);refine aa (dk (getItem_tuple d (by omega) (by omega) (seqIndex_of (by omega) (by omega)) (by simpa using e) ?_))
 refine aa (bz a rfl rfl ?_);refine aa (bK a (by simp) λf j g=> ?_)
 exact aw ⟨x,rfl,aw (k f _ j g)⟩
theorem next_end {Q:Option Value->Shared->Prop}(d:A.handled=none)(a:IsRv s.heap it (.ref l) (-1))
  (j:∀h',g_ it s.heap h' ->Q none { s with heap:=h' }):wpAny (model prog w) A (pyNext (.ref it)) Q E s:=by
 refine aa (dk (bJ (Uu a) jp (cf jp (Uu a) W7 ?_ (uL _))));refine aa (cB rfl ?_);refine aa (bz a rfl rfl ?_);refine aa (bz a rfl rfl ?_);refine aa (eD ?_);refine aa (show wpAny _ _ _ _ _ _ from ?_);refine aa (bK a (by simp) λo i g=> ?_)
 refine bK i (by simp) λp k f=> ?_
 refine aa (show wpAny _ _ (newExc _ [] >>= λe=>raiseNew e) _ _ _ from ?_);refine aa ?_;refine aa (bx (aa (cB (by first | rfl | (simp only[firstArgMember])) (bx ?_ (by size_fits)))) (by size_fits))
 refine aa (wpAny_handled ?_);rw[d];refine aa (aw (wpAny_throw ?_));refine aa (wpAny_isInstance ⟨_,am _ rfl,rfl⟩ isSubtype_stop ?_);exact aw (j _ (((g.extBut.trans f.extBut).push _).push _))
theorem iter_rv {v:Value}{i:Int}{Q:Value->Shared->Prop}(a:IsRv s.heap it v i)(h:Q (.ref it) s):wpAny (model prog w) A (pyIter (.ref it)) Q E s:=by
 refine wpAny_pyIter_slot (Uu a) uM (cf uM (Uu a) Y9 ?_ (qO _));exact aw ⟨_,rfl,"reversed",_,Uu a,jp.lookup,h⟩
theorem Xf:mroOf (.type "reversed")=pure [.type "reversed",.type "object"]:=by rw[mroOf_type];kernel_rfl
theorem CV:typeLookup (.type "reversed") "__new__"=pure (some (.builtin "reversed.__new__")):=by kernel_rfl
theorem Kk:Bind.madeBy (.type "reversed")=pure (some "reversed.__new__"):=madeBy_type Xf CV (by decide+kernel)
theorem ES:isSubtype (.type "reversed") (.type "reversed")=pure true:=by rw[isSubtype_type];kernel_rfl
theorem Fg (a:Value):newClass "reversed" ⟨[.type "reversed",a],[]⟩=pure (.type "reversed",[a]):=by
 unfold newClass;simp only[isType,ES,pure_bind,bv,aB,if_false]
theorem qQ:entryFor table "reversed.__new__"=some Builtin.«reversed.__new__»:=entryFor_of_tree (by kernel_rfl)
theorem VJ {Q:Fin->Shared->Prop}(a:IsTup s.heap l xs)(d:(xs.size:Int) < 2 ^ 63)
  (h:∀tk,Q (.done (.ret (.ref s.heap.objs.size))) { s with heap:=s.heap.push { cls:= .type "reversed",data:= .fields #[.ref l,rawInt ((xs.size:Int) - 1)] },toks:=tk }):
  wpAny (model prog w) A (Builtin.«reversed.__new__» ⟨[.type "reversed",.ref l],[]⟩) Q E s:=by
 have hT:=a.typeIs;refine aa (cB (Fg _) ?_);refine aa (cB (by first | rfl | kernel_rfl) ?_)
 refine aa (cB (by first | rfl | kernel_rfl) ?_)
 refine aa (wpAny_specialOf hT FW ?_);refine aa ?_;refine aa (wpAny_isInstance hT Dc ?_);refine aa (wpAny_specialOf hT slot_tuple_getitem.lookup ?_);refine aw ?_;refine aa (len_tuple a d ?_);refine aa (cB rfl ?_);refine aa (show wpAny _ _ (newObj _ (.fields #[.ref l,rawInt _])) _ _ _ from ?_);exact bx (aw (h _)) (by size_fits)
theorem qR:Slot "reversed" "__init__" "object.__init__":=
 .of (owner:="object") (n:="__init__") (by kernel_rfl) (by decide+kernel) (by decide+kernel) (by decide+kernel)
  (by first | exact .inl (by decide+kernel) | exact .inr (by decide+kernel)) (by kernel_rfl)
theorem qS:TypeCalled "reversed" "reversed.__new__" "object.__init__":=
 ⟨by decide+kernel,by decide+kernel,⟨_,_,Xf⟩,Kk,by decide+kernel,by kernel_rfl,qR⟩
theorem VL (a:Value):checkTypeCall "reversed" ⟨[a],[]⟩=pure ():=by kernel_rfl
theorem VM (a:Value):checkBuiltinCall "reversed.__new__" ⟨[.type "reversed",a],[]⟩=pure ():=by kernel_rfl
theorem call_rvT (e:IsTup s.heap l xs)(f:(xs.size:Int) < 2 ^ 63)
  (h:∀tk,Q (.ref s.heap.objs.size) { s with heap:=s.heap.push { cls:= .type "reversed",data:= .fields #[.ref l,rawInt ((xs.size:Int) - 1)] },toks:=tk }):wpAny (model prog w) A (call (.type "reversed") [.ref l]) Q E s:=by
 refine callType_new (S:=λ_ R s=>(∃xs,IsTup s.heap l xs/\(xs.size:Int) < 2 ^ 63/\∀tk,R (.ok (.ret (.ref s.heap.objs.size))) { s with heap:=s.heap.push { cls:= .type "reversed",data:= .fields #[.ref l,rawInt ((xs.size) - 1)] },toks:=tk })) qS (by decide) (VL _) (VM _) (λobj=>PySem.F.args_object_init_2 obj _) qQ (.of_wp λprog w A R s h=> ?_) ⟨xs,e,f,λtk=> ?_⟩
 ·obtain⟨xs,g,d,a⟩:=h;exact VJ g d λtk=>⟨_,rfl,a tk⟩
 ·exact⟨⟨_,am _ rfl,rfl⟩,h tk⟩
end
end PySem.RV
namespace PySem.RV
open PySem PySem.Spec PyProof.Rows
theorem VN:typeLookup (.type "list_reverseiterator") "__len__"=pure none:=by rw[typeLookup_type,builtinLookup_eq_fast];kernel_rfl
theorem Kl:typeLookup (.type "list_reverseiterator") "__length_hint__"=pure (some (.builtin "list_reverseiterator.__length_hint__")):=by rw[typeLookup_type];kernel_rfl
section
variable {G:Array GenState->Array GenState->Prop}{P:Nat->Value->Prop}{St:Nat->Shared->Prop}
theorem Ya {Q:List Value->Shared->Prop}(W:WalksS prog w A.in1 I fp wr G n P St)(hT:∀i s,St i s->s.TypeIs (.ref I) "list_reverseiterator")(j:St 0 s)(k:∀b∈fp,b < s.heap.objs.size)(u:I∈fp)
  (y:∀f acc,Moved wr G s f ->ItemsOf P acc n->Q acc.toList f) (hn:n<=sizeLine):wpAny (model prog w) A (collect (.ref I)) Q E s:=by
 have q:=λz=>bj _ (k _ z);have v:s.heap.objs.size ≠ I:=λz=>q (z ▸ u);unfold collect;refine aa (wpAny_runValue (bB F.entry_proto_collect ?_));refine aa (bx (aw ⟨bQ F.plain_list_iadd _,bB F.entry_list_iadd ?_⟩));have a:=W.frame 0 s (s.heap.push { cls:= .type "list",data:= .seq ([]:List _).toArray }) _ j (ao _) λb _ o e=>af _ e;have r:(s.heap.push { cls:= .type "list",data:= .seq ([]:List _).toArray }).get? _=some _:=am _ rfl;have x:fg (.ref s.heap.objs.size) (.ref I)=false:=by simp[fg,v]
 refine(show wpAny _ _ (Builtin.List.listExtendWith _ _ _) _ _ _ from ?_);refine aa (wpAny_typeOf (hT 0 _ a) ?_);rw[if_neg (by rw[x];decide)]
 refine aa (W.self 0 _ _ _ a (aa (bM ?_)));refine aa (wpAny_specialOf (hT 0 _ a) VN ?_);refine aa (wpAny_specialOf (hT 0 _ a) Kl ?_);generalize g:("list_reverseiterator.__length_hint__")=id0;subst g;refine aa (wpAny_isInstance (b:=true) (hT 0 _ a) (by kernel_rfl) ?_)
 refine aw ?_;refine aw ⟨bQ F.plain_extend_loop _,codeAny_extend_loopS W hn _ q _ n 0 _ _ _ rfl (bn _) a r (ItemsOf.nil P) λf p D B l d=> ?_⟩;exact aa (wpAny_load l (aw (y f _ (Moved.drop_new B (ao _)) d)))
theorem Ek (W:WalksS prog w A.in1.in1 I fp wr G n P St)(hT:∀i s,St i s->s.TypeIs (.ref I) "list_reverseiterator")(f:St 0 s)(j:∀b∈fp,b < s.heap.objs.size)(l:I∈fp)
  (h:∀d acc,Moved wr G s d ->ItemsOf P acc n->Q₁ (.ref d.heap.objs.size) { d with heap:=d.heap.push { cls:= .type "tuple",data:= .seq acc } }) (hsz:n<=sizeLine):
  codeAny (model prog w) A (.call (.builtin "tuple.__new__") ⟨[.type "tuple",.ref I],[]⟩) (wants Q₁ E) s:=by
 refine codeAny_of_tree ?_;refine(show wpAny _ A.in1 (do checkBuiltinCall "tuple.__new__" ⟨[.type "tuple",.ref I],[]⟩;again (.builtin "tuple.__new__" ⟨[.type "tuple",.ref I],[]⟩)) _ _ s from ?_)
 refine aa (cB (F.newCall_tuple_1 _) (aw ⟨bQ ix _,bB F.entry_tuple_new ?_⟩));rw[bZ ix _];have k:=sub_tuple_self;have g:=init_tuple_lookup;have p:=madeHere_tuple;have o:=hT 0 s f
 wp_walk using wpAny_typeOf o,Ya (hn:=hsz) W hT f j l
 intro d acc q a;have e:acc.toList.toArray=acc:=by simp
 refine(show wpAny _ _ (fj acc.toList.toArray >>= λv=>ret v) _ _ _ from ?_);unfold fj;refine aa (bx (aw ?_) (by rw[e];show acc.size<=sizeLine;rw[a.1];exact hsz))
 rw[e];exact h d acc q a
theorem tuple_lr (W:WalksS prog w A.in1.in1.in1 I fp wr G n P St)(hT:∀i s,St i s->s.TypeIs (.ref I) "list_reverseiterator")(f:St 0 s)(g:∀b∈fp,b < s.heap.objs.size)(j:I∈fp)
  (k:∀d acc,Moved wr G s d ->ItemsOf P acc n->Q (.ref d.heap.objs.size) { d with heap:=d.heap.push { cls:= .type "tuple",data:= .seq acc } }) (hsz:n<=sizeLine):
  wpAny (model prog w) A (call (.type "tuple") [.ref I]) Q E s:=
 callType_codes (Q₁:=λobj a=>a.TypeIs obj _/\Q obj _) hJ (F.typeCall_tuple_1 _) F.entry_object_init
  (Ek (hsz:=hsz) W hT f g j λd acc l e=>⟨⟨_,am _ rfl,rfl⟩,k d acc l e⟩) λobj a h₁=>
   ⟨h₁.1,hU obj _,object_init_meets hJ.init.lookup hJ.made (by decide) _ w _ _ _ ⟨h₁.1,rfl,h₁.2⟩⟩
end
end PySem.RV
namespace PV
open PySem PySem.Spec PyProof.Rows L2
def tR (K:aj)(a:Addr)(n:Nat):It:=
 ⟨λi H=>∃xs x,SqT K H a xs/\xs.length=n/\xs.reverse[i]? =some x,λi H x d =>d =H/\∀xs,SqT K H a xs->xs.reverse[i]? =some x,λi H=>∃xs,SqT K H a xs/\xs.length=n/\n<=i⟩
def Ak (K:aj)(a:Addr)(n:Nat):It:=
 ⟨λi H=>∃xs x,SqL K H a xs/\xs.length=n/\xs.reverse[i]? =some x,λi H x d =>d =H/\∀xs,SqL K H a xs->xs.reverse[i]? =some x,λi H=>∃xs,SqL K H a xs/\xs.length=n/\n<=i⟩
theorem Xg {a:Type}{xs:List a}{x:a}(h:xs.reverse[i]? =some x):i < xs.length/\xs[xs.length - 1 - i]? =some x:=by
 have hi:=(au.mp h).1;rw[cy]at hi;rw[fW hi]at h;exact⟨hi,h⟩
theorem VO {P:Program}{w:World}{K:aj}{tg:Expr}(a it:Addr)(n:Nat):yQ P w K tg (tR K a n) [it] it (λi h=>i<=n/\RV.IsRv h it (.ref a) ((n:Int) - 1 - (i:Int))) where
 mem:=by simp
 obj:=λi h st b f=>by
  have e:b=it:=by simpa using f
  subst e;exact⟨_,st.2,λv z=>nomatch z⟩
 keep:=λi h h' st k=>⟨st.1,k it (by simp) _ st.2⟩
 item:=by
  intro X N D q hc i g s σ H E I l st M;subst N D q;obtain⟨xs,x,r,hn,y⟩:=M;obtain⟨U,Z,p,hz⟩:=I.tuple r;obtain⟨hi,S⟩:=Xg y;obtain⟨u,hu,ru⟩:=Z.get S;obtain⟨O,Q,f2,B,J,G⟩:=l it (by simp)
  have hl:=Z.length;have e:(n:Int) - 1 - (i:Int)=((xs.length - 1 - i:Nat):Int):=by omega
  have d:=st.2;rw[e]at d;have f:(U.toArray.size:Int) < 2 ^ 63:=by
   rw[cO]at hz;simp;omega
  refine RV.next_item d p f (x:=u) (by simpa using hu) λh' tk j sb=> ?_
  have I1:Inv X g σ H { s with heap:=h',toks:=tk }:=I.turned (t' :=tk) (λb o f e=>(sb.2 b f).trans e) O Q B J G;have e2:((xs.length - 1 - i:Nat):Int) - 1=(n:Int) - 1 - ((i+1:Nat):Int):=by omega
  rw[e2]at j;exact⟨u,rfl,yR (s:={ s with heap:=h',toks:=tk }) j rfl rfl (by decide) ⟨x,H,I1,ru,⟨rfl,λys hy=>by rw[I.tuple_inj hy r];exact y⟩,⟨by omega,j⟩,λb f=>(l b f).1⟩⟩
 done:=by
  intro X N D q hc i g s σ H E I l st M;subst N D q;obtain⟨xs,r,hn,y⟩:=M;obtain⟨O,Q,f2,B,J,G⟩:=l it (by simp)
  have d:=st.2;have h1:=st.1;rw[show (n:Int) - 1 - (i:Int)= -1 by omega]at d
  exact RV.next_end (I.ok.hd hc) d λh' eb=>⟨rfl,I.turned (t' :=s.toks) (λb o f e=>eb b o f e) O Q B J G⟩
 self:=λ_ _ _ _ _ st h=>RV.iter_rv st.2 h
theorem VP {P:Program}{w:World}{K:aj}{tg:Expr}(a it:Addr)(n:Nat):yQ P w K tg (Ak K a n) [it] it (λi h=>i<=n/\h.IsRevIter it a ((n:Int) - 1 - (i:Int))) where
 mem:=by simp
 obj:=λi h st b j=>by
  have e:b=it:=by simpa using j
  subst e;obtain⟨o,e,c,d⟩:=st.2;exact⟨o,e,λv z=>by rw[d]at z;cases z⟩
 keep:=λi h h' st k=>⟨st.1,st.2.at λo e=>k it (by simp) o e⟩
 item:=by
  intro X O G r Z i g s σ H E I q st N;subst O G r;obtain⟨xs,x,y,hn,B⟩:=N;obtain⟨its,rv,p,hz⟩:=I.list y;obtain⟨hi,U⟩:=Xg B;obtain⟨u,hu,ru⟩:=rv.get U;obtain⟨Q,S,f2,D,M,J⟩:=q it (by simp)
  have e:(n:Int) - 1 - (i:Int)=((xs.length - 1 - i:Nat):Int):=by omega
  have f:=st.2;rw[e]at f;refine wpAny_pyNext_rev_item f p.isList (x:=u) (by simpa using hu) λh' l sb=> ?_
  have I1:Inv X g σ H { s with heap:=h' }:=I.turned (t' :=s.toks) (λb o j e=>(sb.2 b j).trans e) Q S D M J;have e2:((xs.length - 1 - i:Nat):Int) - 1=(n:Int) - 1 - ((i+1:Nat):Int):=by omega
  rw[e2]at l;obtain⟨o,e,c,d⟩:=id l;exact⟨u,rfl,yR (s:={ s with heap:=h' }) e c d (by decide) ⟨x,H,I1,ru,⟨rfl,λys hy=>by rw[I.list_inj hy y];exact B⟩,⟨by omega,l⟩,λb j=>(q b j).1⟩⟩
 done:=by
  intro X O G r Z i g s σ H E I q st N;subst O G r;obtain⟨xs,y,hn,B⟩:=N;obtain⟨Q,S,f2,D,M,J⟩:=q it (by simp)
  have f:=st.2;have h1:=st.1;rw[show (n:Int) - 1 - (i:Int)= -1 by omega]at f
  exact wpAny_pyNext_rev_end (I.ok.hd Z) f λh' eb=>⟨rfl,I.turned (t' :=s.toks) (λb o j e=>eb b o j e) Q S D M J⟩
 self:=λ_ _ _ _ _ st h=>wpAny_pyIter_revIter st.2 h
theorem zG.rev {H:Hp}:∀{a:List V} {ts:List T},zG H a ts->zG H a.reverse ts.reverse
 | _,_,.nil=> .nil
 | _,_,.cons r t=>by rw[cP,cP];exact(zG.rev t).append (.cons r .nil)
theorem DQ {K:aj}{f k:Hp}{a:Addr}{xs:List V}{ts:List T}(h:f a=some (.tup xs))(r:zG f xs ts):rI f k (tR K a xs.length) ts.reverse:=λl q j g=>by
 have d:=g _ _ (j _ _ h);have hr:=r.rev;refine⟨λi hi=> ?_,λi t x H3 e y=> ?_,λi hi=>⟨xs,SqT.of d,rfl,by rw[cy]at hi;rw[r.length];exact hi⟩⟩
 ·obtain⟨v,e,_⟩:=hr.get (ak hi);exact⟨xs,v,SqT.of d,rfl,e⟩
 ·obtain⟨rfl,y⟩:=y;obtain⟨v,p,o⟩:=hr.get e;have:=y xs (SqT.of d);rw[p]at this;cases this;refine⟨zl.refl _, ?_⟩;rw[zL.self l _ g];exact o.mono j
theorem DU {K:aj}{f k:Hp}{a:Addr}{xs:List V}{ts:List T}(h:f a=some (.lst xs))(r:zG f xs ts):rI f k (Ak K a xs.length) ts.reverse:=λl q j g=>by
 have d:=g _ _ (j _ _ h);have hr:=r.rev;refine⟨λi hi=> ?_,λi t x H3 e y=> ?_,λi hi=>⟨xs,SqL.of d,rfl,by rw[cy]at hi;rw[r.length];exact hi⟩⟩
 ·obtain⟨v,e,_⟩:=hr.get (ak hi);exact⟨xs,v,SqL.of d,rfl,e⟩
 ·obtain⟨rfl,y⟩:=y;obtain⟨v,p,o⟩:=hr.get e;have:=y xs (SqL.of d);rw[p]at this;cases this;refine⟨zl.refl _, ?_⟩;rw[zL.self l _ g];exact o.mono j
def BA (a:En->R T):En->R (List T):=λρ=>(a ρ).bind λt=>(Jo t).bind λxs=> .ok xs.reverse
def VQ:T->R T
 | .lst xs=>if xs.length<=lB then .ok (.tup xs.reverse) else .bad
 | _=> .bad
section
variable {X:Cx}{Y:Fx}{a b tg:Expr}{fa fb:En->R T}{pos p p' pos' :Pos}
theorem EH {w:TA}(J:Gl X "reversed")(Q:X.mg "reversed"=none)(D:PA X [a] w)(G:lX X a:=by exact lO rfl):
  PI X tg (.Call (.Name "reversed" p) [a] [] pos) (λk H R=>w k H λB d=>∃l xs,B=[.ref l]/\((d l=some (.lst xs)/\R (Ak X.K l xs.length) d)\/(d l=some (.tup xs)/\R (tR X.K l xs.length) d))):=by
 intro y s k H R I h;refine Call_ (jf I J Q boot_reversed (aZ (lz (D pos _ s k H _ I h) λS i ⟨B,d,g,N,O⟩=> ?_) G rfl));obtain⟨l,xs,e,q⟩:=O;subst e;obtain⟨u,rfl,P⟩:=ZX N;obtain rfl:u=Value.ref l:=P;have ok:∀b∈[i.heap.objs.size],Jh X _ d b:=λb M=>by
  have e:=by simpa using M
  subst e;exact g.fpOk (ao _) (g.hok.fresh (ao _))
 rcases q with ⟨r,q⟩ | ⟨r,q⟩
 ·obtain⟨f,j,p,v⟩:=g.list (SqL.of r);have e:((f.toArray.size):Int) - 1=(xs.length) - 1 - ((0):Int):=by have:=j.length;simp;omega
  refine call_reversed_list p.isList ?_;rw[e];have st:(i.heap.push (revObj l ((xs.length) - 1 - ((0):Int)))).IsRevIter _ l _:=⟨_,am _ rfl,rfl,rfl⟩;refine wpAny_pyIter_revIter st ?_;exact⟨i.heap.objs.size,[i.heap.objs.size],_,_,d,rfl,g.kept (λb o e=>af _ e),VP l _ _,⟨bn _,st⟩,ok,q⟩
 ·obtain⟨f,j,p,v⟩:=g.tuple (SqT.of r);have x:=j.length;have e:((f.toArray.size):Int) - 1=(xs.length) - 1 - ((0):Int):=by simp;omega
  refine RV.call_rvT p (by rw[cO]at v;omega) λtk=> ?_
  rw[e];refine RV.iter_rv (am _ rfl) ?_;exact⟨i.heap.objs.size,[i.heap.objs.size],_,_,d,rfl,g.kept (λb o e=>af _ e),VO l _ _,⟨bn _,am _ rfl⟩,ok,q⟩
theorem Ef (i:Gl X "reversed")(o:X.mg "reversed"=none)(j:Snd X Y a fa)(g:lX X a:=by exact lO rfl):um X Y tg (.Call (.Name "reversed" p) [a] [] pos) (BA fa):= .mk λρ=>
 PI.imp (EH i o (zw (j ρ) zT g) g) λu H R ⟨B,I,q⟩=>step I q λt v f _ w k d e=>by
  cases k with
  | @tup l xs ts h r=>exact⟨l,xs,rfl,.inr ⟨d.sB _ _ h,ZL d (show Po Y rI _ f _ R from e) (DQ h r)⟩⟩
  | @lst l xs ts h r=>exact⟨l,xs,rfl,.inl ⟨d.sB _ _ h,ZL d (show Po Y rI _ f _ R from e) (DU h r)⟩⟩
  | _=>exact e.elim
theorem yc:∀{xs ys:List V} {d e:List Value},Z3 xs d->Z3 ys e->Z3 (xs++ys) (d++e)
 | _,_,_,_,.nil,q=>q
 | _,_,_,_,.cons r t,q=> .cons r (yc t q)
theorem yd:∀{xs:List V} {d:List Value},Z3 xs d->Z3 xs.reverse d.reverse
 | _,_,.nil=> .nil
 | _,_,.cons r t=>by rw[cP,cP];exact yc (yd t) (.cons r .nil)
theorem Km {d:List Value}{acc:Array Value}(h:ItemsOf (λi v=>d.toArray[d.toArray.size - 1 - i]? =some v) acc d.toArray.size):acc.toList=d.reverse:=by
 have j:=by
  have:=h.1;simpa using this
 have g:=h.2;refine dW λi=> ?_
 by_cases hi:i < d.length
 ·have f:i < acc.toList.length:=by simp;omega
  have e:=ak f;have:=g i _ (by rw[← Array.getElem?_toList];exact e)
  rw[fW hi,e,← this];simp
 ·rw[aY (by simp;omega),aY (by simp;omega)]
theorem DE (hh:X.A.handled=none)(gl:Gl X "tuple")(mg:X.mg "tuple"=none)(O :Gl X "reversed")(P :X.mg "reversed"=none)(ha:Snd X Y a fa)(hs:lX X a:=by exact lO rfl)(K :lX X (.Call (.Name "reversed" p') [a] [] pos'):=by exact lO rfl):
  Snd X Y (.Call (.Name "tuple" p) [.Call (.Name "reversed" p') [a] [] pos'] [] pos) (lj VQ fa):= .mk λρ=>by
 intro y s σ H Q I ⟨B,J,q⟩;have hq:tS Y rC fa ρ σ H (λv d=>∃l xs,v= .ref l/\d l=some (.lst xs)/\xs.length<=sizeLine/\∀t,d t=none->Q (.ref t) (lC d t (.tup xs.reverse))):=by
  refine step J q λt v d _ k M w g=> ?_;cases M with
  | @lst l xs ts h r=>
   have g:Po Y rC _ d (if ts.length<=lB then .ok (.tup ts.reverse) else .bad) Q:=g
   split at g
   ·rename_i G;exact⟨l,xs,rfl,w.sB _ _ h,by rw[r.length];exact ZP G,λt ht=>GC w.sB g rfl r.rev ht⟩
   ·exact g.elim
  | _=>exact g.elim
 refine cH (jf I gl mg PyProof.Rows.Boot.«tuple» (aZ (rest:=[]) ?_ K rfl));rw[K];refine ib (cH (jf I O P boot_reversed (aZ (e:=a) (rest:=[]) ?_ hs rfl)));refine lz ((zw (ha ρ) zT hs) pos' y s σ H (λvs d=>∃l xs,vs=[.ref l]/\d l=some (.lst xs)/\xs.length<=sizeLine/\∀t,d t=none->Q (.ref t) (lC d t (.tup xs.reverse))) I ?_) λus k ⟨vs,d,w,M,l,xs,e,hl,U,g⟩=> ?_
 ·obtain⟨B',J',j⟩:=hq;refine⟨B',J', ?_⟩;revert j;cases fa ρ with
  | bad=>exact λj =>j
  | ex c=>exact λj =>j
  | ok t=>
   intro j v d k M;obtain⟨l,xs,rfl,h⟩:=j v d k M;exact⟨l,xs,rfl,h⟩
 subst e;obtain⟨u,rfl,ru⟩:=ZX M;obtain rfl:u=Value.ref l:=ru;obtain⟨f,rv,pl,_⟩:=w.list (SqL.of hl);have x:=w.hok.lt hl;refine call_reversed_list pl.isList (iq ?_);have e0:((f.toArray.size):Int) - 1 - ((0:Nat))=((f.toArray.size):Int) - 1:=by omega
 refine RV.tuple_lr (Walks.listRev (A:=X.A.in1.in1.in1) hh _ l (aK x) _).toS (λi s st=>st.2.1.typeIs) ⟨bn _,⟨_,am _ rfl,rfl,by rw[e0];rfl⟩,pl.isList.push _⟩ (λb G=> ?_) (by simp) (λs' acc N D=> ?_) (by rw[aD,← rv.length];exact U)
 ·have G:=by simpa using G
  rcases G with rfl | rfl
  ·rw[bR];exact eF _
  ·rw[bR];exact cu x
 obtain⟨h',g',d',S,os'⟩:=s';have e1:g' =k.gens:=N.gens;have e2:d' =k.drawn:=N.drawn;have e3:=N.os;subst e1 e2 e3;have kp:∀b o,k.heap.get? b=some o->h'.get? b=some o:=λb o e=>N.heap b o (λz=>by
  have z:b=k.heap.objs.size:=by simpa using z
  have:=ax e;rw[z]at this;exact bj _ this) (af _ e)
 have Z:=w.kept (t' :=S) kp;have ea:acc=f.reverse.toArray:=by rw[← Km D]
 rw[ea];refine⟨.ref h'.objs.size,lC d _ (.tup xs.reverse),Z.laid (λb u e=>af _ e) (ao _) ⟨by rw[cy];exact U,f.reverse,yd rv,⟨_,am _ rfl,rfl,_,rfl⟩,.inr ⟨_,am _ rfl,rfl⟩⟩,rfl,g _ (Z.hok.fresh (ao _))⟩
end
noncomputable def wS:List T->Option Bool
 | []=>some false
 | .bl k :: r=>match wS r with | some j=>some (k || j) | none=>none
 | _ :: _=>none
def Aq:T->R T
 | .lst ts=>match wS ts with | some k=> .ok (.bl k) | none=> .bad
 | _=> .bad
theorem qU:∀{H:Hp} {xs:List V} {ts:List T} {a:List Value} {k:Bool},zG H xs ts->Z3 xs a->wS ts=some k->∃tr:Nat->Bool,(∀i v,a[i]? =some v->v=Value.bool (tr i))/\(aU a.length).any tr=k
 | _,_,_,_,k,.nil,.nil,h=>by
  have h' :=h;cases h';exact⟨λ_=>true,λi v e=>by simp at e,rfl⟩
 | H,_,_,_,k,.cons r rs,.cons (b:=u) rv vs,h=>by
  cases r with
  | bl b=>
   unfold wS at h;split at h
   ·rename_i j e;cases h;obtain⟨tr,f,d⟩:=qU rs vs e;obtain rfl:u=Value.bool b:=rv;refine⟨λi=>match i with | 0=>b | i+1=>tr i,λi v e=> ?_, ?_⟩
    ·cases i with
     | zero=>simp at e;exact e.symm
     | succ i=>exact f i v (by simpa using e)
    ·rw[ar,cA,i9,List.any_map,← d];rfl
   ·cases h
  | _=>cases h
section
variable {X:Cx}{Y:Fx}{a b:Expr}{fa fb:En->R T}{pos p p' pos' pt:Pos}{elts:List Expr}{kk:Nat}
theorem qV (K:X.A.handled=none):ZB X (.builtin "any") (λx H Q=>∃l xs ts k,x=[.ref l]/\H l=some (.lst xs)/\zG H xs ts/\wS ts=some k/\Q (.bl k) H):=by
 intro w s P H x U Q I f h;obtain⟨l,xs,ts,k,rfl,y,r,J,q⟩:=h;obtain⟨u,rfl,M⟩:=ZX f;obtain rfl:u=Value.ref l:=M;obtain⟨j,f,p,_⟩:=zS I (.inl y) r;obtain⟨tr,D,G⟩:=qU r f J;refine call_any_walk (cq p ?_);have d:=I.hok.lt y;have old:∀b o,s.heap.get? b=some o->(s.heap.push { cls:= .type "list_iterator",data:= .fields #[.ref l,.int 0 0] }).get? b=some o:=λb o e=>af _ e;refine⟨s.heap.objs.size,_,_,_,_,_,tr,rfl,dw (A:=X.A.in1) K _ l (aK d) j.toArray, ?_, ?_,λh' tk g => ?_⟩
 ·refine⟨?_,p.at λo e=>old _ o e⟩;exact⟨_,am _ rfl,rfl,rfl⟩
 ·intro i v S O N hi B;rw[D i v (by simpa using hi)]
  exact bf B
 ·rw[aD,G];refine⟨.bl k,H,I.kept (λb o e=>g b o ?_ (old b o e)),rfl,q⟩;simp;exact aK (ax e)
theorem FG (o:X.A.handled=none)(d:Gl X "any")(g:X.mg "any"=none)(f:jn X Y a fa)(i:lX X a:=by exact lO rfl):Snd X Y (.Call (.Name "any" p) [a] [] pos) (lj Aq fa):=
 W2 (qV o) (λv t B H Q r j q=>by
  cases r with
  | @lst l xs ts h r=>
   have q:Po Y rC B H (match wS ts with | some k=> .ok _ | none=> .bad) Q:=q
   split at q
   ·rename_i k e;exact⟨l,xs,ts,k,rfl,h,r,e,lU j q rfl (.bl k)⟩
   ·exact q.elim
  | _=>exact q.elim) d g PyProof.Rows.Boot.«any» f i
end
noncomputable def ye (x:Int):List Int->List Int
 | []=>[x]
 | y :: ys=>if x<=y then x :: y :: ys else y :: ye x ys
def qW:List Int->List Int
 | []=>[]
 | x :: xs=>ye x (qW xs)
def VR:T->R T
 | .lst ts=>match Zc ts with | some l=>if ts.length < 64 then .ok (.lst ((qW l).map T.int)) else .bad | none=> .bad
 | _=> .bad
theorem wc (x:Int):∀ys:List Int,(ye x ys).Perm (x :: ys)
 | []=> .refl _
 | y :: ys=>by
  unfold ye;split
  ·exact .refl _
  ·exact((wc x ys).cons y).trans (.swap x y ys)
theorem uN:∀xs:List Int,(qW xs).Perm xs
 | []=> .refl _
 | x :: xs=>(wc x _).trans ((uN xs).cons x)
theorem wd (x:Int):∀ys:List Int,ys.Pairwise (·<=·)->(ye x ys).Pairwise (·<=·)
 | [],_=>by unfold ye;simp
 | y :: ys,h=>by
  unfold ye;rw[de]at h;split
  ·rename_i d;refine de.mpr ⟨λz a=> ?_,de.mpr h⟩;rcases aq.mp a with rfl | a
   ·exact d
   ·exact Int.le_trans d (h.1 z a)
  ·refine de.mpr ⟨λz a=> ?_,wd x ys h.2⟩;rcases aq.mp ((wc x ys).mem_iff.mp a) with rfl | a
   ·omega
   ·exact h.1 z a
theorem we:∀xs:List Int,(qW xs).Pairwise (·<=·)
 | []=> .nil
 | x :: xs=>wd x _ (we xs)
theorem uO:∀(xs ys:List Int),xs.Perm ys->xs.Pairwise (·<=·)->ys.Pairwise (·<=·)->xs=ys
 | [],ys,p,_,_=>(List.nil_perm.mp p).symm
 | x :: xs,[],p,_,_=>by cases List.perm_nil.mp p
 | x :: xs,y :: ys,p,d,a=>by
  rw[de]at d a;have e:x=y:=by
   have g:x<=y:=by
    rcases aq.mp (p.mem_iff.mpr (ag)) with z | z
    ·omega
    ·exact d.1 y z
   have f:y<=x:=by
    rcases aq.mp (p.mem_iff.mp (ag)) with z | z
    ·omega
    ·exact a.1 x z
   omega
  subst e;rw[uO xs ys (List.Perm.cons_inv p) d.2 a.2]
theorem J7:∀{a:List Value} {ns:List Int},IntsAre a ns->Z3 (ns.map V.int) a:=by
 intro a ns h
 induction h with
 | nil=>exact .nil
 | cons n t _ d=>exact .cons ⟨_,rfl⟩ d
theorem yf:∀(a:List (Int×Tok)),IntsAre (a.map λp=>Value.int p.1 p.2) (a.map (·.1))
 | []=> .nil
 | p :: a=> .cons _ _ (yf a)
theorem wf:∀ns:List Int,zG H (ns.map V.int) (ns.map T.int)
 | []=> .nil
 | n :: ns=> .cons (.int n) (wf ns)
section
theorem Yb:ZB X (.builtin "sorted") (λx H Q=>∃l xs ts d,x=[.ref l]/\H l=some (.lst xs)/\zG H xs ts/\Zc ts=some d/\ts.length < 64/\∀r,H r=none->Q (.ref r) (lC H r (.lst ((qW d).map V.int)))):=by
 intro v s S H x Z Q I g h;obtain⟨l,xs,ts,d,rfl,P,r,J,N,q⟩:=h;obtain⟨u,rfl,O⟩:=ZX g;obtain rfl:u=Value.ref l:=O;obtain⟨f,g,p,o,_⟩:=zS I (.inl P) r;obtain⟨w,j,y⟩:=Ut r g J;refine sorted_ints p (j ▸ yf w) (by omega) λout i D k B=> ?_
 have e:=uO _ _ (k.trans (by rw[y];exact(uN d).symm)) B (we d)
 obtain⟨n,K⟩:=sortedAll_at _ f out;have a:s.heap.objs.size<=s.heap.objs.size+1:=f6 _;refine⟨.ref _,lC H _ _,I.laid (λb u e=>sortedAll_old e) a ?_,rfl,by have:=q _ (I.hok.fresh a);rw[← e]at this;exact this⟩
 have G:i.length=ts.length:=by
  have M:=k.length_eq;rw[ah]at M;have U:f.length=w.length:=by rw[j,ah]
  omega
 exact⟨by rw[ah,cO];omega,out.toList,n,J7 D,K⟩
theorem EY (g:Gl X "sorted")(j:X.mg "sorted"=none)(i:jn X Y a fa)(o:lX X a:=by exact lO rfl):Snd X Y (.Call (.Name "sorted" p) [a] [] pos) (lj VR fa):=
 W2 Yb (λv t B H Q r u q=>by
  cases r with
  | @lst l xs ts h r=>
   have q:Po Y rC B H (match Zc ts with | some l=>if ts.length < 64 then .ok _ else .bad | none=> .bad) Q:=q
   split at q
   ·rename_i k e;split at q
    ·rename_i d;refine⟨l,xs,ts,k,rfl,h,r,e,d,λz f=> ?_⟩;exact q _ _ (zl.new f _) (.lst (jo f _) (wf _))
    ·exact q.elim
   ·exact q.elim
  | _=>exact q.elim) g j PyProof.Rows.Boot.«sorted» i o
end
end PV
namespace PySem.RV
open PySem PySem.Spec PyProof.Rows PySem.Builtin.SmallTypes
theorem draws_tup (f:A.handled=none)(it l:Addr)(d:l ≠ it)(items:Array Value):Draws prog w A it [it,l] items.size (λi v=>items[i]? =some v) (λi h=>h.IsTupleIter it l i/\h.IsTuple l items) where
 live:=λi h st=>(ZG.nx_tup d items).there st it (.head _)
 frame:=λi h h' st e=>(ZG.nx_tup d items).keep st e
 item:=λi s Q E hi st g=>ZG.tup_item st.1 st.2 (x:=items[i]) (by simp[hi]) λh' a b=>g _ h' s.toks (by simp[hi]) ⟨a,st.2.extBut b.extBut d⟩ b
 done:=λs Q E st hE=>ZG.tup_stop f st.1 st.2 (by simp) hE
noncomputable abbrev CF (i:Addr):Obj:={ cls:= .type "enumerate",data:= .fields #[.none,.bool false,.ref i,rawInt 0,.none,.none] }
theorem qY (l:Addr)(items:Array Value)(n:Nat)(e:Option Addr)(j:Array (Option Value)):
  Meets (Builtin.«enumerate.__new__» ⟨[.type "enumerate",.ref l],[]⟩) (λ_ R s=>s.heap.get? l=some { cls:= .type "tuple",dict:=e,data:= .seq items n,slots:=j }/\
   R (.ok (.ret (.ref (s.heap.push (ZG.oT l)).objs.size))) { s with heap:=(s.heap.push (ZG.oT l)).push (CF s.heap.objs.size) }):=
 .of_wp λprog w A R s h=>by
  obtain⟨hp,g,d,tk,os⟩:=s;obtain⟨a,h⟩:=h;have f:=sub_enumerate;have i:Heap.IsTuple (iU ⟨hp,g,d,tk,os⟩) l items:=⟨_,a,rfl,n,rfl⟩
  wp_walk using c_ a
  refine wpAny_stack_any λst=>aw ?_;split
  ·rename_i c _ _ _ _ _;cases (c == Value.type "enumerate") <;> (wp_walk using c_ a,wpAny_pyIter_tuple i;exact⟨_,rfl,h⟩)
  ·wp_walk using c_ a,wpAny_pyIter_tuple i
   exact⟨_,rfl,h⟩
theorem enum_callT (j:s.heap.IsTuple l items)
  (h:∀h',IsEnum h' (s.heap.objs.size+1) s.heap.objs.size 0 .none->h'.IsTupleIter s.heap.objs.size l 0->(∀b o,s.heap.get? b=some o->h'.get? b=some o)->Q (.ref (s.heap.objs.size+1)) { s with heap:=h' }):
  wpAny (model prog w) A (call (.type "enumerate") [.ref l]) Q E s:=by
 obtain⟨⟨c,a,g,f⟩,k,i,n,hd⟩:=j;obtain rfl:c= .type _:=i;obtain rfl:g= .seq _ n:=hd;refine callType_new F.called_enumerate (by decide) (F.typeCall_enumerate_1 _) (F.newCall_enumerate_1 _) (λobj=>hU obj _) F.entry_enumerate_new (qY l _ n a f) ⟨k, ?_⟩
 have e:(s.heap.push (ZG.oT l)).objs.size=s.heap.objs.size+1:=bR ..;have d:((s.heap.push (ZG.oT l)).push (CF s.heap.objs.size)).get? _=some _:=am _ rfl;rw[e]at d;rw[e];exact⟨⟨_,d,rfl⟩,h _ d ⟨_,af _ (am _ rfl),rfl,rfl⟩ λb o x=>af _ (af _ x)⟩
end PySem.RV
namespace PV
open PySem PySem.Spec PyProof.Rows L2
def Al (K:aj)(l:Addr)(n:Nat):It:=
 ⟨λi H=>∃xs x,SqT K H l xs/\xs.length=n/\xs[i]? =some x,λi H v a =>∃p x,H p=none/\v= .ref p/\(∀xs,SqT K H l xs->xs[i]? =some x)/\a =lC H p (.tup [.int i,x]),λi H=>∃xs,SqT K H l xs/\xs.length=n/\n<=i⟩
theorem Yc {P:Program}{w:World}{K:aj}{B:List Expr}{kk:Nat}{pt:Pos}(e it l:Addr)(n:Nat)(N:e ≠ it)(hle:l ≠ e)(O:l ≠ it):
  yQ P w K (.Tuple B kk pt) (Al K l n) [e,it] e (λi h=>i<=n/\(∃old,IsEnum h e it i old)/\h.IsTupleIter it l i) where
 mem:=by simp
 obj:=λi h st b a=>by
  obtain⟨_,⟨old,j⟩,o,e1,c,d⟩:=st;rcases aq.mp a with rfl | a
  ·exact⟨_,j,λv z=>nomatch z⟩
  ·have z:b=it:=by simpa using a
   subst z;exact⟨o,e1,λv z=>by rw[d]at z;cases z⟩
 keep:=λi h h' st k=>by
  obtain⟨hn,⟨old,j⟩,o,e1,r⟩:=st;exact⟨hn,⟨old,k e (by simp) _ j⟩,o,k it (by simp) o e1,r⟩
 item:=by
  intro X Q hw hK hc i M s σ H E I hf st hg;subst Q hw hK;obtain⟨xs,x,U,hxn,Z⟩:=hg;obtain⟨f,rv,p,hz⟩:=I.tuple U;obtain⟨u,hu,ru⟩:=rv.get Z;obtain⟨hin,⟨old,j⟩,G⟩:=st;have hi:i < f.toArray.size:=by
   have:=(au.mp hu).1;simpa using this
  have D:=RV.draws_tup (prog:=X.prog) (w:=X.w) (A:=X.A.in1) (I.ok.hd hc) it l O f.toArray;have hef:e ∉ [it,l]:=λz=>by
   rcases aq.mp z with z | z
   ·exact N z
   ·exact hle (aH.mp z).symm
  have WE:=WalksT.enumerateD D e N hef (.head _);refine WE.item i s _ _ hi ⟨⟨old,j⟩,G,p⟩ λT vals h' tk Q hT J hM hk=> ?_;obtain⟨t,y,hy,rfl⟩:=Q;have hyu:y=u:=by
   have:f[i]? =some y:=by simpa using hy
   rw[hu]at this;exact(aI this).symm
  subst hyu;refine⟨.ref T,rfl, ?_⟩;refine WE.go B kk pt i T _ _ _ hM λh2 g S=> ?_;have hTn:H T=none:=I.hok.fresh hT;have q:∀b∈[e,it],b ≠ T:=λb a z=>by
   obtain⟨_,_,h3,h4⟩:=hM;rcases aq.mp a with rfl | a
   ·exact h3 z.symm
   ·have:b=it:=by simpa using a
    subst this;exact h4 z.symm
  have Ym:IsTup h2 T #[.int i t,y]:=by
   obtain⟨o,eo,r⟩:=J;exact⟨o,S T o (λa=>q T a rfl) eo,r⟩
  refine⟨.ref T,lC H T (.tup [.int i,x]),Inv.laidT (s:=s) (h' :=h2) (ch:=[e,it]) (tk:=tk) I hf (λb o a e=>S b o a (hk b o a e)) (λb o a _=> ?_) hT ⟨by rw[cO];show 2<=16777216;decide,[.int i t,y],.cons ⟨t,rfl⟩ (.cons ru .nil),Ym,.inl ⟨_,_,rfl⟩⟩,rfl,⟨T,x,hTn,rfl,λys hy=>by rw[I.tuple_inj hy U];exact Z,rfl⟩,⟨by have:=(au.mp Z).1;omega,g.1,g.2.1⟩,λb a=> ?_⟩
  ·obtain⟨⟨old2,he2⟩,⟨o2,eo2,_⟩,_⟩:=g;rcases aq.mp a with rfl | a
   ·exact⟨_,he2⟩
   ·have:b=it:=by simpa using a
    subst this;exact⟨o2,eo2⟩
  ·rw[zm (q b a)];exact(hf b a).1
 done:=by
  intro X Q hw hK hc i M s σ H E I hf st hg;subst Q hw hK;obtain⟨xs,U,hxn,Z⟩:=hg;obtain⟨f,rv,p,hz⟩:=I.tuple U;obtain⟨hin,⟨old,j⟩,G⟩:=st;have hl:=rv.length;have D:=RV.draws_tup (prog:=X.prog) (w:=X.w) (A:=X.A.in1) (I.ok.hd hc) it l O f.toArray;have hn:f.toArray.size=i:=by simp;omega
  refine wpAny_pyNext_enum_endD D j (by rw[hn];exact⟨G,p⟩) λh' hk=>⟨rfl, ?_⟩
  obtain⟨f0,f1,f2,f3,f4,f5⟩:=hf it (by simp)
  exact I.turned (t' :=s.toks) (λb o a e=>hk b o a e) f0 f1 f3 f4 f5
 self:=λ_ _ _ _ _ st h=>let ⟨_,⟨_,j⟩,_⟩:=st;wpAny_pyIter_enum j h
theorem VS {K:aj}{f k:Hp}{a:Addr}{xs:List V}{ts:List T}(h:f a=some (.tup xs))(r:zG f xs ts):rI f k (Al K a xs.length) (jb ts):=λu w j g=>by
 have d:=g _ _ (j _ _ h);rw[Jz];refine⟨λi hi=> ?_,λi t x H3 e y=> ?_,λi hi=>⟨xs,SqT.of d,rfl,by rw[r.length];exact hi⟩⟩
 ·obtain⟨v,e,_⟩:=r.get (ak hi);exact⟨xs,v,SqT.of d,rfl,e⟩
 ·obtain⟨p,v,hp,rfl,y,rfl⟩:=y;obtain⟨t',l,rfl⟩:=uI e;obtain⟨B,q,o⟩:=r.get l;have:=y xs (SqT.of d);rw[q]at this;cases this;refine⟨zl.new hp _,.tup (jo hp _) (.cons (.int _) (.cons ?_ .nil))⟩;exact(o.mono j).mono (zL.ge g (zl.new hp _))
def wg (a:En->R T):En->R (List T):=λρ=>(a ρ).bind λt=>match t with
 | .tup xs=> .ok (jb xs)
 | _=> .bad
section
theorem VT {v:TA}(M:Gl X "enumerate")(S:X.mg "enumerate"=none)(D:PA X [a] v)(G:lX X a:=by exact lO rfl):
  PI X (.Tuple elts kk pt) (.Call (.Name "enumerate" p) [a] [] pos) (λk H R=>v k H λy j=>∃l xs,y=[.ref l]/\j l=some (.tup xs)/\R (Al X.K l xs.length) j):=by
 intro w s k H R I h;refine Call_ (jf I M S PyProof.Rows.Boot.«enumerate» (aZ (lz (D pos _ s k H _ I h) λus g ⟨y,j,d,N,O⟩=> ?_) G rfl));obtain⟨l,xs,e,B,q⟩:=O;subst e;obtain⟨u,rfl,P⟩:=ZX N;obtain rfl:u=Value.ref l:=P;obtain⟨Q,Z,pl,U⟩:=d.tuple (SqT.of B);have i:=d.hok.lt B;refine RV.enum_callT (show g.heap.IsTuple l _ from pl) λh' x o J=>wpAny_pyIter_enum x ?_;have f:∀b∈[g.heap.objs.size+1,g.heap.objs.size],Jh X _ j b:=λb r=>by
  rcases aq.mp r with rfl | r
  ·exact d.fpOk (f6 _) (d.hok.fresh (f6 _))
  ·have z:=by simpa using r
   subst z;exact d.fpOk (ao _) (d.hok.fresh (ao _))
 exact⟨g.heap.objs.size+1,[g.heap.objs.size+1,g.heap.objs.size],_,_,j,rfl,d.kept J,Yc _ _ l _ (iN _) (aK (cu i)) (aK i),⟨bn _,⟨_,x⟩,o⟩,f,q⟩
theorem Kn (g:Gl X "enumerate")(o:X.mg "enumerate"=none)(i:Snd X Y a fa)(d:lX X a:=by exact lO rfl):um X Y (.Tuple elts kk pt) (.Call (.Name "enumerate" p) [a] [] pos) (wg fa):= .mk λρ=>
 PI.imp (VT g o (zw (i ρ) zT d) d) λu H R ⟨B,I,q⟩=>step I q λt v j _ w k e f=>by
  cases k with
  | @tup l xs ts h r=>exact⟨l,xs,rfl,e.sB _ _ h,ZL e (show Po Y rI _ j _ R from f) (VS h r)⟩
  | _=>exact f.elim
end
end PV
namespace PySem.RW37
open PySem PySem.Spec PyProof.Rows L2
section
end
end PySem.RW37
namespace PV
open PySem PySem.Spec PyProof.Rows L2 PySem.RW37
section
def rH (d:En->R T)(g:T->En->R En):En->RS:=λρ=>(d ρ).s λt=>match g t ρ with
 | .ok a => .nx a
 | _=> .bad
theorem FL {g:T->En->R En}(i:Snd X Y a fa)(e:GZ X Y tg g)(j:swapsWithSole [tg] a pos.line X.env=pure false:=by rfl)(r:swappedStores [tg] a X.env=pure none:=by rfl)
  (f:(assignEach [tg] X.env).map (·.2)=[assign tg X.env]:=by rfl):wQ X Y (.Assign [tg] a pos) (rH fa g):= .mk λρ=>by
 obtain⟨tt,hp,hr⟩:=e;refine PS.imp (G9 (i ρ) hp j r f) λD w H ⟨B,I,q⟩=>JH I q λt v u _ x p k d=>hr _ _ _ _ _ _ _ k p ?_;cases h:g t ρ with
 | ok l =>
  rw[h]at d;exact λσ' o =>d _ _ _ (zl.refl _) o
 | ex c=>rw[h]at d;exact d.elim
 | bad=>rw[h]at d;exact d.elim
end
end PV
namespace PV
open PySem PySem.Spec PyProof.Rows L2
noncomputable def CH (t t' :T):R T:=match t,t' with
 | .int i,.int j=> .ok (.int (if j > i then j else i))
 | _,_=> .bad
noncomputable def BE:T->R T
 | .int i=> .ok (.int (if i < 0 then -i else i))
 | _=> .bad
section
theorem Hb (u:X.calm=true)(k:Gl X "max")(r:X.mg "max"=none)(o:Snd X Y a fa)(l:Snd X Y b fb)
  (f:starEach [a,b] X.env=[(false,eval a X.env),(false,eval b X.env)]:=by exact mq rfl rfl) (d:starEach [b] X.env=[(false,eval b X.env)]:=by exact lO rfl):
  Snd X Y (.Call (.Name "max" p) [a,b] [] pos) (zc CH fa fb):= .mk λρ=>
 PE.imp (ZZ (YS u) k r PyProof.Rows.Boot.«max» (zw (o ρ) (zw (l ρ) zT d) (by rw[f,d])) (by decide) (by decide) (by rw[f,d]) (by rw[d];rfl)) λK H Q ⟨B,I,q⟩=>
  step I q λt v J _ O x w y=>step w y λt' N M _ G g D e=>by
   cases x with
   | int i=>
    cases g with
    | int j=>exact⟨i,j,rfl,lU D.sB e rfl (.int _)⟩
    | _=>exact e.elim
   | _=>cases g <;> exact e.elim
theorem C0 (d:Gl X "abs")(j:X.mg "abs"=none)(g:jn X Y a fa)(e:lX X a:=by exact lO rfl):Snd X Y (.Call (.Name "abs" p) [a] [] pos) (lj BE fa):=
 W2 Vg (λv t B H Q r f q=>by
  cases r with
  | int i=>exact⟨i,rfl,lU f q rfl (.int _)⟩
  | _=>exact q.elim) d j PyProof.Rows.Boot.«abs» g e
end
section
end
section
end
section
end
section
end
section
end
section
end
section
end
section
end
section
end
section
end
section
end
end PV
namespace PySem.RV
open PySem PySem.Spec PyProof.Rows PySem.Builtin.SmallTypes
section
end
end PySem.RV
namespace PV
open PySem PySem.Spec PyProof.Rows L2
section
end
section
section
end
end
section
end
section
end
end PV
namespace PV
open PySem PySem.W PyProof.Rows
section
variable {α β:Type}
noncomputable def Gd (lt:Nat->Nat->Bool)(n:Nat):KasT α->(α->Prop)->Prop
 | .ret a,P=>P a
 | .ask i j k,P=>(i < n/\j < n/\i ≠ j)/\Gd lt n (k (lt i j)) P
theorem Gd.mono {lt:Nat->Nat->Bool}{P d :α->Prop}(h:∀a,P a->d a):∀(t:KasT α),Gd lt n t P->Gd lt n t d
 | .ret a,g=>h a g
 | .ask i j k,⟨e,g⟩=>⟨e,Gd.mono h _ g⟩
theorem Gd.bind {lt:Nat->Nat->Bool}{P:β->Prop}{f:α->KasT β}:∀(t:KasT α),Gd lt n t (λa=>Gd lt n (f a) P)->Gd lt n (t.bind f) P
 | .ret a,g=>g
 | .ask i j k,⟨d,g⟩=>⟨d,Gd.bind _ g⟩
end
section
variable {O:KeyOrd}{key:Nat->O.α}
noncomputable abbrev kp (key:Nat->O.α)(p:Array Nat)(i:Nat):O.α:=key (p.getD i 0)
structure Pm (n:Nat) (p:Array Nat):Prop where
 sz:p.size=n
 pm:p.toList.Perm (aU n)
theorem Pm.lt {p:Array Nat}(h:Pm n p)(hi:i < n):p.getD i 0 < n:=by
 have a:i < p.size:=by rw[h.sz];exact hi
 have e:p.getD i 0=p[i]:=by simp[lf,a]
 rw[e];exact aS.mp (h.pm.mem_iff.mp (Array.getElem_mem_toList a))
theorem Pm.inj {p:Array Nat}(h:Pm n p)(hi:i < n)(f:j < n)(e:p.getD i 0=p.getD j 0):i=j:=by
 have d:i < p.size:=by rw[h.sz];exact hi
 have a :j < p.size:=by rw[h.sz];exact f
 have k:p.getD i 0=p[i]:=by simp[lf,d]
 have g:p.getD j 0=p[j]:=by simp[lf,a]
 rw[k,g]at e;have nd:=h.pm.nodup_iff.mpr List.nodup_range;have:=(iG (h₀:=by simpa using d) (h₁:=by simpa using a) nd).mp (by simpa using e)
 exact this
def So (key:Nat->O.α)(p:Array Nat)(m:Nat):Prop:=∀i j,i < j->j < m->O.klt (kp key p i) (kp key p j)
theorem WG {p q:Array Nat}(h:p[i]? =q[j]?):p.getD i 0=q.getD j 0:=by
 have e:∀(a:Array Nat) (k:Nat),a.getD k 0=(a[k]?).getD 0:=λa k=>by simp
 rw[e,e,h]
variable (hk:∀i j,i < n->j < n->key i=key j->i=j)
include hk
theorem Ko {p:Array Nat}(h:Pm n p)(hi:i < n)(d:j < n)(a:i ≠ j)(e:O.blt (kp key p i) (kp key p j)=false):O.klt (kp key p j) (kp key p i):=by
 cases q:O.blt _ _ with
 | true=>exact q
 | false=>exact absurd (h.inj hi d (hk _ _ (h.lt hi) (h.lt d) (O.total _ _ e q))) a
omit hk in
theorem So.snoc {p:Array Nat}(h:So key p m)(k:1<=m)(f:O.klt (kp key p (m - 1)) (kp key p m)):So key p (m+1):=λi j a g=>by
 by_cases e:j=m
 ·subst e
  by_cases d:i=j - 1
  ·rw[d];exact f
  ·exact cU (h i _ (by omega) (by omega)) (dZ f)
 ·exact h i j a (by omega)
theorem qZ {p:Array Nat}(hp:Pm n p):∀(f m:Nat),1<=m->m+f=n->So key p m->Gd (λi j=>O.blt (key i) (key j)) n (kas_asc p f m) λr=>m<=r/\r<=n/\So key p r/\(r < n->O.klt (kp key p r) (kp key p (r - 1)))
 | 0,m,_,e,h=>⟨ao _,by omega,h,λz=>by omega⟩
 | f+1,m,d,e,h=>by
  refine⟨⟨hp.lt (by omega),hp.lt (by omega),λz=>absurd (hp.inj (by omega) (by omega) z) (by omega)⟩, ?_⟩
  show Gd _ n (if O.blt _ _=true then .ret m else kas_asc p f _) _
  cases q:O.blt _ _ with
  | true=>exact⟨ao _,by omega,h,λ_=>q⟩
  | false=>
   exact Gd.mono (λr ⟨a,b,c⟩=>⟨by omega,b,c⟩) _ (qZ hp f _ (by omega) (by omega) (h.snoc d (Ko hk hp (by omega) (by omega) (by omega) q)))
def De (key:Nat->O.α)(p:Array Nat)(m:Nat):Prop:=∀i j,i < j->j < m->O.klt (kp key p j) (kp key p i)
theorem Q0 {p:Array Nat}(hp:Pm n p):∀(f m:Nat),2<=m->m+f=n->De key p m->Gd (λi j=>O.blt (key i) (key j)) n (kas_desc f p m 0) λr=>r.1=p/\r.2.2=0/\m<=r.2.1/\r.2.1<=n/\De key p r.2.1
 | 0,m,_,o,h=>⟨rfl,rfl,ao _,by show m<=n;omega,h⟩
 | f+1,m,u,o,h=>by
  refine⟨⟨hp.lt (by omega),hp.lt (by omega),λz=>absurd (hp.inj (by omega) (by omega) z) (by omega)⟩, ?_⟩
  show Gd _ n (if O.blt _ _=true then (if 0 > 0 then kas_desc f _ _ 0 else kas_desc f p _ 0) else .ask _ _ λd=>if d=true then .ret _ else kas_desc f p _ _) _
  cases q:O.blt _ _ with
  | true=>
   refine Gd.mono (λr ⟨a,b,c,d⟩=>⟨a,b,by omega,d⟩) _ (Q0 hp f _ (by omega) (by omega) λi j g v=> ?_)
   by_cases k:j=m
   ·subst k
    by_cases e:i=j - 1
    ·rw[e];exact q
    ·exact cU (show O.klt _ _ from q) (dZ (h i _ (by omega) (by omega)))
   ·exact h i j g (by omega)
  | false=>
   refine⟨⟨hp.lt (by omega),hp.lt (by omega),λz=>absurd (hp.inj (by omega) (by omega) z) (by omega)⟩, ?_⟩
   have l:O.blt _ _=true:=Ko hk hp (by omega) (by omega) (by omega) q
   show Gd _ n (if O.blt _ _=true then .ret _ else _) _
   rw[if_pos l];exact⟨rfl,rfl,ao _,by show m<=n;omega,h⟩
omit hk in
theorem Xh {p:Array Nat}(hp:Pm n p)(i j:Nat):Pm n (kas_rev p i j):=⟨(mirror_size _ _ _ _).trans hp.sz,(eW.mp (mirror_perm p i j _)).trans hp.pm⟩
omit hk in
theorem Q1 {p:Array Nat}(hp:Pm n p)(d:m<=n)(a :k < m):(kas_rev p 0 m).getD k 0=p.getD (m - 1 - k) 0:=by
 refine WG ?_;unfold kas_rev;rw[getElem?_mirror_all (by rw[hp.sz];exact d),if_pos ⟨bn _,a⟩]
 congr 1
 omega
theorem jA {p:Array Nat}(hp:Pm n p)(G:2<=n):Gd (λi j=>O.blt (key i) (key j)) n (kas_count n p) λr=>1<=r.1/\r.1<=n/\Pm n r.2/\So key r.2 r.1:=by
 refine Gd.bind _ (Gd.mono (λm ⟨a,b,c,d⟩=> ?_) _ (qZ hk hp _ 1 (ao _) (by omega) λi j f l=>by omega))
 by_cases g:m=n
 ·rw[if_pos (by simpa using g)]
  exact⟨a,b,hp,c⟩
 ·rw[if_neg (by simpa using g)]
  by_cases k:m > 1
  ·rw[if_pos k];refine⟨⟨hp.lt (by omega),hp.lt (by omega),λz=>absurd (hp.inj (by omega) (by omega) z) (by omega)⟩, ?_⟩
   have q:O.blt _ (kp key p (m - 1))=true:=c 0 _ (by omega) (by omega)
   show Gd _ n (if O.blt _ _=true then .ret _ else _) _
   rw[if_pos q];exact⟨a,b,hp,c⟩
  ·have e:m=1:=by omega
   subst e;have y:=d (by omega)
   refine Gd.bind _ (Gd.mono (λr ⟨x,u,J,o,w⟩=> ?_) _ (Q0 hk hp _ _ (by omega) (by omega) λi j f l=>by
    have:i=0/\j=1:=by omega
    rw[this.1,this.2];exact y))
   rw[u,x];refine Gd.bind _ (Gd.mono (λD ⟨I,v,B,_⟩=>⟨by omega,v,Xh hp 0 _,B⟩) _ (qZ hk (Xh hp 0 _) _ _ (by omega) (by omega) λi j f l=> ?_))
   unfold kp;rw[Q1 hp o (by omega),Q1 hp o l]
   exact w _ _ (by omega) (by omega)
theorem WH {p:Array Nat}(hp:Pm n p)(d:k < n)(u:So key p k):∀(f l r:Nat),r<=k->l<=r->r - l<=f->(∀i,i < l->O.klt (kp key p i) (kp key p k))->(∀i,r<=i->i < k->O.klt (kp key p k) (kp key p i))->
  Gd (λi j=>O.blt (key i) (key j)) n (kas_place p k f l r) λm=>m<=k/\(∀i,i < m->O.klt (kp key p i) (kp key p k))/\∀i,m<=i->i < k->O.klt (kp key p k) (kp key p i)
 | 0,l,r,w,y,B,o,v=>⟨by omega,o,λi hi a=>v i (by omega) a⟩
 | f+1,l,r,w,y,B,o,v=>by
  unfold kas_place
  by_cases g:l ≥ r
  ·rw[if_pos g];exact⟨by omega,o,λi hi a=>v i (by omega) a⟩
  ·rw[if_neg g];refine⟨⟨hp.lt d,hp.lt (by omega),λz=>absurd (hp.inj d (by omega) z) (by omega)⟩, ?_⟩
   show Gd _ n (if O.blt _ _=true then kas_place p k f l _ else kas_place p k f _ r) _
   cases q:O.blt _ _ with
   | true=>
    refine WH hp d u f l _ (by omega) (by omega) (by omega) o λi hi a=> ?_
    by_cases e:i=(l+r) / 2
    ·rw[e];exact q
    ·exact cU (q) (dZ (u _ _ (by omega) a))
   | false=>
    refine WH hp d u f _ r w (by omega) (by omega) (λi hi=> ?_) v
    have x:=Ko hk hp d (by omega) (by omega) q
    by_cases e:i=(l+r) / 2
    ·rw[e];exact x
    ·exact cU (u _ _ (by omega) (by omega)) (dZ x)
omit hk in
theorem Q2 {p:Array Nat}(hp:Pm n p)(a:k < n)(d:l<=k):(bubble p k (k - l)).getD i 0=if i=l then p.getD k 0 else if l < i/\i<=k then p.getD (i - 1) 0 else p.getD i 0:=by
 have h:=getElem?_bubble (by rw[hp.sz];exact a) (k - l) (by omega) i
 rw[show k - (k - l)=l by omega]at h
 repeat' split at h
 all_goals first | (rw[if_pos (by assumption)];exact WG h) | (rw[if_neg (by assumption),if_pos (by assumption)];exact WG h) | (rw[if_neg (by assumption),if_neg (by assumption)];exact WG h)
theorem Xi:∀(f:Nat) (p:Array Nat) (k:Nat),Pm n p->k+f=n->So key p k->Gd (λi j=>O.blt (key i) (key j)) n (kas_bin f p k) λq=>Pm n q/\So key q n
 | 0,p,k,hp,d,h=>⟨hp,by rw[← d];exact h⟩
 | f+1,p,k,hp,d,h=>by
  unfold kas_bin;refine Gd.bind _ (Gd.mono (λl ⟨a,b,c⟩=> ?_) _ (WH hk hp (by omega) h k 0 k (ao _) (bn _) (by omega) (λi hi=>by omega) λi hi o=>by omega))
  refine Xi f _ _ ⟨(bubble_size _ _ _).trans hp.sz,(eW.mp (bubble_perm p k _)).trans hp.pm⟩ (by omega) λi j g r=> ?_
  unfold kp;rw[Q2 hp (by omega) a,Q2 hp (by omega) a]
  by_cases hi:i=l
  ·rw[if_pos hi,if_neg (by omega),if_pos ⟨by omega,by omega⟩]
   exact c _ (by omega) (by omega)
  ·rw[if_neg hi]
   by_cases e :j=l
   ·rw[if_pos e,if_neg (by omega)]
    exact b i (by omega)
   ·rw[if_neg e]
    by_cases x:l < i/\i<=k
    ·rw[if_pos x,if_pos ⟨by omega,by omega⟩]
     exact h _ _ (by omega) (by omega)
    ·rw[if_neg x]
     by_cases y:l < j/\j<=k
     ·rw[if_pos y];exact h _ _ (by omega) (by omega)
     ·rw[if_neg y];exact h _ _ g (by omega)
theorem Q3 (e:2<=n):Gd (λi j=>O.blt (key i) (key j)) n (kas_sort n) λq=>Pm n q/\So key q n:=by
 refine Gd.bind _ (Gd.mono (λr ⟨a,b,c,d⟩=> ?_) _ (jA hk ⟨by simp,by simp⟩ e))
 by_cases h:r.1 < n
 ·rw[if_pos h,show max r.1 1=r.1 by omega]
  exact Xi hk _ _ _ c (by omega) d
 ·rw[if_neg h];exact⟨c,by rw[show n=r.1 by omega];exact d⟩
end
end PV
namespace PV
open PySem PySem.Spec PyProof.Rows L2
section
end
section
end
section
open PySem.W PySem.Calls
variable {O:KeyOrd}{key:Nat->O.α}
end
section
open PySem.W PySem.Calls
end
end PV
namespace PV
open PySem PySem.Spec PyProof.Rows L2
theorem Kp (i:zl B H)(s:zl H H1)(q:Po Y rC B H r Q):Po Y rC (zL B H H1) H1 r Q:=by
 cases r with
 | bad=>exact q
 | ex c=>exact λd e a b=>q d e a ((zL.ge i s).trans b)
 | ok t=>exact λb e g f =>q b e (s.trans g) (by rw[zL.trans s g]at f;exact f)
section
end
section
open HT in
open HT in
end
section
end
end PV
namespace PV
open PySem PySem.Spec PyProof.Rows L2
end PV
namespace L2
open PySem PySem.Spec PyProof.Rows PySem.W
structure Lm (X:Cx) (c P:Addr) (q:Str):Prop where
 code:X.env.code= .ref c
 hd:codeHdIn X.K c P=true
 bt:X.base.BuiltinsAt X.mg P
 ql:X.env.qual++"<lambda>"=q
def WI (H:Hp)(q:Str)(c:Addr):Prop:=∃d a t,H c=some (.frz d (.own c))/\d.data= .fields a/\a[1]? =some (.str q t)
theorem WI.mono (s:zl H H')(h:WI H q c):WI H' q c:=let ⟨oc,vs,t,e,r⟩:=h;⟨oc,vs,t,s _ _ e,r⟩
theorem WI.rec (x:WI H q c)(ok:HOk P w H h):h.CodeRec (.ref c) q:=by
 obtain⟨f,a,t,e,d,v⟩:=x;exact⟨c,f,a,t,rfl,(ok c _ e).1,d,v⟩
theorem W8 {p e :Pos}{c d:Value}:∀(l:List Value),TriplesOk l->codeAmong p (l++[rawInt e.line,rawInt e.col,c])=some d->codeAmong p l=some d\/d=c
 | [],_,h=>by
  right
  simp only[bN,rawInt,codeAmong]at h;split at h
  ·exact(aI h).symm
  ·cases h
 | .int a t :: .int b u :: x :: r,ok,h=>by
  simp only[cF,codeAmong]at h ⊢;split at h
  ·rename_i z;rw[if_pos z];exact .inl h
  ·rename_i z;rw[if_neg z];exact W8 r (by simpa only[TriplesOk] using ok) h
noncomputable abbrev ph (q:Str)(params:Arguments)(body:Expr)(scope:Scope)(clos:List (Str×Addr))(pm ctv:Value)(c:Addr):Obj:=kla_obj "<lambda>" q params body scope clos pm c ctv
theorem DZ (L:Lm X c P q)(N:defaultsOf params X.env=([],[]))(D:closureFor scope X.env=pure clos):
  PE X (.Lambda params body scope pos) (λσ H Q=>H P=some (.tbl #[] q)/\∀f d pm g H',zl H H' ->H' f=some (.frz (ph q params body scope clos pm g d) (.own f))->WI H' q d ->Q (.ref f) H'):=by
 intro G s σ H Q I ⟨Z,h⟩;obtain⟨i,eP,tr,al⟩:=I.hok P _ Z;have C:=codeHd_of_K I.kIn L.hd;have hg:=I.ok.mod.glob.keeps I.bk;have hB:s.heap.BuiltinsAt X.mg P:=by
  obtain⟨bm,o,b1,b2,b3,b4,b5,b6⟩:=L.bt;exact⟨bm,o,b1,b2,b3,b4,I.bk _ _ b5,b6⟩
 have hgP:mainGlobals ≠ P:=λz=>by
  obtain⟨o,es,ep,e,hd,_⟩:=hg;rw[z,eP]at e;cases e;cases hd
 have j:∀{H2:Hp} {f:Addr} {o:Obj} {h2:Heap},h2.get? f=some o->Zd X.prog X.w H2 h2 f (.frz o (.own f)):=λe=>⟨e,_,e⟩;refine kla_eval N ?_;rw[L.ql];cases hf:codeAmong pos _ with
 | some cv=>
  obtain⟨d,r,vs,t,rfl,e2,e3,e4⟩:=al pos cv hf;refine kla_makeFunctionHit D I.ok.glob hg L.code C eP tr hf hB λg h' tk hk hsz=> ?_;have k:=I.hok.fresh hsz;have e5:(h'.push (ph q params body scope clos ((X.mg "__name__").getD .none) g d)).get? _=some _:=am _ rfl;refine⟨.ref _,_,I.laid (λb u e=>af _ (hk b u e)) hsz (j e5),rfl, ?_⟩;exact h _ d _ g _ (PV.zl.new k _) zB (WI.mono (PV.zl.new k _) ⟨r,vs,t,e2,e3,e4⟩)
 | none=>
  refine kla_makeFunction D I.ok.glob hg L.code C eP tr hf hgP hB λd g h' tk J K B U S=> ?_;obtain⟨c₂,r,vs,t,e2,hoc,hd,hv⟩:=U;cases e2;have hc0:=I.hok.fresh K;have y:∀b,H b=none->b ≠ P:=λb n z=>by rw[z,Z]at n;cases n
  have lJ:∀b o,s.heap.get? b=some o->b ≠ d :=λb o e=>aK (aN (ax e) K);have l:zl H (lC H d (.frz r (.own d))):=PV.zl.new hc0 _;have hl:(#[]++i++ #[rawInt pos.line,rawInt pos.col,Value.ref d]).toList=(#[]++i).toList++[rawInt pos.line,rawInt pos.col,Value.ref d]:=by simp
  have hok:HOk _ X.w (lC H d _) h' :=λb u e=>by
   by_cases M:b=d
   ·subst M;rw[zB]at e;cases e;exact j hoc
   ·rw[zm M]at e
    by_cases O:b=P
    ·subst O;rw[Z]at e;cases e;refine⟨i++ #[rawInt _,rawInt _,Value.ref d],by rw[← eX];exact S,by rw[← eX,hl];exact TriplesOk_snoc _ _ _ _ tr,λp cv z=> ?_⟩
     rw[← eX,hl]at z;rcases W8 _ tr z with z | rfl
     ·obtain⟨c2,oc2,vs2,t2,a1,a2,a3⟩:=al p cv z;exact⟨c2,oc2,vs2,t2,a1,l _ _ a2,a3⟩
     ·exact⟨d,r,vs,t,rfl,zB,hd,hv⟩
    ·refine(I.hok b u e).stay (λa v ha x =>J a v (λz=> ?_) x) (λ_ x =>l _ _ x) (λ_ _ x =>l _ _ x) λ_ _ _ x =>l _ _ x;subst z;rcases ha with z | z
     ·exact O z.symm
     ·rw[Z]at z;cases z
  have I1:Inv X G σ (lC H d (.frz r (.own d))) { s with heap:=h',toks:=s.toks }:=by
   refine I.step (ch:=[]) (λ_ z=>nomatch z) (λb o _ _ _ e n=>J b o (y b n) e) (λb o _ _ _ e n=>⟨o.slots,J b o (y b n) e⟩) (λb o _ e n=>by rw[zm (lJ b o e)];exact n) (λb o _ e=> ?_) (λ_ _ e=>l _ _ e) (λ_ _ _ e=>l _ _ e) (λ_ _ _ e=>l _ _ e) (λm hm=>hm.extBut J (y _ I.free)) hok I.bare
   by_cases M:b=P
   ·exact⟨_,M ▸ S⟩
   ·exact⟨o,J b o M e⟩
  have k:lC H d (.frz r (.own d)) h'.objs.size=none:=by rw[zm (dy B)];exact I1.hok.fresh (ao _) |> λz=>by rw[zm (dy B)]at z;exact z
  have e5:(h'.push (ph q params body scope clos ((X.mg "__name__").getD .none) g d)).get? _=some _:=am _ rfl;refine⟨.ref _,_,I1.laid (λb u e=>af _ e) (ao _) (j e5),rfl, ?_⟩;have s2:zl _ (lC _ _ (.frz (ph q params body scope clos ((X.mg "__name__").getD .none) g d) (.own h'.objs.size))):=PV.zl.new k _;exact h _ d _ g _ (l.trans s2) zB (WI.mono s2 ⟨r,vs,t,zB,hd,hv⟩)
end L2
namespace L2
open PySem PySem.Spec PyProof.Rows PySem.W
def Xj (s:Shared)(H:Hp)(a:List Addr):Heap:=hideAll s.heap (rT s.heap H++a)
theorem yg (e:s.heap.get? b=some o)(n:H b=none)(a:b ∉ fr):(Xj s H fr).get? b=some o:=
 hideAll_get _ e λd=>by
  rcases bF.mp d with z | z
  ·have q:=(cK.mp z).2;rw[n]at q;cases q
  ·exact a z
theorem Kq (e:(Xj s H fr).get? b=some o):s.heap.get? b=some o/\H b=none:=by
 have a :=of_hideAll _ e;refine⟨a, ?_⟩;cases q:H b with
 | none=>rfl
 | some x=>
  have d:b∈rT _ H++fr:=cN _ (cK.mpr ⟨aS.mpr (ax a),by simp[q]⟩)
  have z:(Xj s H fr).get? b=none:=hideAll_none _ d;rw[z]at e;cases e
theorem Mod.keeps {K:Frag}{e:Str->Option Value}{b d :Heap}(m:Mod K e b)(k:∀a o,b.get? a=some o->d.get? a=some o):Mod K e d :=
 ⟨m.kin.keeps k,m.glob.keeps k,let ⟨mb,h1,h2⟩:=m.blt;⟨mb,h1.keeps k,h2⟩,m.nolimit.keeps k⟩
section
theorem Inv.big_of (I:Inv X pins σ H s):∀b o,X.base.get? b=some o->(Xj s H (lR X.stack)).get? b=some o:=λb o e=>by
 refine yg (I.bs b o e).1 (I.bs b o e).2 λa=> ?_;have:=(I.stack.mem a).1;rw[e]at this;cases this
theorem Inv.big (I:Inv X pins σ H s):xV X.prog X.w X.K X.mg (Xj s H (lR X.stack)) X.A X.stack s H:=
 ⟨I.ok.frames,I.ok.mod.keeps I.big_of,λb o e=>Kq e,iy (hideAll_size _ _),funFrames_hide I.stack λenv d a f=>aL _ (dJ.mpr ⟨env,d,f⟩),I.stkFree,I.hok,I.bare⟩
end
def o5 (P:Program)(w:World)(K:Frag)(mg:Str->Option Value)(base:Heap)(N:List Str)(q:Str)(scope:Scope)(f:Addr)(cd:Value)(a:List (Str×Addr))(A:Around)(outer:List Env)(s:Shared)(H:Hp)(E:XK):Cx where
 prog:=P
 w:=w
 K:=K
 mg:=mg
 base:=base
 A:=A.deeper (envX q scope s.heap.objs.size f cd a)
 N:=N
 s₀:=s
 H₀:=H
 env:=envX q scope s.heap.objs.size f cd a
 outer:=outer
 stack:=envX q scope s.heap.objs.size f cd a :: outer
 ex:=[]
 calm:=true
 fn:=λ_=>false
 pn:=[]
 xe:=λe i =>wpAny (model P w) (A.deeper (envX q scope s.heap.objs.size f cd a)) (leaving (envX q scope s.heap.objs.size f cd a) e) (λ_ d =>lE P w outer H s E e d) (λg d =>lE P w outer H s E g d) i
section
variable {P:Program}{w:World}{K:Frag}{mg:Str->Option Value}{base:Heap}{N:List Str}{q:Str}{scope:Scope}{f:Addr}{cd:Value}{clos:List (Str×Addr)}{A:Around}{outer:List Env}{s:Shared}{H:Hp}{E:XK}
structure Bq (scope:Scope):Prop where
 kind:scope.kind= .function
 co:scope.isCoroutine=false
 gen:scope.isGenerator=false
 nocell:∀x∈scope.names,x.2 ≠ .cell
structure Q4 (base:Heap) (H:Hp) (scope:Scope) (clos:List (Str×Addr)) (N:List Str) (σ:St):Prop where
 inj:∀x y c,clos.lookup x=some c->clos.lookup y=some c->x=y
 has:∀x∈scope.names,x.2= .free->∃c,clos.lookup x.1=some c
 cell:∀x c,clos.lookup x=some c->(∃v,base.IsCell c v)/\H c=none
 loc:∀(i:Nat) (x:Str) (v:V),N[i]? =some x->σ[i]? =some (some v)->∃u c,Z2 v u/\clos.lookup x=some c/\base.IsCell c (some u)/\scope.names.lookup x=some .free
 len:σ.length=N.length
theorem W9 {h h' :Heap}{c:Addr}{v:Option Value}(k:∀a o,h.get? a=some o->h'.get? a=some o)(x:h.IsCell c v):h'.IsCell c v:=let ⟨o,e,d⟩:=x;⟨o,k _ _ e,d⟩
end
end L2
namespace L2
open PySem PySem.Spec PyProof.Rows PySem.W
end L2
namespace PV
open PySem PySem.Spec PyProof.Rows L2 PySem.W
section
end
section
variable {P:Program}{w:World}{K:aj}{mg:Str->Option Value}{base:Heap}
def uo (cl:Nat->Value)(n:Nat)(g:List T->R T)(a:Addr)(q:Str):Sp:=λd H Q E=>H a=some (.tbl #[] q)/\spP cl n g d H Q E
theorem Dd {cl:Nat->Value}{x d q:Str}{st:Stmt}{f c y:Addr}{u:FuncData}{N o:List Str}{k n:Nat}{p:En->RS}{g:List T->R T}(F:Fun K x d st f u)(G:u.code= .ref c)(S:j2 N o (zf st))(hn:n=o.length)
  (Z:∀(A:Around) (outer:List Env) (s:Shared) (H:Hp) (E:XK) (Y:Fx),Y.cl=cl->Y.E=E->Y.H0 y=some (.tbl #[] q)->ZY k (A.deeper (envOfC d (zf st) s.heap.objs.size f (.ref c)))->
   w4 (jO (lE P w) P w K mg base N d (zf st) f (.ref c) A outer s H E) Y (zR st) p)
  (O:∀ts,ts.length=n->g ts=zh (p (lm N.length ts))):Jj P w K mg base (lE P w) (k+1) f u o (uo cl n g y q):=by
 subst hn;obtain⟨oc,od,kV,doc,pm,an,cdv,ct,M,rfl,lk,j⟩:=F.ex;obtain rfl:cdv= .ref c:=G;refine Vh lk j S (λD H Q E z=>spP.len D H Q E z.2) λA outer s H D Q E hr ⟨hT,B,ts,hl,J,r,q⟩=> ?_;refine⟨_,Z A _ s H E ⟨B,H,E,cl,[]⟩ rfl rfl hT hr _,B,SI.start J r, ?_⟩;rw[O ts hl]at q;revert q;cases p _ with
 | rt t=>exact λq v i s r=>q v i s r
 | rf t=>exact λq a xs i U X n e r _ l=>q _ i X (.lst (by rw[zV n];exact e) (r.mono l))
 | nx ρ=>exact λq σ' i U _ I=>q _ i I.sH .non
 | ex c=>exact λq=>q
 | bk ρ=>exact λq=>q.elim
 | ct ρ=>exact λq=>q.elim
 | bad=>exact λq=>q
end
end PV
namespace L2
open PySem PySem.Spec PyProof.Rows PySem.W
theorem Q5 {P:Program}{w:World}{K:Frag}{y mb:Str->Option Value}{CX:m5}{k:Nat}{fa a c i:Addr}{fd:FuncData}{x q:Str}{sp:Sp}{f:Shared}{X:List Value}{ns:List Int}
  (KX:K.In f.heap) (hns:f.heap.Ns mainGlobals y) (hb:f.heap.Ns builtinsNs mb) (hbb:∀x:Str,x ≠ "__name__"->mb x=bootBuiltins x) (M:f.heap.NoLimit) (hg:f.gens= #[])
  (I:f.heap.get? a=some { cls:= .type "list",data:= .seq X.toArray }) (hi:IntsAre X ns) (hl:ns.length<=sizeLine) (hr:ZY k callerA)
  (hbt:f.heap.BuiltinsAt y i) (g:f.heap.get? i=some (tabObj #[])) (hKP:K.lookup i=none) (hC:codeHdIn K c i=true) (hKa:K.lookup a=none)
  (F:∀base:Heap,K.In base->base.BuiltinsAt y i->Jj P w K y base CX k fa fd [x] sp) (G:∀(s:Shared) (u:Value),BindsTo s fd ⟨[u],[]⟩ [(x,u)])
  (hsp:∀(H:Hp) (o:Obj),H a=some (.frz o (.lst (ns.map V.int)))->H i=some (.tbl #[] q)->sp [.ref a] H (λv _=>v= .bl true) λ_ _ _=>False)
  (hCX:∀H e B,CX [] H f (λ_ _ _=>False) e B ->False):
  codeAny (model P w) callerA (.call (.ref fa) ⟨[.ref a],[]⟩) (λr B =>r= .ok (.ret (.bool true))/\OldK f.heap B.heap/\B.os=f.os/\AllBare B.gens) f:=by
 have rv:=J7 hi;have hne:i ≠ a:=λz=>by rw[z,I]at g;cases g
 obtain⟨H,hH⟩:∃H:Hp,H=lC (lC (λ_=>none) i (.tbl #[] q)) a (.frz { cls:= .type "list",data:= .seq X.toArray } (.lst (ns.map V.int))):=⟨_,rfl⟩;have Q:H a=some (.frz { cls:= .type "list",data:= .seq X.toArray } (.lst (ns.map V.int))):=by rw[hH,zB]
 have S:H i=some (.tbl #[] q):=by rw[hH,zm hne,zB]
 have N:∀b,b ≠ a->b ≠ i->H b=none:=λb n1 n2=>by rw[hH,zm n1,zm n2]
 have hok:HOk P w H _:=λb o e=>by
  by_cases D:b=a
  ·subst D;rw[Q]at e;cases e;exact⟨I,by rw[ah];exact hl,X,_,rv,I⟩
  ·by_cases b2:b=i
   ·subst b2;rw[S]at e;cases e;exact⟨#[],g,trivial,λp cv z=>by cases z⟩
   ·rw[N b D b2]at e;cases e
 have noD:∀{b:Addr} {o:Obj} {es:Array _} {Z:Nat},f.heap.get? b=some o->o.data= .dict es Z->H b=none:=λ{b o es Z} e d=>N b (λz=>by rw[z,I]at e;cases e;cases d) λz=>by rw[z,g]at e;cases e;cases d
 have l:∀{b:Addr} {m:Str->Option _},f.heap.Ns b m->(gJ _ H).Ns b m:=λ{b m} ⟨o,es,Z,e,d,r⟩=>⟨o,es,Z,Wk e (noD e d),d,r⟩;have U:=λb o e=>Wk (KX b o e) (N b (λz=>by rw[z,hKa]at e;cases e) λz=>by rw[z,hKP]at e;cases e)
 have hM:Mod K y _:=⟨U,l hns,⟨mb,l hb,hbb⟩,let ⟨mc,Q,S⟩:=M;⟨mc,l Q,S⟩⟩;have hBT:(gJ f.heap H).BuiltinsAt y i:=by
  obtain⟨bm,o,D,b2,b3,b4,b5,b6,b7,b8⟩:=hbt;exact⟨bm,o,D,b2,b3,b4,Wk b5 (N bm (λz=>by rw[z,I]at b5;cases b5;cases b8) b4),b6,b7,b8⟩
 have e0:xV P w K y _ callerA [] _ H:=⟨rfl,hM,λb o e=>XY e,iy (YF _ _),trivial,λb hb=>absurd (show b∈([]:List _) from hb) (by simp),hok,.of_eq hg⟩
 refine d8 ((F _ U hBT).run _ [] _ H _ _ [.ref a] _ _ hr e0 (G _ _) (.cons rfl .nil) (hsp H _ Q S)) λr B h=> ?_;cases r with
 | error e=>exact(hCX H e B h).elim
 | ok fl=>
  cases fl with
  | next=>exact cx h
  | brk=>exact cx h
  | cont=>exact cx h
  | ret u=>
   obtain⟨v,H',os,J,un,j,r',qv⟩:=h;have q' :=qv;subst q';obtain rfl:u=Value.bool _:=r';refine⟨rfl,⟨λb o e=> ?_,λb o e=>un.there b o e (by simp)⟩,os,J⟩
   by_cases D:b=a
   ·subst D;have z2:=un.frzs b _ _ Q;obtain⟨e2,_⟩:=j b _ z2;rw[I]at e;cases e;exact .inl e2
   ·by_cases b2:b=i
    ·subst b2;obtain⟨O,e2,_⟩:=j b _ (un.tbls b _ _ S);rw[g]at e;cases e;exact .inr (.inl ⟨((codeHd_of_K KX hC).tab g).isCodeTable,rfl, #[],O,rfl,e2⟩)
    ·exact .inl (un.keep b o e (N b D b2) (by intro z;exact absurd (show b∈([]:List _) from z) (by simp)) (by simp))
theorem walk_ofT {l:OpenLaw}{n k:Nat}{q:Program}{y:List Str}{XP:(Str->Option Value)->Heap->Prop}{YP:World->Heap->Prop}{d:DefRec}{K:Params->Frag}{ts:List Addr}{CX:World->m5}{sp:World->Addr->Sp}{x nm:Str}
  (hn:l.most=some n) (Z:n<=sizeLine) (M:d.params.defaults=[]) (hr:ZY k callerA)
  (hY:∀(w:World) (h:Heap),YP w h->(K w.params).In h/\∀P∈ts,h.get? P=some (tabObj #[])) (hKa:∀(w:World) (a:Addr) (o:Obj),(K w.params).lookup a=some o->o.cls ≠ .type "list")
  (F:∀(w:World) (B:Str->Option Value) (J:Addr) (h:Heap),(K w.params).In h->h.Ns mainGlobals B->B d.name=some (.ref J)->(∀P∈ts,h.get? P=some (tabObj #[]))->
   ∃(X:FuncData) (c i:Addr),(∀(s:Shared) (u:Value),BindsTo s X ⟨[u],[]⟩ [(x,u)])/\h.get? i=some (tabObj #[])/\(K w.params).lookup i=none/\codeHdIn (K w.params) c i=true/\
    ∀base:Heap,(K w.params).In base->base.BuiltinsAt B i->Jj l.prog w (K w.params) B base (CX w) k J X [x] (sp w i))
  (hsp:∀(w:World) (H:Hp) (a i:Addr) (o:Obj) (ns:List Int),ns.length<=n->H a=some (.frz o (.lst (ns.map V.int)))->H i=some (.tbl #[] nm)->sp w i [.ref a] H (λv _=>v= .bl true) λ_ _ _=>False)
  (S:∀(w:World) (H:Hp) (s:Shared) (e:Value) (Q :Shared),CX w [] H s (λ_ _ _=>False) e Q ->False):
  WalkO q y XP YP l.row.toRowW d [] (λf vs=>lc f vs):=by
 refine Att.attach_call hn M λw s₀ s₁ B mb J o pm cd doc a vs ns G Y ho hd hcd hmg j r p hg=> ?_;obtain⟨KX,hT⟩:=hY w _ Y;obtain⟨X,c,i,hb,I,hKP,hC,hF⟩:=F w B J _ KX G.T.g hmg hT;obtain⟨U,ob,b1,b2,D,b4,b5,N⟩:=G.T.bmain;have hbP:U ≠ i:=λz=>by rw[z,I]at D;cases D;cases b4
 have O:U ≠ mainGlobals:=λz=>by
  obtain⟨o,es,ep,e,hd,_⟩:=G.T.g;rw[z,e]at D;cases D;rw[hd]at N;cases N
 refine Q5 KX G.T.g G.T.b G.T.builtins G.T.nolimit hg j r (ay p Z) hr ⟨U,ob,b1,b2,O,hbP,D,b4,b5,N⟩ I hKP hC ?_ hF hb (λH o h1 h2=>hsp w H a i o ns p h1 h2) λH e Q =>S w H _ e Q;cases hk:(K _).lookup a with
 | none=>rfl
 | some o2=>
  have e:=KX a o2 hk;rw[j]at e;cases e;exact(hKa w a _ hk rfl).elim
end L2
namespace PV
open PySem PySem.Spec PyProof.Rows L2
end PV
namespace PV
open PySem PySem.Spec PyProof.Rows L2 PySem.W
section
def nw (i:Nat)(a:En->R T):En->R T:=λρ=>match ρ[i]? with
 | some (.ow ts)=>(a ρ).bind λt=>match t with
  | .int j=>lI ts j
  | _=> .bad
 | _=> .bad
theorem Fo (D:PE X (.Name x p) (Yz i))(y:Snd X Y b fb)(r:Wq b:=by exact λ_ _=>rfl):Snd X Y (.Subscript (.Name x p) b pos) (nw i fb):= .mk λρ=>
 PE.imp (kh qa D (y ρ) r) λP H Q ⟨B,I,q⟩=>by
  unfold nw at q;split at q
  ·rename_i ts e;obtain⟨a,xs,k,_⟩:=I.ow i ts e;refine⟨.ref a,k,step I q λt' S o _ N M l d=> ?_⟩;obtain⟨O,f,g,_,_,v,K,_⟩:=l.ow i ts e;rw[k]at g;cases g;cases M with
   | int j=>
    have d:Po Y rC _ o (lI ts j) Q:=d;unfold lI at d;split at d
    ·rename_i t G;obtain⟨w,J,u⟩:=uE K G;exact .inl ⟨_,f,j,w,rfl,rfl,SqL.of v,J,lU l.sB d rfl u⟩
    ·exact d.elim
   | _=>exact d.elim
  ·exact q.elim
end
end PV
namespace PV
open PySem PySem.Spec PyProof.Rows L2
section
end
end PV
namespace PV
open PySem PySem.Spec PyProof.Rows L2 PySem.W
section
end
theorem Q6:∀(ns:List (Str×NameKind)) (n:Nat) (acc:List (Str×Addr)),(∀k,(x,k)∈ns->k ≠ NameKind.cell)->(cellsFrom n ns acc).lookup x=acc.lookup x
 | [],_,_,_=>rfl
 | (y,k) :: ns,n,acc,h=>by
  unfold cellsFrom;have h' :=λk a=>h k (ac _ a);split
  ·rename_i a;rw[Q6 ns _ _ h',aM];have:x ≠ y:=λz=>h k (by rw[z];exact ag) (eq_of_beq a)
   rw[beq_eq_false_iff_ne.mpr this]
  ·exact Q6 ns _ _ h'
theorem yh:∀(ns:List (Str×NameKind)) (n:Nat) (acc:List (Str×Addr)),(cellsFrom n ns acc).lookup x=some c->((x,NameKind.cell)∈ns/\n<=c)\/acc.lookup x=some c
 | [],_,_,h=> .inr h
 | (y,k) :: ns,n,acc,h=>by
  unfold cellsFrom at h;split at h
  ·rename_i f;rcases yh ns _ _ h with ⟨a,b⟩ | z
   ·exact .inl ⟨ac _ a,du b⟩
   ·rw[aM]at z
    by_cases d:x=y
    ·subst d;rw[beq_self_eq_true]at z;have e:=aI z;rw[eq_of_beq f];exact .inl ⟨ag,iy e⟩
    ·rw[beq_eq_false_iff_ne.mpr d]at z;exact .inr z
  ·rcases yh ns _ _ h with ⟨a,b⟩ | z
   ·exact .inl ⟨ac _ a,b⟩
   ·exact .inr z
theorem WJ:∀(ns:List (Str×NameKind)) (n:Nat) (acc:List (Str×Addr)),(∃c,acc.lookup x=some c)->∃c,(cellsFrom n ns acc).lookup x=some c
 | [],_,_,h=>h
 | (y,k) :: ns,n,acc,h=>by
  unfold cellsFrom;split
  ·refine WJ ns _ _ ?_;rw[aM]
   by_cases a:x=y
   ·subst a;rw[beq_self_eq_true];exact⟨_,rfl⟩
   ·rw[beq_eq_false_iff_ne.mpr a];exact h
  ·exact WJ ns _ _ h
theorem Xk:∀(ns:List (Str×NameKind)) (n:Nat) (acc:List (Str×Addr)),(x,NameKind.cell)∈ns->∃c,(cellsFrom n ns acc).lookup x=some c
 | (y,k) :: ns,n,acc,h=>by
  unfold cellsFrom;rcases aq.mp h with e | h
  ·cases e;refine WJ ns _ _ ⟨n, ?_⟩;rw[aM,beq_self_eq_true]
  ·split <;> exact Xk ns _ _ h
theorem Q7:∀(ns:List (Str×NameKind)) (n m:Nat) (acc:List (Str×Addr)),m<=n->((x,NameKind.cell)∈ns\/∀d,acc.lookup x=some d->m<=d)->(cellsFrom n ns acc).lookup x=some c->m<=c
 | [],_,_,_,_,h,e=>(h.resolve_left (by simp)) _ e
 | (y,k) :: ns,n,m,acc,f,h,e=>by
  unfold cellsFrom at e;split at e
  ·refine Q7 ns _ m _ (Nat.le_succ_of_le f) ?_ e
   by_cases a:x=y
   ·subst a;refine .inr λd z=> ?_;rw[aM,beq_self_eq_true]at z;have e:=aI z;rw[← e];exact f
   ·rcases h with h | h
    ·rcases aq.mp h with z | z
     ·cases z;exact absurd rfl a
     ·exact .inl z
    ·refine .inr λd z=> ?_;rw[aM,beq_eq_false_iff_ne.mpr a]at z;exact h d z
  ·rename_i g;refine Q7 ns _ m _ f ?_ e;rcases h with h | h
   ·rcases aq.mp h with z | z
    ·cases z;exact absurd rfl g
    ·exact .inl z
   ·exact .inr h
theorem Q8:∀(ns:List (Str×NameKind)) (n:Nat) (acc:List (Str×Addr)),(∀x y c,acc.lookup x=some c->acc.lookup y=some c->x=y)->(∀x c,acc.lookup x=some c->c < n)->∀x y c,(cellsFrom n ns acc).lookup x=some c->(cellsFrom n ns acc).lookup y=some c->x=y
 | [],_,_,h,_=>h
 | (y,k) :: ns,n,acc,h,d=>by
  unfold cellsFrom;split
  ·have lk:∀x c,((y,n) :: acc).lookup x=some c->(x=y/\c=n)\/acc.lookup x=some c:=λx c e=>by
    rw[aM]at e
    by_cases g:x=y
    ·subst g;rw[beq_self_eq_true]at e;exact .inl ⟨rfl,(aI e).symm⟩
    ·rw[beq_eq_false_iff_ne.mpr g]at e;exact .inr e
   refine Q8 ns _ _ (λa b c r p=> ?_) λa c e=> ?_
   ·rcases lk a c r with ⟨l,u⟩ | i <;> rcases lk b c p with ⟨o,j⟩ | f
    ·rw[l,o]
    ·exact absurd (d _ _ f) (by rw[u];exact bj _)
    ·exact absurd (d _ _ i) (by rw[j];exact bj _)
    ·exact h a b c i f
   ·rcases lk a c e with ⟨_,q⟩ | z
    ·rw[q];exact eF _
    ·exact cu (d _ _ z)
  ·exact Q8 ns _ _ h d
theorem Uv:∀(ns:List (Str×NameKind)) (h:Heap) (acc:List (Str×Addr)),(cellsFrom h.objs.size ns acc).lookup x=some c->(∀d,acc.lookup x=some d->∃v,h.IsCell d v)->∃v,(pushCells h ns).IsCell c v
 | [],_,_,e,k=>k c e
 | (y,k) :: ns,h,acc,e,f=>by
  unfold pushCells;unfold cellsFrom at e;split at e
  ·rename_i a;rw[if_pos a];have sz:(h.push { cls:= .type "cell",data:= .cell none }).objs.size=h.objs.size+1:=bR ..;rw[← sz]at e;refine Uv ns _ _ e λd z=> ?_;rw[aM]at z
   by_cases g:x=y
   ·subst g;rw[beq_self_eq_true]at z;have e:=aI z;rw[← e];exact⟨none,_,am _ rfl,rfl⟩
   ·rw[beq_eq_false_iff_ne.mpr g]at z;obtain⟨v,o,j,i⟩:=f d z;exact⟨v,o,af _ j,i⟩
  ·rename_i a;rw[if_neg a];exact Uv ns _ _ e f
theorem jR (h:(relabel scope env).names.lookup x=some k):∃a,(x,a)∈scope.names/\(k=a \/a = .free/\k= .cell):=by
 have go:∀ns:List _,(ns.map λ(n,k)=>if (k == NameKind.free && env.scope.kind == .function && env.kindOf n == some .cell) then (n,NameKind.cell) else (n,k)).lookup x=some k->∃a,(x,a)∈ns/\(k=a \/a = .free/\k= .cell):=by
  intro ns
  induction ns with
  | nil=>intro h;simp at h
  | cons y ns f=>
   intro h;obtain⟨n,a⟩:=y;rw[aF]at h
   by_cases e:x=n
   ·subst e;refine⟨a,ag, ?_⟩
    by_cases d:(a == NameKind.free && env.scope.kind == .function && env.kindOf x == some .cell)=true
    ·simp only[if_pos d,aM,beq_self_eq_true]at h;rw[ae,ae]at d;exact .inr ⟨eq_of_beq d.1.1,(aI h).symm⟩
    ·simp only[if_neg d,aM,beq_self_eq_true]at h;exact .inl (aI h).symm
   ·obtain⟨z,g,i⟩:=f (by
     by_cases d:(a == NameKind.free && env.scope.kind == .function && env.kindOf n == some .cell)=true
     ·simp only[if_pos d,aM,(beq_eq_false_iff_ne.mpr e)]at h;exact h
     ·simp only[if_neg d,aM,(beq_eq_false_iff_ne.mpr e)]at h;exact h)
    exact⟨z,ac _ g,i⟩
 exact go _ h
def Bu (X:Cx)(scope:Scope)(N' :List Str)(cl:List (Str×Addr))(C:Addr)(d:Shared)(H3:Hp)(fp:List Addr)(a:List (Addr×Obj)):Cx:=
 { X with N:=N',s₀:=d,H₀:=H3,env:=compEnvC scope (cellsFrom (C+1) scope.names cl) C X.env,outer:=X.stack,stack:=X.stack,ex:=fp,fn:=λx=>scope.names.lookup x == some .cell,pn:=X.pn++a,xe:=λ_ _=>False }
structure sx (X:Cx) (scope:Scope):Prop where
 kind:scope.kind= .function
 can:∀x∈scope.names,scope.names.lookup x.1=some x.2
 fre:∀x∈scope.names,x.2= .free->X.env.kindOf x.1=some .cell\/X.env.kindOf x.1=some .free
section
theorem Yd (I:L2.Inv X pins σ H s)(S:sx X scope)(hc:X.calm=true)
  (a:∀x c,cl.lookup x=some c->X.env.cells.lookup x=some c) (G:∀x∈scope.names,x.2=NameKind.free->∃c,cl.lookup x.1=some c)
  (l:∀b∈fp,Jh X pins H b) (hfo:∀b∈fp,∃o,s.heap.get? b=some o)
  (h0s:h0.objs.size=s.heap.objs.size+1) (O:∀b o,s.heap.get? b=some o->h0.get? b=some o) (eh:h' =pushCells h0 scope.names)
  (P:h'.Ns s.heap.objs.size (λ_=>none)) (g:∀b o,s.heap.get? b=some o->h'.get? b=some o)
  (hl:σ'.length=N'.length) (hσ:∀(i:Nat) (x:Str) (v:V),N'[i]? =some x->σ'[i]? =some (some v)->∃j:Nat,X.N[j]? =some x/\σ[j]? =some (some v)/\ov X.env.scope x/\(scope.names.lookup x=some .free)/\(X.env.kindOf x=some .cell\/X.env.kindOf x=some .free)):
  L2.Inv (Bu X scope N' cl s.heap.objs.size s H fp pins) [] σ' H { s with heap:=h',toks:=tk }:=by
 have B:=I.stkSub;have w:=λb f=>let ⟨o,e⟩:=hfo b f;ax e;have fresh:=I.hok.fresh (ao _);have cll:∀x c,cl.lookup x=some c->c < s.heap.objs.size:=λx c e=>by
  obtain⟨v,o,M,_⟩:=I.cell x c (a x c e);exact ax M
 have any:∀x c,(cellsFrom _ scope.names cl).lookup x=some c->s.heap.objs.size+1<=c\/X.env.cells.lookup x=some c:=λx c e=>by
  rcases yh _ _ _ e with ⟨_,z⟩ | z
  ·exact .inl z
  ·exact .inr (a x c z)
 refine⟨⟨I.ok.mod,S.kind,I.ok.glob,I.ok.blt,ao _,Q8 _ _ _ (λx y c h1 h2=>I.ok.inj x y c (a _ _ h1) (a _ _ h2)) (λx c e=>cu (cll x c e)),λx hx=> ?_,λx c h e=> ?_,λ_=>I.ok.hd hc,I.ok.frames,.inl rfl,λb f=> ?_,I.bs,
   ay I.ok.bsz I.sz,λb o e f=> ?_,λb f hb' => ?_,I.stack,I.stkFree⟩,rfl,I.bare,Un.kept g,⟨_,P,λi x v h1 h2 h3=> ?_⟩,λx c e=> ?_,fresh,λx c e=> ?_,λp hp=> ?_,I.hok.kept g,hl⟩
 ·have Z :=hx;have:(x,NameKind.cell)∈scope.names\/(x,NameKind.free)∈scope.names:=by
   rcases Z with h | h
   ·obtain⟨k',m,e | ⟨e,_⟩⟩:=jR h
    ·exact .inl (e ▸ m)
    ·exact .inr (e ▸ m)
   ·obtain⟨k',m,e | ⟨e,_⟩⟩:=jR h
    ·exact .inr (e ▸ m)
    ·exact .inr (e ▸ m)
  rcases this with h | h
  ·exact Xk _ _ _ h
  ·exact WJ _ _ _ (G _ h rfl)
 ·have hm:=bu (eq_of_beq h);exact du (Q7 _ _ _ _ (ao _) (.inl hm) e)
 ·refine⟨aK (w b f),λx c e=> ?_⟩;rcases any x c e with z | z
  ·exact λq=>absurd (w b f) (by rw[← q];exact lg.mpr (du z))
  ·exact(l b f).2.2.2.2.1 x c z
 ·rcases(l b f).2.2.2.1 with h | h
  ·exact I.ok.noex b o e h
  ·exact absurd (aN (ax e) (ay I.ok.bsz h)) (bj _)
 ·have q:=l b f;rcases aq.mp (B b hb') with z | z
  ·exact q.2.1 z
  ·exact q.2.2.1 z
 ·obtain⟨j,e1,e2,e3,e4,e5⟩:=hσ i x v h1 h2;obtain⟨m,hn,D⟩:=I.loc;obtain⟨u,ru,lk⟩:=D j x v e1 e2 e3;have only:∀k,(x,k)∈scope.names->k= .free:=λk g=>by
   have:=S.can _ g;rw[e4]at this;exact(aI this).symm
  refine⟨u,ru,.inr ⟨?_, ?_⟩⟩
  ·rcases h3 with h | h | h
   ·obtain⟨k',m',e | ⟨_,e⟩⟩:=jR h
    ·have:=only _ m';rw[← e]at this;cases this
    ·cases e
   ·exact .inl h
   ·exact .inr h
  ·rcases lk with ⟨J,_⟩ | ⟨_,c,U,r⟩
   ·rcases e5 with z | z <;> (rw[z]at J;cases J)
   ·obtain⟨c',K⟩:=G _ (bu e4) rfl;have:=a x c' K;rw[U]at this;cases this;obtain⟨o,M,ed⟩:=r;refine⟨c, ?_,o,g _ _ M,ed⟩;show (cellsFrom _ _ cl).lookup x=_;rw[Q6 _ _ _ λk g=>by rw[only k g];decide]
    exact K
 ·have e:(cellsFrom _ _ cl).lookup x=some c:=e;rw[← h0s]at e;rw[eh];refine Uv _ _ _ e λd z=> ?_;obtain⟨v,o,M,ed⟩:=I.cell x d (a _ _ z);exact⟨v,o,O _ _ M,ed⟩
 ·rcases any x c e with z | z
  ·exact I.hok.fresh (du z)
  ·exact I.freeC x c z
 ·have Q :=by
   have:=hp;rwa[bo]at this
  obtain⟨e,n,ne,nf,dc⟩:=I.pin p Q;refine⟨g _ _ e,n,aK (ax e),λf=> ?_,dc⟩;rcases aq.mp (B _ f) with z | z
  ·exact ne z
  ·exact nf z
end
theorem Kr {Q:Env->Shared->Prop}
  (d:Q { scope,locals:=s.heap.objs.size,globals,cells:=cellsFrom (s.heap.objs.size+1) scope.names closure,qual,func:=none,code:=outer.code,frame:=outer.frame,builtins:=outer.builtins } { s with heap:=pushCells (s.heap.push { cls:= .type "dict",data:= .dict #[] }) scope.names }):
  wpAny M A (newFunctionEnv scope globals closure [] qual none .none (some outer)) Q E s:=by
 refine aa (wpAny_alloc ?_);refine aa (wpAny_layCells _ (λname kind cells=>by cases a:kind == NameKind.cell <;> simp[a]) _ _ _ _ ?_)
 refine aa (aw (aw ?_));rw[show ({ s with heap:=s.heap.push _ }:Shared).heap.objs.size=s.heap.objs.size+1 from bR ..];exact d
abbrev Q9 (X:Cx)(scope:Scope)(N' :List Str)(P:Cx->Prop):Prop:=∀cl C s3 H3 fp pins,P (Bu X scope N' cl C s3 H3 fp pins)
section
theorem Qa {js:List Nat}{use:Option (Value->Sem Unit)}(S:sx X scope)(CP:gL X scope N' k js)(hc:X.calm=true)
  (hi:PI X tg iter wi) (hg:Q9 X scope N' λXC=>PG XC tg g) (ht:Q9 X scope N' λXC=>PIf XC ifs tt) (he:Q9 X scope N' λXC=>PE XC elt te) {a:List (Addr×Obj)} {G:Sg} {H:Hp} {s:Shared} {Q:Value->Shared->Prop} {F:Addr->Hp->Prop} (I:L2.Inv X a G H s)
  (h:wi G H λJ H1=>∀D,H1 D=none->∃W,(∃m,W 0 m [] (Wy k js G) (lC H1 D (.lst [])))/\Y6 J D g tt te (λ_ H' =>F D H') W)
  (hQ:∀D C H' s',L2.Inv X a G H' s' ->F D H' ->H' C=none->(X.s₀.heap.objs.size<=C)->C ≠ X.env.locals->(∀x c,X.env.cells.lookup x=some c->c ≠ C)->(∀p∈X.pn++a,p.1 ≠ C)->(∃m,s'.heap.Ns C m)->compPost (model X.prog X.w) X.A X.xe use Q (.ref D) C (.ok .next) s')
  (hs:∀x,foldedSetIterable iter X.env x=pure x:=by intro _;rfl):
  wpAny (model X.prog X.w) X.A (comprehension (.ListComp elt [⟨tg,iter,ifs,0⟩] scope pos) scope X.env pos' (newList []) false (eval iter X.env) use) Q X.xe s:=by
 obtain⟨cl,ecl,Z,hcf⟩:=Uo (scope:=scope) (env:=X.env) λx hx hf=>I.ok.has x.1 (S.fre x hx hf);refine wpAny_comprehension_free rfl hs ecl S.kind (λx hx hl=>by rw[S.can x hx,hl]) ?_
 refine lz (hi a s G H _ I h) λv s1 h1=>lz h1 λitv l r=> ?_;obtain⟨it,fp,tn,J,H2,e,I2,P,mq,f2,q2⟩:=r;subst e;refine bx ?_;have hD:=I2.hok.fresh (ao _);have O:L2.Inv X a G (lC H2 l.heap.objs.size (.lst [])) { l with heap:=l.heap.push { cls:= .type "list",data:= .seq _ } }:=
  I2.laid (t' :=l.toks) (λb u e=>af _ e) (ao _) ⟨bn _,[],_,.nil,am _ rfl⟩
 obtain⟨W,⟨m0,w0⟩,turn⟩:=q2 l.heap.objs.size hD;have f3:∀b∈fp,Jh X a (lC H2 l.heap.objs.size (.lst [])) b:=λb f=>by
  obtain⟨o,N,_⟩:=P.obj _ _ mq b f;exact⟨by rw[zm (aK (ax N))];exact(f2 b f).1,(f2 b f).2⟩
 have o3:∀b∈fp,∃o,(l.heap.push { cls:= .type "list",data:= .seq ([]:List Value).toArray }).get? b=some o:=λb f=>by
  obtain⟨o,N,_⟩:=P.obj _ _ mq b f;exact⟨o,af _ N⟩
 have t3:tn 0 (l.heap.push { cls:= .type "list",data:= .seq ([]:List Value).toArray }):=P.keep _ _ _ mq λb f o e=>af _ e;refine Kr ?_;generalize hD' :l.heap.objs.size=D at*;generalize hH:lC H2 D (.lst [])=H3 at*;generalize hG:({ l with heap:=l.heap.push _ }:Shared)=s3 at*;have hg3:l.heap.push { cls:= .type "list",data:= .seq ([]:List Value).toArray }=s3.heap:=by rw[← hG]
 rw[hg3]at o3 t3;have k4:∀b o,s3.heap.get? b=some o->(pushCells (s3.heap.push { cls:= .type "dict",data:= .dict #[] }) scope.names).get? b=some o:=λb o e=>pushCells_keeps _ _ b o (af _ e);have IC:=Yd (N' :=N') (cl:=cl) (fp:=fp) (σ' :=Wy k js G) (tk:=s3.toks) O S hc Z hcf f3 o3 (bR ..) (λb o e=>af _ e) rfl ((Heap.Ns.new _ _).keeps (pushCells_keeps _ _)) k4 (by unfold Wy;simp[CP.len]) (λi x v h1 r=>by
  unfold Wy at r
  by_cases hik:i < k
  ·rw[aV (by simpa using hik),aJ,if_pos hik]at r
   cases r
  ·have hk' :=by omega
   rw[aQ (by simpa using hk'),aT,av]at r
   cases ej:js[i - k]? with
   | none=>rw[ej]at r;cases r
   | some j=>
    rw[ej]at r;obtain⟨y,e1,e2,e3,e4,e5⟩:=CP.cap _ j ej;have:k+(i - k)=i:=by omega
    rw[this,h1]at e1;cases e1;refine⟨j,e2, ?_,e3,e4,e5⟩;have B :some ((G[j]?).getD _)=some _:=r;cases ez:G[j]? with
    | none=>rw[ez]at B;cases B
    | some z=>rw[ez]at B;exact congrArg _ (aI B))
 generalize d:Bu X _ N' cl _ s3 H3 fp _=XD at IC;have TC:yQ XD.prog XD.w XD.K tg J fp it tn:=by rw[← d];exact P
 have t4:=P.keep _ _ _ t3 λb f o e=>k4 b o e;have fC:∀b∈fp,Jh XD [] H3 b:=λb f=>by
  obtain⟨q0,q1,q2,q3,q4,q5⟩:=f3 b f;obtain⟨o,N⟩:=o3 b f;rw[← d];refine⟨q0,aK (ax N),λhb' => ?_,.inl f,λx c e=> ?_,λp hp=> ?_⟩
  ·rcases aq.mp (O.stkSub b hb') with z | z
   ·exact q1 z
   ·exact q2 z
  ·rcases yh _ _ _ e with ⟨_,z⟩ | z
   ·exact λq=>absurd (ax N) (by rw[← q];exact lg.mpr (du z))
   ·exact q4 x c (Z _ _ z)
  ·exact q5 p (by
    have:=hp;rwa[bo]at this)
 have fin:∀(s5:Shared) (σ5:Sg) (H5:Hp),L2.Inv XD [] σ5 H5 s5->F D H5->compPost _ X.A _ use Q _ _ _ s5:=λs5 σ5 H5 U q5=>by
  subst d;have J5:=O.call' U.os U.base U.hok U.bare λb f=>by
   obtain⟨q0,q1,q2,q3,q4,q5⟩:=f3 b f;exact⟨q3,q1,q4,q5⟩
  refine hQ _ _ H5 s5 J5 q5 U.free O.sz (dy O.lt) (λx c e z=> ?_) (λp hp z=> ?_) (let ⟨m,hm,_⟩:=U.loc;⟨m,hm⟩)
  ·obtain⟨v',o,N,_⟩:=O.cell x c e;exact absurd (ax N) (by rw[z];exact bj _)
  ·exact absurd (ax (O.pin p hp).1) (by rw[z];exact bj _)
 have hxe:XD.xe=λ_ _=>False:=by rw[← d];rfl
 have M:=uH (iter:=iter) (scope:=scope) (pos:=pos) (λ_ _ z=>by rw[hxe]at z;exact z.elim) (by rw[← d];exact hc) TC (d ▸ hg cl _ _ _ _ _) (d ▸ ht cl _ _ _ _ _) (d ▸ he cl _ _ _ _ _) W turn fin w0 IC t4 fC
 subst d;exact codeAny_compStart_list M (P.self _ _ _ _ _ t4 M)
end
section
variable {X:Cx}{Y:Fx}{tg iter elt:Expr}{ifs:List Expr}{scope:Scope}{pos pos' :Pos}{N' :List Str}{k:Nat}{js:List Nat}{fi:En->R (List T)}{tG:TG}{g:T->En->R En}{ft:En->R Bool}{fe:En->R T}
theorem Ye {S O:Hp}{σ:Sg}{ρ:En}{J:It}{ts:List T}{r:R (List T)}{D:Addr}{E0:XK}(hG:nA tG g)(hN:nu g)(I:SI Y S ρ σ O)(rI' :rI S O J ts)(hl:ts.length<=lB)(ev:zy g ft fe ts (jQ k js ρ)=r)(hD:O D=none){F:Hp->Prop}
  (hF:pk r (λvs=>∀l xs B,zl O l ->l D=some (.lst xs)->zG B xs vs->zl B (zL S O l)->B D=none->zl S B ->F l) λc=>∀d l,zl O l ->zl S l ->E0 (Y.cl c) d l):
  ∃W,(∃m,W 0 m [] (Wy k js σ) (lC O D (.lst [])))/\Y6 J D tG (λσ H Q=>∃Y' p,Y'.cl=Y.cl/\zl Y.H0 Y'.H0/\tS Y' rE ft p σ H Q) (λσ H Q=>∃Y' p,Y'.cl=Y.cl/\zl Y.H0 Y'.H0/\tS Y' rC fe p σ H Q) (λ_ l =>F l) W:=by
 refine⟨λi m ys σ' l =>m=ts.length - i/\i<=ts.length/\ys.length<=i/\l D=some (.lst ys)/\∃p B us,SI ⟨S,O,E0,Y.cl,[]⟩ B p σ' l /\kS p /\zl S B /\B D=none/\zG B ys us/\((zy g ft fe (ts.drop i) p).bind λws=> .ok (us++ws))=r,
  ⟨ts.length,by simp,bn _,bn _,zB,_,S,[],I.block (H3:=O) k js _ hD _,y7 k js ρ,zl.refl _,I.sB.free hD,.nil,by rw[cI,ev];cases r <;> rfl⟩, ?_⟩
 rintro i m ys σ' l ⟨rfl,hi,hyl,U,p,B,us,I',no',K,bD,r',ew⟩
 refine⟨U, ?_⟩;obtain⟨hgo,hyld,hstop⟩:=rI' B l K I'.sB;have tD:∀P,zl l P->zL B l P D=none:=λP s=>by rw[zW U];exact bD
 by_cases G:i < ts.length
 ·refine .inr ⟨hgo i G,λx P y=> ?_⟩;obtain⟨s2,r2⟩:=hyld i _ x P (ak G) y;rw[cb G]at ew;unfold zy at ew;have I2:=I'.grow s2;refine hG _ _ p σ' P x _ _ I2 r2 ?_;cases eg:g _ p with
  | bad=>rw[eg]at ew;subst ew;exact hF
  | ex c=>exact(hN.2 _ _ _ eg).elim
  | ok f=>
   rw[eg]at ew;have no1:=hN.1 _ _ _ no' eg;intro σ1 J1;refine⟨⟨S,O,E0,Y.cl,[]⟩,f,rfl,I.sH,_,J1, ?_⟩;have M:((ft f).bind (λk=>if k=true then (fe f).bind λv=>(zy g ft fe _ f).bind λvs=> .ok _ else zy g ft fe _ f)).bind (λws=> .ok _)=r:=ew
   cases ef:ft f with
   | bad=>rw[ef]at M;subst M;exact hF
   | ex c=>
    rw[ef]at M;subst M;exact λd l a b=>hF d l a ((K.trans (zL.ge I'.sB s2)).trans b)
   | ok kk=>
    rw[ef]at M;intro b H3 s3 eb;have eb' :=eb;subst eb';have ew2:=M;have J2:=J1.grow s3;have hD3:=s3 _ _ (s2 _ _ U);have bD3:zL (zL B l P) P H3 D=none:=by rw[zW (s2 _ _ U)];exact tD P s2
    have Z:=(zL.ge I'.sB s2).trans (zL.ge I2.sB s3);cases b with
    | false=>exact⟨ts.length - (i+1),by omega,rfl,G,by omega,hD3,f,_,us,J2,no1,K.trans Z,bD3,r'.mono Z,ew2⟩
    | true=>
     refine⟨⟨S,O,E0,Y.cl,[]⟩,f,rfl,I.sH,_,J2, ?_⟩;have N:=ew2;cases ee:fe f with
     | bad=>rw[ee]at N;subst N;exact hF
     | ex c=>
      rw[ee]at N;subst N;exact λd l a b=>hF d l a ((K.trans Z).trans b)
     | ok v=>
      rw[ee]at N;have ew4:=N;have ew5:(zy g ft fe (ts.drop (i+1)) f).bind (λws=> .ok ((us++[v])++ws))=r:=by
       rw[← ew4];cases zy g ft fe _ f with
       | ok ws=>show R.ok _=R.ok _;rw[bg];rfl
       | _=>rfl
      intro w H4 s4 rw4;have hD4:=s4 _ _ hD3;have J3:=J2.grow s4;have bD4:zL (zL (zL B l P) P H3) H3 H4 D=none:=by rw[zW hD3];exact bD3
      have sB4:=Z.trans (zL.ge J2.sB s4);refine⟨hD4,aN (bW hyl G) (ZP hl),ts.length - (i+1),by omega,rfl,G,by rw[az,aC];omega,zB,f,_,us++[v], ?_,no1,K.trans sB4,bD4,(r'.mono sB4).append (.cons rw4 .nil),ew5⟩
      exact J3.acc bD4 hD (λj ts' e=>((no1 j _ e).1 ts' rfl).elim) (λj x e=>(no1 j x e).2) _
 ·have e:i=ts.length:=by omega
  subst e;refine .inl ⟨hstop _ (ao _), ?_⟩;rw[fE]at ew;have ew' :R.ok _=r:=ew;rw[bo]at ew';subst ew';refine hF l ys B I'.sH U r' (λb o h=> ?_) bD K;cases q:O b with
  | none=>rw[zV q];exact I'.sB b o h
  | some u=>
   rw[zW q];have z:B b=S b:=I'.old b u q;rw[← z];exact h
structure Uw (X:Cx) (Y:Fx) (tg iter elt:Expr) (ifs:List Expr) (scope:Scope) (N' :List Str) (k:Nat) (js:List Nat) (fi:En->R (List T)) (tG:TG) (g:T->En->R En) (ft:En->R Bool) (fe:En->R T):Prop where
 sc:sx X scope
 cp:gL X scope N' k js
 cm:X.calm=true
 it:um X Y tg iter fi
 gt:Q9 X scope N' λXC=>PG XC tg tG
 gk:nA tG g
 gn:nu g
 tt:∀Y',Y'.cl=Y.cl->zl Y.H0 Y'.H0->Q9 X scope N' λXC=>JJ XC Y' ifs ft
 el:∀Y',Y'.cl=Y.cl->zl Y.H0 Y'.H0->Q9 X scope N' λXC=>Snd XC Y' elt fe
 hs:∀x,foldedSetIterable iter X.env x=pure x
theorem Ks (C:Uw X Y tg iter elt ifs scope N' k js fi tG g ft fe):Snd X Y (.ListComp elt [⟨tg,iter,ifs,0⟩] scope pos) (zv fi g ft fe k js):= .mk λρ=>by
 intro j s i H Q I ⟨B,J,q⟩;refine Qa (F:=λD v =>Q (.ref D) v) (te:=λi H Q=>∃d a,d.cl=Y.cl/\zl _ _/\tS d rC fe a i H Q) (tt:=λi H Q=>∃d a,d.cl=Y.cl/\zl _ _/\tS d rE ft a i H Q) C.sc C.cp C.cm (C.it ρ) C.gt
  (λcl l M H3 fp j r s i H Q I ⟨d,a,x,K,q⟩=>C.tt d x K cl l M H3 fp _ a _ s i H Q I q) (λcl l M H3 fp j r s i H Q I ⟨d,a,x,K,q⟩=>C.el d x K cl l M H3 fp _ a _ s i H Q I q) I ?_ ?_ C.hs
 ·refine step J q λts it' U _ s1 r1 Z f=> ?_;intro D O;unfold zp at f;split at f
  ·rename_i hl;cases w:zy g ft fe ts _ with
   | bad=>rw[w]at f;exact f.elim
   | ex c=>rw[w]at f;exact f.elim
   | ok vs=>
    rw[w]at f;refine Ye (E0:=λ_ _ _=>False) C.gk C.gn Z r1 hl w O λv xs B' N S r' l' b' sb' => ?_;refine(show Po Y rC _ U _ Q from f) _ v N ?_;exact .lst (by rw[zV O];exact S) (r'.mono l')
  ·exact f.elim
 ·intro D Cc v N I' P hC h0 hL p u G;obtain⟨m,hm⟩:=G;refine⟨m,hm,λh' y=>⟨.ref D,v, ?_,rfl,P⟩⟩;exact I'.turned (λb o hb e=>y.extBut b o hb e) hC (bI hL).symm (.inr h0) p u
end
noncomputable def tz (scope a:Scope):Bool:=(scope.kind == .function) && scope.names.all (λx=>scope.names.lookup x.1 == some x.2) &&
 scope.names.all (λx=>x.2 != .free || a.names.lookup x.1 == some .cell || a.names.lookup x.1 == some .free)
theorem FX (a:Scope)(g:X.env.scope=a)(h:tz scope a=true):sx X scope:=by
 unfold tz at h;simp only[ae,aO]at h;obtain⟨⟨i,e⟩,f⟩:=h;refine⟨eq_of_beq i,λx d=>eq_of_beq (e x d),λx d j=> ?_⟩;have:=f x d;rw[j]at this;show X.env.scope.names.lookup x.1=_\/X.env.scope.names.lookup x.1=_;rw[g];simpa using this
theorem Kt {js:List Nat}{g:T->En->R En}(N' :List Str)(N:List Str)(a:Scope)(o:X.N=N)(f:X.env.scope=a)
  (h:(tz scope a && kZ N N' scope a k js)=true) (l:X.calm=true) (it:um X Y tg iter fi) (i:Q9 X scope N' λe=>PG e tg tG) (q:nA tG g) (r:nu g) (tt:∀d,d.cl=Y.cl->zl Y.H0 d.H0->Q9 X scope N' λe=>JJ e d ifs ft)
  (p:∀d,d.cl=Y.cl->zl Y.H0 d.H0->Q9 X scope N' λe=>Snd e d elt fe) (j:∀x,foldedSetIterable iter X.env x=pure x:=by intro _;rfl):Uw X Y tg iter elt ifs scope N' k js fi tG g ft fe:=by
 rw[ae]at h;exact⟨FX a f h.1,Uq N a o f h.2,l,it,i,q,r,tt,p,j⟩
theorem zG.at {B:Hp}:∀{a:List V} {ts:List T},zG B a ts->∀{i:Nat} {t:T},ts[i]? =some t->∃v,a[i]? =some v/\Rep B v t
 | _,_,.nil,i,t,h=>by simp at h
 | _,_, @zG.cons _ v _ _ _ r d,0,t,h=>by cases h;exact⟨v,rfl,r⟩
 | _,_,.cons r d,i+1,t,h=>zG.at d h
section
end
section
end
section
end
section
end
section
end
section
end
section
end
section
end
section
end
section
end
section
end
section
end
end PV
namespace PV
open PySem PySem.Spec PyProof.Rows L2
structure Fn (K:aj) (mg:Str->Option Value) (x:Str) (st:Stmt) (ps:List Str) (f:Addr) (fd:FuncData):Prop where
 F:Fun K x x st f fd
 b:L2.Binds K fd ps []
 m:mg x=some (.ref f)
noncomputable abbrev FE (K:aj)(mg:Str->Option Value)(x:Str)(st:Stmt)(ps:List Str):Prop:=∃f fd,Fn K mg x st ps f fd
structure Zz where
 P:Program
 w:World
 K:aj
 mg:Str->Option Value
 base:Heap
 cl:Nat->Value
structure QQ (x:Str) (CX:m5) (k:Nat) (sp:Sp) (Z:Zz):Prop where
 ex:∃st ps f fd,Fn Z.K Z.mg x st ps f fd/\Jj Z.P Z.w Z.K Z.mg Z.base CX k f fd ps sp
abbrev qP (Z:Zz)(x:Str)(n k:Nat)(c:List T->R T):Prop:=QQ x mw k (spP Z.cl n c) Z
abbrev qX (Z:Zz)(x:Str)(n k:Nat)(c:List T->R T):Prop:=QQ x (lE Z.P Z.w) k (spP Z.cl n c) Z
abbrev qC (Z:Zz)(x:Str)(k:Nat)(c:Nat->R T):Prop:=QQ x mw k (AT Z.cl c) Z
def oP (m:Nat)(b:En->RS):List T->R T:=λts=>zh (b (lm m ts))
def oC (m:Nat)(b:En->RS):Nat->R T:=λc=>zh (b (ny m c))
section
variable {P:Program}{w:World}{K:aj}{mg:Str->Option Value}{base:Heap}{cl:Nat->Value}{x:Str}{CX:m5}{k c:Nat}{sp:Sp}{G:Prop}{as:List Str}
theorem QQ.go (O:QQ x CX k sp ⟨P,w,K,mg,base,cl⟩)(h:∀st a f d,Fn K mg x st a f d->Jj P w K mg base CX k f d a sp->G):G:=by
 obtain⟨⟨st,a,f,d,C,F⟩⟩:=O;exact h st a f d C F
theorem Hc {n:Nat}{g:List T->R T}(O:QQ x (lE P w) k (spP cl n g) ⟨P,w,K,mg,base,cl⟩):QQ x mw k (spP cl n (mv g)) ⟨P,w,K,mg,base,cl⟩:=by
 obtain⟨⟨st,a,f,d,C,F⟩⟩:=O;exact⟨st,a,f,d,C,noex F⟩
end
section
variable {Z:Zz}{x y:Str}{st:Stmt}{ps:List Str}{c k n m j:Nat}{fb:En->RS}{fm:En->R (T×En)}
abbrev Sc (N ps:List Str)(st:Stmt):Prop:=j2 N ps (zf st)
theorem lF (C:FE Z.K Z.mg x st ps)(N:List Str) (a:∀(f:Addr) (cdv:Value) (A:Around) (outer:List Env) (s:Shared) (H:Hp) (E:XK) (Y:Fx),Y.cl=Z.cl->True->ZY k (A.deeper (envOfC x (zf st) s.heap.objs.size f cdv))->N.Nodup->True->
   w4 (jO mw Z.P Z.w Z.K Z.mg Z.base N x (zf st) f cdv A outer s H E).nox Y (zR st) fb)
  (S:Sc N ps st:=by refine⟨rfl,rfl,rfl, ?_,rfl, ?_, ?_⟩ <;> decide+kernel) (hn:n=ps.length:=by rfl) (e:m=N.length:=by rfl):qP Z x n (k+1) (oP m fb):=by
 obtain⟨f,d,C⟩:=C;subst e;exact⟨_,_,f,d,C,Do C.F S hn (λcdv A outer s H E Y hy hr=>a f cdv A outer s H E Y hy trivial hr S.nd trivial) λ_ _=>rfl⟩
theorem nV (C:FE Z.K Z.mg x st ps)(N:List Str) (a:∀(f:Addr) (cdv:Value) (A:Around) (outer:List Env) (s:Shared) (H:Hp) (E:XK) (Y:Fx),Y.cl=Z.cl->Y.E=E->ZY k (A.deeper (envOfC x (zf st) s.heap.objs.size f cdv))->N.Nodup->Zq (lE Z.P Z.w) (jO (lE Z.P Z.w) Z.P Z.w Z.K Z.mg Z.base N x (zf st) f cdv A outer s H E) Y.E->
   w4 (jO (lE Z.P Z.w) Z.P Z.w Z.K Z.mg Z.base N x (zf st) f cdv A outer s H E) Y (zR st) fb)
  (S:Sc N ps st:=by refine⟨rfl,rfl,rfl, ?_,rfl, ?_, ?_⟩ <;> decide+kernel) (hn:n=ps.length:=by rfl) (e:m=N.length:=by rfl):qX Z x n (k+1) (oP m fb):=by
 obtain⟨f,d,C⟩:=C;subst e;exact⟨_,_,f,d,C,DJ C.F S hn (λcdv A outer s H E Y hy hE hr=>a f cdv A outer s H E Y hy hE hr S.nd (hE ▸ Vm)) λ_ _=>rfl⟩
theorem DW (C:FE Z.K Z.mg x st [q])(N:List Str) (a:∀(f:Addr) (cdv:Value) (A:Around) (outer:List Env) (s:Shared) (H:Hp) (E:XK) (Y:Fx),Y.cl=Z.cl->True->ZY k (A.deeper (envOfC x (zf st) s.heap.objs.size f cdv))->N.Nodup->True->
   w4 (jO mw Z.P Z.w Z.K Z.mg Z.base N x (zf st) f cdv A outer s H E).nox Y (zR st) fb)
  (S:Sc N [q] st:=by refine⟨rfl,rfl,rfl, ?_,rfl, ?_, ?_⟩ <;> decide+kernel) (d:1<=N.length:=by decide) (g:m=N.length:=by rfl):qC Z x (k+1) (oC m fb):=by
 obtain⟨f,e,C⟩:=C;subst g;exact⟨_,_,f,e,C,Ds C.F S d (λcdv A outer s H E Y hy hr=>a f cdv A outer s H E Y hy trivial hr S.nd trivial) λ_=>rfl⟩
theorem ma (C:FE Z.K Z.mg x st ps)(hn:n=ps.length:=by rfl):qP Z x n k (λ_=> .bad):=by
 obtain⟨f,d,C⟩:=C;exact⟨_,_,f,d,C,λa H Q E h=>by rw[← hn];exact spP.len a H Q E h,λA outer s H args e a Q E _ _ _ _ ⟨B,ts,_,_,_,q⟩=>q.elim⟩
end
section
theorem cZ (hy:Y.cl=cl)(O:QQ x mw j (spP cl n g) ⟨X.prog,X.w,X.K,X.mg,X.base,cl⟩)(hr:ZY k X.A)(l:ul X Y (a :: es) ga)(d:j<=k:=by omega)(e:Gl X x:=by rfl)(hd:(x == ("__debug__":Str))=false:=by decide)
  (f:starEach (a :: es) X.env=(false,eval a X.env) :: starEach es X.env:=by exact zU rfl) (i:((backTo pos (starEach es X.env)).any λx=>x.fst)=false:=by exact Zl rfl):Snd X Y (.Call (.Name x p) (a :: es) [] pos) (za n g ga):=
 O.go λ_ _ _ _ C F=>kY hy F hr d e C.m C.F.kp C.b l hd f i
theorem cX (hy:Y.cl=cl)(hp:Zq (lE X.prog X.w) X Y.E)(O:QQ x (lE X.prog X.w) j (spP cl n g) ⟨X.prog,X.w,X.K,X.mg,X.base,cl⟩)(hr:ZY k X.A)(l:ul X Y (a :: es) ga)(d:j<=k:=by omega)(e:Gl X x:=by rfl)(hd:(x == ("__debug__":Str))=false:=by decide)
  (f:starEach (a :: es) X.env=(false,eval a X.env) :: starEach es X.env:=by exact zU rfl) (i:((backTo pos (starEach es X.env)).any λx=>x.fst)=false:=by exact Zl rfl):Snd X Y (.Call (.Name x p) (a :: es) [] pos) (za n g ga):=
 O.go λ_ _ _ _ C F=>K0 hy hp F hr d e C.m C.F.kp C.b l hd f i
end
noncomputable def mL (N:List Str)(js:List Nat):List Str:=js.map λj=>N.getD j ""
noncomputable def pX:List Str->Bool
 | []=>true
 | x :: r=> !(r.contains x) && pX r
theorem Wa:∀{l:List Str},pX l=true->l.Nodup
 | [],_=> .nil
 | x :: r,h=>by
  rw[pX,ae]at h;exact dI.mpr ⟨by simpa using h.1,Wa h.2⟩
def gM (N N' :List Str)(a scope:Scope)(k:Nat)(js:List Nat):Bool:=(pK scope a && kZ N N' scope a k js) && pX N'
section
variable {cl:Nat->Value}{X:Cx}{Y:Fx}{x y:Str}{p p' p2:Pos}{kk:Nat}{iter elt:Expr}{ifs:List Expr}{scope:Scope}{js:List Nat}{fi:En->R (List T)}{ft:En->R Bool}{fe:En->R T}
theorem Au (hy:Y.cl=cl)(h:gM X.N (x :: mL X.N js) X.env.scope scope 1 js=true)(d:((relabel scope X.env).names.lookup x == some .local)=true)(g:X.calm=true)(it:um X Y (.Name x p) iter fi)(tt:∀a,a.cl=cl->Xa X scope (x :: mL X.N js) λe=>JJ e a ifs ft)
  (i:∀a,a.cl=cl->rd X scope (x :: mL X.N js) a.E λe=>Snd e a elt fe) (f:∀x,foldedSetIterable iter X.env x=pure x:=by intro _;rfl):W4 X Y (.Name x p) iter elt ifs scope (x :: mL X.N js) 1 js fi (wM 0) (zq 0) ft fe:=by
 subst hy;rw[gM,ae]at h;have d:(relabel scope X.env).names.lookup x=some .local:=eq_of_beq d;exact Xe _ _ _ rfl rfl h.1 g it (λ_ _ _ _ _ _=>jN (Wa h.2) rfl (.inl d) (.inr d)) (y6 0) (y8 0) tt i f
theorem Cz (hy:Y.cl=cl)(h:gM X.N (x :: y :: mL X.N js) X.env.scope scope 2 js=true)(e:((relabel scope X.env).names.lookup x == some .local && (relabel scope X.env).names.lookup y == some .local)=true)(g:X.calm=true)(it:um X Y (.Tuple [.Name x p,.Name y p'] kk p2) iter fi)(tt:∀a,a.cl=cl->Xa X scope (x :: y :: mL X.N js) λd=>JJ d a ifs ft)
  (k:∀a,a.cl=cl->rd X scope (x :: y :: mL X.N js) a.E λd=>Snd d a elt fe) (j:∀x,foldedSetIterable iter X.env x=pure x:=by intro _;rfl):W4 X Y (.Tuple [.Name x p,.Name y p'] kk p2) iter elt ifs scope (x :: y :: mL X.N js) 2 js fi (sk X.K 2 (YJ (wM 0) (YJ (wM 1) Ah))) (zX 0 1) ft fe:=by
 subst hy;rw[gM,ae]at h;rw[ae]at e;have i:(relabel scope X.env).names.lookup x=some .local:=eq_of_beq e.1;have f:(relabel scope X.env).names.lookup y=some .local:=eq_of_beq e.2;exact Xe _ _ _ rfl rfl h.1 g it (λ_ _ _ _ _ _=>xS g (JM (jN (Wa h.2) rfl (.inl i) (.inr i)) (JM (jN (Wa h.2) rfl (.inl f) (.inr f)) YK))) (Vu _ 0 1) (Vv 0 1) tt k j
end
end PV
namespace L2
open PySem PySem.Spec PyProof.Rows
section
end
end L2
namespace PV
open PySem PySem.Spec PyProof.Rows L2 PySem.W
section
end
end PV
namespace PV
open PySem PySem.Spec PyProof.Rows L2
end PV
namespace PV
open PySem PySem.Spec PyProof.Rows L2 PySem.W
section
variable {X:Cx}{pins:List (Addr×Obj)}{σ:L2.St}{H0:Hp}{l q I D:Addr}{xs:List V}{R:Result->Shared->Prop}
theorem WK {xs:List V}{a:List Value}{i:Nat}{u:Value}(r:Z3 xs a)(e:a[i]? =some u):∃x,xs[i]? =some x/\Z2 x u:=by
 have hi:=(au.mp e).1;rw[← r.length]at hi;obtain⟨g,d,f⟩:=r.get (ak hi);rw[e]at d;cases d;exact⟨_,ak hi,f⟩
theorem Ku (a:Nat->Int)(hh:X.A.handled=none)(kw:List (Str×Value))(hl:∀H s,Inv X pins σ H s->zl H0 H->∃f:List Value,Z3 xs f/\s.heap.IsList l f.toArray)(hlI:l ≠ I)(Z:D ≠ I)(G:Jh X pins H0 I)(K:Jh X pins H0 D)
  (turn:∀(i:Nat) (x:V) (v:Value),xs[i]? =some x->Z2 x v->∀(pn:List (Addr×Obj)) (s:Shared) (H:Hp),Inv X (pins++pn) σ H s->zl H0 H->
   wpAny (model X.prog X.w) X.A.in1 (call (.ref q) [v]) (λu s' =>∃t H',u= .int (a i) t/\Inv X (pins++pn) σ H' s' /\zl H H') (λ_ _=>False) s)
  (hR:∀(i:Nat) (x:V) (v:Value) H s,xs[i]? =some x->Z2 x v->(∀j,j < xs.length->a i<=a j/\(j < i->a i < a j))->Inv X pins σ H s->zl H0 H->R (.ok (.ret v)) s):
  ∀(r j i:Nat) (s:Shared) (H:Hp) (xb:V) (N:Value) (tb:Tok) (c:Nat),xs.length - (j+1)=r->j+1<=xs.length->Inv X pins σ H s->zl H0 H->H I=none->H D=none->
   s.heap.get? D=some (seqObj "list" #[N,.int (a i) tb] c)->s.heap.IsListIter I l (j+1)->xs[i]? =some xb->Z2 xb N->i<=j->(∀g,g <=j->a i<=a g /\(g < i->a i < a g))->
   codeAny (model X.prog X.w) X.A (.builtin "min.loop" ⟨[.ref I,.ref q,.ref D],kw⟩) R s:=by
 have k:(toString "min"++toString ".loop":String)="min.loop":=by decide
 intro r
 induction r with
 | zero=>
  intro j i s H xb N tb c hr hj J Q hI hD gD S hvb rb hij d;obtain⟨f,rv,hls⟩:=hl _ _ J Q;have W:=dw (prog:=X.prog) (w:=X.w) (A:=X.A.in1) hh I l hlI f.toArray;have hsz:f.toArray.size=xs.length:=by rw[aD,rv.length]
  have hin:j+1=xs.length:=by omega
  refine bB c6 ?_;rw[bZ aR _];show wpAny _ X.A.in1 (seqItems? (.ref D) >>= _) _ _ _;refine aa (bC gD rfl ?_);show wpAny _ X.A.in1 (tryCatch (pyNext (.ref I)) _ >>= _) _ _ _;refine aa (bS (W.done _ _ _ ⟨by rw[hsz,← hin];exact S,hls⟩ λh' tk' B => ?_))
  have J1:=J.turned (t' :=tk') (λb o n e=>B b o (by simpa using n) e) hI G.2.1 G.2.2.2.1 G.2.2.2.2.1 G.2.2.2.2.2
  have gD' :=B D _ (by simpa using Z) gD
  show wpAny _ X.A.in1 (updateSeq D (λ_=> #[]) >>= _) _ _ _;refine aa (dh gD' rfl (aa (cC (aw ?_))));exact hR i xb N H _ hvb rb (λg hj' =>d g (by omega)) (J1.turned (it:=D) (λb o n e=>(bb _ _ (bI n)).trans e) hD K.2.1 K.2.2.2.1 K.2.2.2.2.1 K.2.2.2.2.2) Q
 | succ r ih=>
  intro j i s H xb N tb c hr hj J Q hI hD gD S hvb rb hij d;obtain⟨f,rv,hls⟩:=hl _ _ J Q;have W:=dw (prog:=X.prog) (w:=X.w) (A:=X.A.in1) hh I l hlI f.toArray;have hsz:f.toArray.size=xs.length:=by rw[aD,rv.length]
  have O:j+1 < xs.length:=by omega
  refine bB c6 ?_;rw[bZ aR _];show wpAny _ X.A.in1 (seqItems? (.ref D) >>= _) _ _ _;refine aa (bC gD rfl ?_);show wpAny _ X.A.in1 (tryCatch (pyNext (.ref I)) _ >>= _) _ _ _;refine aa (bS (W.item (j+1) _ _ _ (by rw[hsz];exact O) ⟨S,hls⟩ λv h' tk' hP hst' B => ?_))
  obtain⟨x,hv,rx⟩:=WK rv (show f[j+1]? =some v by simpa using hP)
  obtain⟨M,hoI',hoc,hod⟩:=id hst'.1;have J1:=J.turned (t' :=tk') (λb o n e=>B b o (by simpa using n) e) hI G.2.1 G.2.2.2.1 G.2.2.2.2.1 G.2.2.2.2.2
  have gD' :=B D _ (by simpa using Z) gD
  have J2:Inv X (pins++[(D,seqObj "list" #[N,.int (a i) tb] c),(I,M)]) σ H _:=J1.pins_of λp hp=>by
   rcases bF.mp hp with hp | hp
   ·exact J1.pin p (aL _ hp)
   ·rcases aq.mp hp with rfl | hp
    ·exact⟨gD',hD,K.2.1,K.2.2.1,λv z=>by cases z⟩
    ·rw[aH.mp hp];exact⟨hoI',hI,G.2.1,G.2.2.1,λv z=>by rw[hod]at z;cases z⟩
  show wpAny _ X.A.in1 (tryCatch (holding [v] (call (.ref q) [v])) _ >>= _) _ _ _;refine aa (bS (bM (bV (turn (j+1) x v hv rx _ _ _ J2 Q) (λy s2 he=> ?_) λ_ _ hF=>hF.elim)));obtain⟨U,H2,rfl,J3,sm2⟩:=he;have pD:=J3.pin (D,seqObj "list" #[N,.int (a i) tb] c) (aL _ (aL _ (.head _)));have pI:=J3.pin (I,M) (aL _ (aL _ (.tail _ (.head _))));have J4:=J3.unpinned;show wpAny _ X.A.in1 (tryCatch (holding [v,.int (a (j+1)) U] (richCompare .Lt (.int (a (j+1)) U) (.int (a i) tb) >>= _)) _ >>= _) _ _ _;refine aa (bS (bM (aa (CmpOf.ints_lt (prog:=X.prog) (w:=X.w) (A:=X.A.in1) (P:=λi v=>∃t,v= .int (a i) t) a (λi v h=>h) (j+1) i _ _ _ _ _ ⟨U,rfl⟩ ⟨tb,rfl⟩ ?_))));refine aa (bM (bf ?_));refine aa (cC (aw ?_))
  by_cases hb' :a (j+1) < a i
  ·obtain⟨c2,hc2⟩:∃c2,(s2.heap.update D (fN λ_=> #[v,.int (a (j+1)) U])).get? D=some (seqObj "list" #[v,.int (a (j+1)) U] c2):=⟨_,get?_update_seq pD.1 λ_=> #[v,.int (a (j+1)) U]⟩;simp only[hb',decide_true,if_true];refine aa ?_;refine dh pD.1 rfl (aa (cC ?_));rw[k];refine aw ⟨bQ aR _,ih (j+1) (j+1) _ H2 x v U c2 (by omega) O (J4.turned (it:=D) (λb o n e=>(bb _ _ (bI n)).trans e) pD.2.1 K.2.1 K.2.2.2.1 K.2.2.2.2.1 K.2.2.2.2.2) (Q.trans sm2) pI.2.1 pD.2.1 hc2 ⟨M,(bb _ _ Z).trans pI.1,hoc,hod⟩ hv rx (ao _) λg hj' => ?_⟩
   by_cases e:g =j+1
   ·subst e;exact⟨by omega,λ_=>by omega⟩
   ·have hb1:=d g (by omega)
    have hb2:=hb1.1;exact⟨by omega,λ_=>by omega⟩
  ·simp only[hb',decide_false,aB,if_false];refine aa (cC ?_);rw[k];refine aw ⟨bQ aR _,ih (j+1) i _ H2 xb N tb c (by omega) O J4 (Q.trans sm2) pI.2.1 pD.2.1 pD.1 ⟨M,pI.1,hoc,hod⟩ hvb rb (by omega) λg hj' => ?_⟩
   by_cases e:g =j+1
   ·subst e;exact⟨by omega,λ_=>by omega⟩
   ·exact d g (by omega)
theorem Kv (a v d:Value):argsOk "min" ⟨[a],[(bh "key",v),(bh "default",d)]⟩:=by kernel_rfl
theorem Kw {H:Hp}{s:Shared}{dv:Value}{Q E:Value->Shared->Prop}(k:Nat->Int)(hh:X.A.handled=none)(J:Inv X pins σ H s)(hl:∀K r,Inv X pins σ K r ->zl H K ->∃d:List Value,Z3 xs d/\r.heap.IsList l d.toArray)
  (M:∀(i:Nat) (x:V) (v:Value),xs[i]? =some x->Z2 x v->∀(pn:List (Addr×Obj)) (s:Shared) (K :Hp),Inv X (pins++pn) σ K s->zl H K ->
   wpAny (model X.prog X.w) X.A.in1 (call (.ref q) [v]) (λu r =>∃t H2,u= .int (k i) t/\Inv X (pins++pn) σ H2 r /\zl K H2) (λ_ _=>False) s)
  (h0:xs=[]->∀r,Inv X pins σ H r ->Q dv r)
  (hQ:∀(i:Nat) (x:V) (v:Value) K r,xs[i]? =some x->Z2 x v->(∀j,j < xs.length->k i<=k j/\(j < i->k i < k j))->Inv X pins σ K r ->zl H K ->Q v r):
  wpAny (model X.prog X.w) X.A (call (.builtin "min") [.ref l] [(bh "key",.ref q),(bh "default",dv)]) Q E s:=by
 have f:(toString "min"++toString ".loop":String)="min.loop":=by decide
 obtain⟨its0,_,g⟩:=hl _ _ J (zl.refl _);obtain⟨ol,hol,_⟩:=id g;have hll:=ax hol;refine kmb_tree iO iz iA (Kv _ _ _) ?_;refine aa (cB (show eO _ _ 0 _=pure [some (.ref q),some dv] from rfl) (aa (aw ?_)));refine aa (cq g ?_);refine aa (wpAny_newList ?_ (bn _));rw[f];obtain⟨B,e1⟩:∃B,B=s.heap.push { cls:= .type "list_iterator",data:= .fields #[.ref l,.int 0 0] }:=⟨_,rfl⟩;have hS:B.objs.size=s.heap.objs.size+1:=by rw[e1];exact size_push' ..
 rw[← e1];have J0:Inv X pins σ H { s with heap:=B.push (seqObj "list" #[] 0) }:=J.kept λb o e=>af _ (by rw[e1];exact af _ e)
 have gI:(B.push (seqObj "list" #[] 0)).get? s.heap.objs.size=some { cls:= .type "list_iterator",data:= .fields #[.ref l,.int 0 0] }:=af _ (by rw[e1];exact am _ rfl)
 have gD:(B.push (seqObj "list" #[] 0)).get? B.objs.size=some (seqObj "list" #[] 0):=am _ rfl;have a:Jh X pins H s.heap.objs.size:=J.fpOk (ao _) J.fresh;have N:Jh X pins H B.objs.size:=J.fpOk (by omega) (J.hok.fresh (by omega))
 have hlI:l ≠ s.heap.objs.size:=aK hll;have O:B.objs.size ≠ s.heap.objs.size:=by omega
 obtain⟨d,rv,g⟩:=hl _ _ J0 (zl.refl _);have W:=dw (prog:=X.prog) (w:=X.w) (A:=X.A.in1) hh s.heap.objs.size l hlI d.toArray;have hsz:d.toArray.size=xs.length:=by rw[aD,rv.length]
 generalize B.objs.size=D at*;generalize s.heap.objs.size=I at*;refine aw ⟨bQ aR _, ?_⟩;refine bB c6 ?_;rw[bZ aR _];show wpAny _ X.A.in1 (seqItems? (.ref _) >>= _) _ _ _;refine aa (bC gD rfl ?_);show wpAny _ X.A.in1 (tryCatch (pyNext (.ref I)) _ >>= _) _ _ _;rcases Nat.eq_zero_or_pos xs.length with hz | hp
 ·refine aa (bS (W.done _ _ _ ⟨by rw[hsz,hz];exact⟨_,gI,rfl,rfl⟩,g⟩ λh' S G => ?_))
  exact aa (eD (aw (h0 (ck hz) _ (J0.turned (t' :=S) (λb o n e=>G b o (by simpa using n) e) a.1 a.2.1 a.2.2.2.1 a.2.2.2.2.1 a.2.2.2.2.2))))
 ·refine aa (bS (W.item 0 _ _ _ (by rw[hsz];exact hp) ⟨⟨_,gI,rfl,rfl⟩,g⟩ λv h' S hP Z G => ?_))
  obtain⟨x,hv,rx⟩:=WK rv (show d[0]? =some v by simpa using hP)
  obtain⟨P,U,hoc,hod⟩:=id Z.1;have J1:=J0.turned (t' :=S) (λb o n e=>G b o (by simpa using n) e) a.1 a.2.1 a.2.2.2.1 a.2.2.2.2.1 a.2.2.2.2.2
  have gD' :=G D _ (by simpa using O) gD
  have J2:Inv X (pins++[(D,seqObj "list" #[] 0),(I,P)]) σ H _:=J1.pins_of λp hp=>by
   rcases bF.mp hp with hp | hp
   ·exact J1.pin p (aL _ hp)
   ·rcases aq.mp hp with rfl | hp
    ·exact⟨gD',N.1,N.2.1,N.2.2.1,λv z=>by cases z⟩
    ·rw[aH.mp hp];exact⟨U,a.1,a.2.1,a.2.2.1,λv z=>by rw[hod]at z;cases z⟩
  show wpAny _ X.A.in1 (tryCatch (holding [v] (call (.ref q) [v])) _ >>= _) _ _ _;refine aa (bS (bM (bV (M 0 x v hv rx _ _ _ J2 (zl.refl _)) (λy s2 he=> ?_) λ_ _ hF=>hF.elim)));obtain⟨t2,H2,rfl,J3,sm2⟩:=he;have pD:=J3.pin (D,seqObj "list" #[] 0) (aL _ (aL _ (.head _)));have pI:=J3.pin (I,P) (aL _ (aL _ (.tail _ (.head _))));obtain⟨c2,hc2⟩:∃c2,(s2.heap.update D (fN λ_=> #[v,.int (k 0) t2])).get? D=some (seqObj "list" #[v,.int (k 0) t2] c2):=⟨_,get?_update_seq pD.1 λ_=> #[v,.int (k 0) t2]⟩;show wpAny _ X.A.in1 (updateSeq D (λ_=> #[v,.int (k 0) t2]) >>= _) _ _ _;refine aa (dh pD.1 rfl ?_);rw[f];refine aw ⟨bQ aR _,Ku k hh _ hl hlI O a N M hQ _ 0 0 _ H2 x v t2 c2 rfl hp (J3.unpinned.turned (it:=D) (λb o n e=>(bb _ _ (bI n)).trans e) pD.2.1 N.2.1 N.2.2.2.1 N.2.2.2.2.1 N.2.2.2.2.2) sm2 pI.2.1 pD.2.1 hc2 ⟨P,(bb _ _ O).trans pI.1,hoc,hod⟩ hv rx (ao _) λj' hj' => ?_⟩;have e:j' =0:=by omega
  subst e;exact⟨by omega,λh=>absurd h (bj _)⟩
end
section
variable {P:Program}{w:World}{K:Frag}{mg:Str->Option Value}{base:Heap}{N:List Str}{q x0:Str}{scope:Scope}{f:Addr}{cd:Value}{clos:List (Str×Addr)}{A:Around}{outer:List Env}{s:Shared}{H:Hp}{E:XK}
theorem VU {l:L2.St}{d:Heap}{tk:Nat}{v0:V}{D:Value}{m:Str->Option Value}(S:Bq scope)(hd:A.handled=none)(a:xV P w K mg base A outer s H)(C:Q4 base H scope clos N l)(O:N.Nodup)(J:N[0]? =some x0)(G:scope.names.lookup x0=some .local)(I:Z2 v0 D)(M:m x0=some D)(ns:d.Ns s.heap.objs.size m)(x:∀b o,s.heap.get? b=some o->d.get? b=some o):
  Inv (o5 P w K mg base N q scope f cd clos A outer s H E) [] (l.set 0 (some v0)) H { s with heap:=d,toks:=tk }:=by
 have bk:=λb o e=>x b o (a.bs b o e).1;have j:∀b,b ∉ (o5 P w K mg base N q scope f cd clos A outer s H E).ex:=λb z=>absurd (show b∈([]:List _) from z) (by simp)
 refine⟨⟨a.mod,S.kind,rfl,rfl,ao _,C.inj,λy hy=> ?_,λy c h _=>(aA h).elim,λ_=>hd,fZ a.frames,.inr ⟨rfl,rfl⟩,λb z=>absurd z (j b),a.bs,a.bsz,λb _ _=>j b,λb z=>absurd z (j b),a.funs,a.frf⟩,
  rfl,a.bare,Un.kept x,⟨_,ns,λi y v d g Q=> ?_⟩,λy c h=> ?_,a.hok.fresh (ao _),λy c h=>(C.cell y c h).2,λp hp=>absurd (show p∈([]:List _) from hp) (by simp),a.hok.kept x,by rw[bp];exact C.len⟩
 ·rcases hy with hy | hy
  ·exact absurd rfl (S.nocell _ (bu hy))
  ·exact C.has _ (bu hy) rfl
 ·cases i with
  | zero=>
   have d:N[0]? =some y:=d;rw[J]at d;cases d;rw[List.getElem?_set_self' ]at g;have g:v0=v:=by
    cases z:l[0]? with
    | none=>rw[z]at g;cases g
    | some _=>rw[z]at g;exact aI (aI g)
   subst g;exact⟨D,I,.inl ⟨G,M⟩⟩
  | succ i=>
   rw[aP (by omega)]at g
   obtain⟨u,c,r,e,B,k⟩:=C.loc (i+1) y v d g;exact⟨u,r,.inr ⟨.inr k,c,e,W9 bk B⟩⟩
 ·obtain⟨v,B⟩:=(C.cell y c h).1;exact⟨v,W9 bk B⟩
theorem VV {k:Nat}{a:Arguments}{body:Expr}{B d:Value}{g :Addr}{u:L2.St}{Q:VK}{te:TE}{v0:V}{j:Value}(S:Bq scope)(hr:ZY (k+1) A)(i:xV P w K mg base A outer s H)(C:Q4 base H scope clos N u)(U:N.Nodup)(Z:N[0]? =some x0)(D:scope.names.lookup x0=some .local)(X:Z2 v0 j)
  (hf:H f=some (.frz (ph q a body scope clos B d g) (.own f))) (O:WI H q g) (hp:bindArgs (kla_fn "<lambda>" q a body scope clos B (.ref g) d) ⟨[j],[]⟩=pure [(x0,j)])
  (hb:PE (o5 P w K mg base N q scope f (.ref g) clos A outer s H E) body te) (M:te (u.set 0 (some v0)) H Q):
  codeAny (model P w) A (.call (.ref f) ⟨[j],[]⟩) (CR (lE P w) outer P w H s Q E) s:=by
 have lim:=i.mod.nolimit.keeps λb o e=>(i.bs b o e).1;refine kla_callFunE hr.depth (i.hok f _ hf).1 rfl S.co S.gen rfl (O.rec i.hok) ?_;rw[hp];refine aw (wpAny_newFunctionEnv S.nocell (λy hy=>by rw[aH.mp hy];exact D) (λh1 p l=> ?_) S.kind)
 have G:=λb o e=>l.extBut b o (aK (ax e)) (af _ e);refine⟨lim.keeps G, ?_⟩;have I:=VU (q:=q) (f:=f) (cd:= .ref g) (E:=E) (tk:=s.toks+[(x0,j)].length) S hr.hd i C U Z D X (by simp) p G
 exact kla_codeExpr (bV (hb [] _ _ H Q I M) (λv s' ⟨x,H',J,r,q⟩=>⟨x,H',J.os,J.bare,J.base,J.hok,r,q⟩) λ_ _ z=>z)
end
section
variable {X:Cx}{Y:Fx}
theorem Kx {js:List Nat}(I:L2.Inv X pins σ H s)(w:∀x,X.fn x=true)(a:∀x c,clos.lookup x=some c->X.env.cells.lookup x=some c)
  (g:∀x∈scope.names,x.2=NameKind.free->∃c,clos.lookup x.1=some c) (N:gL X scope N' 1 js):Q4 (Xj s H (lR X.stack)) H scope clos N' (Wy 1 js σ):=by
 have up:∀x c,X.env.cells.lookup x=some c->∀v,s.heap.IsCell c v->(Xj s H _).IsCell c v:=λx c e v ⟨o,U,hd⟩=>⟨o,yg U (I.freeC x c e) λQ=>by
  rcases aq.mp (I.stkSub c Q) with z | z
  ·exact I.cne x c e z
  ·obtain⟨_,o2,B,_⟩:=I.ok.funs.mem z;exact absurd (ax B) (lg.mpr (I.ok.cab x c (w x) e)),hd⟩
 refine⟨λx y c r d=>I.ok.inj x y c (a _ _ r) (a _ _ d),g,λx c e=>⟨?_,I.freeC x c (a x c e)⟩,λi x v r d=> ?_,by unfold Wy;simp[N.len,dR]⟩
 ·obtain⟨v,D⟩:=I.cell x c (a x c e);exact⟨v,up x c (a x c e) v D⟩
 ·cases i with
  | zero=>cases d
  | succ i=>
  have d:(js.map λj=>(σ[j]?).getD none)[i]? =some (some v):=d;rw[av]at d;cases l:js[i]? with
  | none=>rw[l]at d;cases d
  | some j=>
   rw[l]at d;have f :(σ[j]?).getD _=some v:=aI d;have p:σ[j]? =some (some v):=by
    cases O:σ[j]? with
    | none=>rw[O]at f;cases f
    | some z=>rw[O]at f;exact congrArg _ f
   obtain⟨y,J,B,S,M,P⟩:=N.cap i j l;rw[dR,r]at J;cases J;obtain⟨m,hn,q⟩:=I.loc;obtain⟨u,Z,lk⟩:=q j x v B p S;obtain⟨c,K⟩:=g _ (bu M) rfl;rcases lk with ⟨k,_⟩ | ⟨_,c2,G,D⟩
   ·rcases P with z | z <;> (rw[k]at z;cases z)
   ·have:=a x c K;rw[G]at this;cases this;exact⟨u,c,Z,K,up x c G _ D,M⟩
noncomputable def jq (k:Int)(t:T):List Int->List T->T
 | a :: d,t' :: ts=>if a < k then jq a t' d ts else jq k t d ts
 | _,_=>t
noncomputable def WL (f:T->R T):List T->Option (List Int)
 | []=>some []
 | t :: ts=>match f t,WL f ts with
  | .ok (.int k),some a=>some (k :: a)
  | _,_=>none
def VW (js:List Nat)(fe d e:En->R T):En->R T:=λρ=>(d ρ).bind λt=>(e ρ).bind λu=>match t with
 | .lst []=> .ok u
 | .lst (t :: ts)=>(match WL (λt=>fe ((jQ 1 js ρ).set 0 (.vl t))) (t :: ts) with | some (k :: a)=> .ok (jq k t a ts) | _=> .bad)
 | _=> .bad
theorem yi {f:T->R T}:∀{ts:List T} {a:List Int},WL f ts=some a->a.length=ts.length/\∀(i:Nat) (t:T),ts[i]? =some t->∃k,a[i]? =some k/\f t= .ok (.int k)
 | [],a,h=>by cases h;exact⟨rfl,λi t e=>by simp at e⟩
 | t :: ts,a,h=>by
  unfold WL at h;split at h
  ·rename_i k l j g;cases h;obtain⟨o,d⟩:=yi g;refine⟨by simp[o],λi u e=> ?_⟩
   cases i with
   | zero=>cases e;exact⟨k,rfl,j⟩
   | succ i=>exact d i u e
  ·cases h
noncomputable abbrev AF (kf:Nat->Int)(n i:Nat):Prop:=∀j,j < n->kf i<=kf j/\(j < i->kf i < kf j)
theorem WM:∀(d:List Int) (ts:List T) (k:Int) (t:T) (n m:Nat) (a:Nat->Int),d.length=ts.length->m < n->a m=k->(∀j,j < n->a m<=a j/\(j < m->a m < a j))->(∀j q,d[j]? =some q->a (n+j)=q)->
  ∃i,(i=m/\jq k t d ts=t\/∃j,i=n+j/\ts[j]? =some (jq k t d ts))/\∀j,j < n+d.length->a i<=a j/\(j < i->a i < a j)
 | [],ts,k,t,n,m,a,u,G,B,p,v=>⟨m,.inl ⟨rfl,by unfold jq;rfl⟩,λj f=>p j (by simpa using f)⟩
 | r :: d,[],k,t,n,m,a,u,_,_,_,_=>by simp at u
 | r :: d,t' :: ts,k,t,n,m,a,u,G,B,p,v=>by
  have D:=v 0 r rfl;rw[d_]at D;have g :∀j q,d[j]? =some q->a (n+1+j)=q:=λj q e=>by have:=v (j+1) q e;rw[← this];congr 1;omega
  have o :d.length=ts.length:=by simpa using u
  unfold jq
  by_cases c:r < k
  ·rw[if_pos c];obtain⟨i,w,x⟩:=WM d ts r t' (n+1) n a o (by omega) D (λj f=>by
    by_cases z:j=n
    ·subst z;exact⟨iV _,λz=>by omega⟩
    ·have:=p j (by omega);exact⟨by omega,λ_=>by omega⟩) g
   refine⟨i, ?_,λj f=>x j (by rw[ar]at f;omega)⟩
   rcases w with ⟨y,l⟩ | ⟨j,y,l⟩
   ·exact .inr ⟨0,y,by rw[l];rfl⟩
   ·exact .inr ⟨j+1,by omega,l⟩
  ·rw[if_neg c];obtain⟨i,w,x⟩:=WM d ts k t (n+1) m a o (by omega) B (λj f=>by
    by_cases z:j=n
    ·subst z;exact⟨by omega,λz=>by omega⟩
    ·exact p j (by omega)) g
   refine⟨i, ?_,λj f=>x j (by rw[ar]at f;omega)⟩
   rcases w with z | ⟨j,y,l⟩
   ·exact .inl z
   ·exact .inr ⟨j+1,by omega,l⟩
def MK (X:Cx)(j:Sg)(l f:V)(u:V)(Q:VK)(H3:Hp):Prop:=∃(a g:Addr) (xs:List V) (e:Nat->Int),(l= .ref a/\f= .ref g)/\H3 a=some (.lst xs)/\
 (∀(i:Nat) (x:V) (u:Value),xs[i]? =some x->Z2 x u->∀(pn:List (Addr×Obj)) (s:Shared) (d :Hp),Inv X pn j d s->zl H3 d ->
  wpAny (model X.prog X.w) X.A.in1 (call (.ref g) [u]) (λu o =>∃t k,u= .int (e i) t/\Inv X pn j k o /\zl d k) (λ_ _=>False) s)/\
 (xs=[]->Q u H3)/\∀(i:Nat) (x:V) (d :Hp),xs[i]? =some x->AF e xs.length i->zl H3 d ->Q x d
theorem Ky {a b:Expr}{d:Arguments}{body:Expr}{scope:Scope}{lp p pos kp U:Pos}{ta tb P:TE}(hh:X.A.handled=none)(gl:Gl X "min")(mg:X.mg "min"=none)(ha:PE X a ta)(hl:PE X (.Lambda d body scope lp) P)(hb:PE X b tb)(S:lX X a):
  PE X (.Call (.Name "min" p) [a] [⟨some "key",.Lambda d body scope lp,kp⟩,⟨some "default",b,U⟩] pos) (λe H Q=>ta e H λv k=>P e k λg K=>tb e K λu H3=>([v].length=1/\[g,u].length=2)/\MK X e v g u Q H3):=by
 intro pins s e H Q I h;refine cH (jf I gl mg PyProof.Rows.Boot.«min» ?_ (by decide) (by decide))
 refine callWith_kw (lz (zw ha zT S pos _ s e H (λj k=>P e k λg K=>tb e K λu H3=>(j.length=1/\[g,u].length=2)/\MK X e (j.headD .non) g u Q H3) I h) λus s1 ⟨j,k,I1,r,q1⟩=> ?_) (by rw[S];rfl) (by rw[S];rfl) rfl rfl
 refine lz (YX hl (YX hb Gp) pos _ s1 e k (λq H3=>(j.length=1/\q.length=2)/\MK X e (j.headD .non) (q.headD .non) (q.tail.headD .non) Q H3) I1 q1) λws s2 ⟨q,H3,I3,M,⟨l1,l2⟩,a,g,xs,kf,⟨e1,Z⟩,hx,o,q0,qn⟩=> ?_
 match j,r,l1,e1,q,M,l2,Z,q0 with
 | [v],r,_,e1,[y,z],M,_,Z,q0=>
 obtain rfl:v= .ref a:=e1;obtain rfl:y= .ref g:=Z;obtain⟨u,rfl,ru⟩:=ZX r;obtain rfl:u=Value.ref a:=ru;obtain⟨D,wz,rfl,ry,rz'⟩:∃D wz,ws=[D,wz]/\Z2 (.ref g) D/\Z2 z wz:=by
  cases M with
  | cons r O=>
   cases O with
   | cons O r3=>cases r3;exact⟨_,_,rfl,r,O⟩
 obtain rfl:D=Value.ref g:=ry;exact Kw (xs:=xs) kf hh I3 (λw B J l=>let ⟨_,its,n,rv,_,ho⟩:=J.lstM (l _ _ hx);⟨its,rv,_,ho,rfl,n,rfl⟩) (λi x v N G pn B w J l=>o i x v N G _ B w J l) (λhn B J=>⟨z,H3,J,rz',q0 hn⟩)
  λi x v w B N G f J l=>⟨x,w,J,G,qn i x w N f l⟩
theorem Fw {cl:Nat->Value}{kE k:Nat}{q x0:Str}{c P:Addr}{a b:Expr}{d:Arguments}{body:Expr}{scope:Scope}{lp p pos kp kp2:Pos}{js:List Nat}{fe fa fb:En->R T}(hy:Y.cl=cl)(L:Lm X c P q)(hT:Y.H0 P=some (.tbl #[] q))(hfn:∀x,X.fn x=true)
  (hr:ZY k X.A) (hj:kE+2<=k) (gl:Gl X "min") (mg:X.mg "min"=none) (ha:Snd X Y a fa) (hfb:Snd X Y b fb)
  (N' N:List Str) (o:Scope) (hN:X.N=N) (h0:X.env.scope=o) (hck:(pK scope o && kZ N N' scope o 1 js)=true) (hco:scope.isCoroutine=false) (hge:scope.isGenerator=false) (hnd:N'.Nodup) (hx0:N'[0]? =some x0) (hlx:scope.names.lookup x0=some .local)
  (hb:∀(base:Heap) (A:Around) (outer:List Env) (s:Shared) (H:Hp) (E:XK) (f c' :Addr) (g:List (Str×Addr)) (Y' :Fx),X.K.In base->Y'.cl=cl->Y'.E=E->ZY kE (A.deeper (envX q scope s.heap.objs.size f (.ref c') g))->Snd (o5 X.prog X.w X.K X.mg base N' q scope f (.ref c') g A outer s H E) Y' body fe)
  (hp:∀(g:List (Str×Addr)) (pm cd U u:Value),bindArgs (kla_fn "<lambda>" q d body scope g pm cd U) ⟨[u],[]⟩=pure [(x0,u)]:=by intros;rfl) (hdef:defaultsOf d X.env=([],[]):=by rfl) (hs:lX X a:=by exact lO rfl):
  Snd X Y (.Call (.Name "min" p) [a] [⟨some "key",.Lambda d body scope lp,kp⟩,⟨some "default",b,kp2⟩] pos) (VW js fe fa fb):= .mk λρ=>by
 intro pins s σ H Q I ⟨B,J,po⟩;subst hy;rw[ae]at hck;have CS:=Xd o h0 hck.1;have CP:=Uq N o hN h0 hck.2;have S:Bq _:=⟨CS.kind,hco,hge,CS.nocell⟩;obtain⟨g,ecl,hcl,hcf⟩:=Uo λx hx hf=>I.ok.has x.1 (CS.fre x hx hf);refine Ky hr.hd gl mg (ha ρ) (DZ (body:=body) (pos:=lp) L hdef ecl) (hfb ρ) hs pins s σ H Q I ?_;refine step J po λt v H1 _ s1 r1 I1 q1=>⟨I1.sH _ _ hT,λf c' pm U H2 s2 hf hc=> ?_⟩;have I2:=I1.grow s2;refine step I2 (Kp I1.sB s2 q1) λt' v' H3 _ s3 r3 I3 M=>⟨⟨rfl,rfl⟩, ?_⟩;have r1:=(r1.mono (zL.ge I1.sB s2)).mono (zL.ge I2.sB s3);cases r1 with
 | @lst l xs ts h r=>
  have hx:=I3.sB _ _ h;cases ts with
  | nil=>
   refine⟨l,f,xs,λ_=>0,⟨rfl,rfl⟩,hx,λi x u e _=> ?_,λ_=>lU I3.sB M rfl r3,λi x D e=> ?_⟩
   ·cases r;simp at e
   ·cases r;simp at e
  | cons t0 ts=>
   have M:Po Y rC _ H3 (match WL (λt=>fe ((jQ 1 js ρ).set 0 (.vl t))) (t0 :: ts) with | some (k :: y)=> .ok (jq k t0 y ts) | _=> .bad) Q:=M
   split at M
   ·rename_i k0 y ek;obtain⟨hl,hk⟩:=yi ek;refine⟨l,f,xs,λi=>((k0 :: y)[i]?).getD 0,⟨rfl,rfl⟩,hx,λi x u e ru pn s' D I' Z=> ?_,λhn=>(by subst hn;cases r),λi x D e O Z=> ?_⟩
    ·obtain⟨t,et,rt⟩:=r.getV e;obtain⟨kk,ekk,fk⟩:=hk i t et;have hrm:ZY (kE+1) X.A.in1:=⟨hr.hd,by have:=hr.dp;show X.A.depth+3*(kE+1)+5 < _;omega,by have:=hr.un;show X.A.units+1+16*(kE+1)+200 < _;omega,hr.gd⟩
     have G:=I'.big;have e0' :xV X.prog X.w X.K X.mg (Xj s' D (lR X.stack)) X.A.in1 X.stack s' D :=⟨G.frames,G.mod,G.bs,G.bsz,G.funs,G.frf,G.hok,G.bare⟩;refine wpAny_call (d8 (VV (te:=tS ⟨_,D,λ_ _ _=>False,Y.cl,[]⟩ rC fe ((jQ 1 js ρ).set 0 (.vl t))) (Q:=λv H2=>v= .int kk/\zl D H2) (E:=λ_ _ _=>False) S hrm e0' (Kx I' hfn hcl hcf CP) hnd hx0 hlx ru (Z _ _ (s3 _ _ hf)) (hc.mono (s3.trans Z)) (hp _ pm _ U _)
      ((hb _ X.A.in1 _ s' D _ f c' _ ⟨_,D,λ_ _ _=>False,Y.cl,[]⟩ G.mod.kin rfl rfl (hrm.deeper _)) _) ⟨_,((I3.grow Z).blockS 1 js _ (zl.refl _)).setV 0 (rt.mono (zL.ge I3.sB Z)), ?_⟩) λr s2 hq=> ?_)
     ·rw[fk];exact λv H2 s4 r4=>⟨by cases r4;rfl,s4⟩
     ·cases r with
      | error e=>
       obtain⟨_,_,_,_,_,_,_,z⟩:=hq;exact z.elim
      | ok fl=>
       cases fl with
       | ret u=>
        obtain⟨v,H2,I2,rv,rfl,sm2⟩:=I'.after hq;obtain⟨t,rfl⟩:=rv;exact⟨t,H2,by dsimp only;rw[ekk];rfl,I2,sm2⟩
       | next=>exact cx hq
       | brk=>exact cx hq
       | cont=>exact cx hq
    ·have hlt:y.length=ts.length:=by simpa using hl
     have hxl:xs.length=1+y.length:=by rw[r.length,ar,hlt];omega
     obtain⟨i',w1,w2⟩:=WM y ts k0 t0 1 0 (λi=>((k0 :: y)[i]?).getD 0) hlt (by omega) rfl (λj hj=>by
      obtain rfl:j=0:=by omega
      exact⟨iV _,λz=>by omega⟩) (λj q e=>by
      show ((k0 :: y)[1+j]?).getD 0=q;rw[dR,bY,e];rfl)
     have hi:=(au.mp e).1;have hi' :i' < xs.length:=by
      rcases w1 with ⟨z,_⟩ | ⟨j,z,ej⟩
      ·omega
      ·have:=(au.mp ej).1;omega
     obtain rfl:i=i' :=by
      have a1:=O i' hi';have a2:=w2 i (by omega)
      dsimp only at a1 a2;rcases Nat.lt_trichotomy i i' with z | z | z
      ·have:=a2.2 z;have:=a1.1;omega
      ·exact z
      ·have:=a1.2 z;have:=a2.1;omega
     obtain⟨t,et,rt⟩:=r.getV e;have htt:t=jq k0 t0 y ts:=by
      rcases w1 with ⟨z,z2⟩ | ⟨j,z,ej⟩
      ·rw[z]at et;cases et;exact z2.symm
      ·rw[z,dR,bY,ej]at et;exact(aI et).symm
     rw[htt]at rt;exact M x D Z (rt.mono (zL.ge I3.sB Z))
   ·exact M.elim
 | _=>exact M.elim
end
section
variable {P:Program}{w:World}{K:aj}{mg:Str->Option Value}{base:Heap}
theorem Xl {cl:Nat->Value}{x d q:Str}{st:Stmt}{f y:Addr}{u:FuncData}{N o:List Str}{k n:Nat}{p:En->RS}{g:List T->R T}(F:Fun K x d st f u)(S:j2 N o (zf st))(hn:n=o.length)
  (X:∀(cdv:Value) (A:Around) (outer:List Env) (s:Shared) (H:Hp) (E:XK) (Y:Fx),Y.cl=cl->Y.E=E->Y.H0 y=some (.tbl #[] q)->ZY k (A.deeper (envOfC d (zf st) s.heap.objs.size f cdv))->
   w4 (jO (lE P w) P w K mg base N d (zf st) f cdv A outer s H E) Y (zR st) p)
  (O:∀ts,ts.length=n->g ts=zh (p (lm N.length ts))):Jj P w K mg base (lE P w) (k+1) f u o (uo cl n g y q):=by
 subst hn;obtain⟨oc,od,kV,Z,pm,an,cdv,ct,J,rfl,lk,j⟩:=F.ex;refine Vh lk j S (λD H Q E z=>spP.len D H Q E z.2) λA outer s H D Q E hr ⟨hT,B,ts,hl,G,r,q⟩=> ?_;refine⟨_,X cdv A _ s H E ⟨B,H,E,cl,[]⟩ rfl rfl hT hr _,B,SI.start G r, ?_⟩;rw[O ts hl]at q;revert q;cases p _ with
 | rt t=>exact λq v i s r=>q v i s r
 | rf t=>exact λq a xs i M U n e r _ l=>q _ i U (.lst (by rw[zV n];exact e) (r.mono l))
 | nx ρ=>exact λq σ' i M _ I=>q _ i I.sH .non
 | ex c=>exact λq=>q
 | bk ρ=>exact λq=>q.elim
 | ct ρ=>exact λq=>q.elim
 | bad=>exact λq=>q
end
noncomputable abbrev mO (x:Str):Str:=x++".<locals>."++"<lambda>"
noncomputable abbrev FT (K:aj)(mg:Str->Option Value)(x:Str)(st:Stmt)(ps:List Str)(Pt:Addr):Prop:=∃f fd c,Fn K mg x st ps f fd/\fd.code= .ref c/\eG K c Pt=true
abbrev qT (Z:Zz)(x:Str)(n k:Nat)(c:List T->R T)(Pt:Addr)(q:Str):Prop:=QQ x (lE Z.P Z.w) k (uo Z.cl n c Pt q) Z
section
variable {Z:Zz}{x:Str}{st:Stmt}{ps:List Str}{k n m:Nat}{fb:En->RS}{f:Addr}{fd:FuncData}{Pt:Addr}{q:Str}
theorem D5 (C:FT Z.K Z.mg x st ps Pt)(a:Z.base.BuiltinsAt Z.mg Pt)(N:List Str) (d:∀(f c:Addr) (A:Around) (outer:List Env) (s:Shared) (H:Hp) (E:XK) (Y:Fx),Lm (jO (lE Z.P Z.w) Z.P Z.w Z.K Z.mg Z.base N x (zf st) f (.ref c) A outer s H E) c Pt (mO x)->Y.H0 Pt=some (.tbl #[] (mO x))->Y.cl=Z.cl->Y.E=E->ZY k (A.deeper (envOfC x (zf st) s.heap.objs.size f (.ref c)))->N.Nodup->Zq (lE Z.P Z.w) (jO (lE Z.P Z.w) Z.P Z.w Z.K Z.mg Z.base N x (zf st) f (.ref c) A outer s H E) Y.E->
   w4 (jO (lE Z.P Z.w) Z.P Z.w Z.K Z.mg Z.base N x (zf st) f (.ref c) A outer s H E) Y (zR st) fb)
  (S:Sc N ps st:=by refine⟨rfl,rfl,rfl, ?_,rfl, ?_, ?_⟩ <;> decide+kernel) (hn:n=ps.length:=by rfl) (e:m=N.length:=by rfl):qT Z x n (k+1) (oP m fb) Pt (mO x):=by
 obtain⟨f,fd,c,C,g,hd⟩:=C;subst e;exact⟨_,_,f,fd,C,Dd C.F g S hn (λA outer s H E Y hy hE hT hr=>d f c A outer s H E Y ⟨rfl,hd,a,rfl⟩ hT hy hE hr S.nd (hE ▸ Vm)) λ_ _=>rfl⟩
theorem Ec (C:FE Z.K Z.mg x st ps)(N:List Str) (a:∀(f:Addr) (cdv:Value) (A:Around) (outer:List Env) (s:Shared) (H:Hp) (E:XK) (Y:Fx),Y.H0 Pt=some (.tbl #[] q)->Y.cl=Z.cl->Y.E=E->ZY k (A.deeper (envOfC x (zf st) s.heap.objs.size f cdv))->N.Nodup->Zq (lE Z.P Z.w) (jO (lE Z.P Z.w) Z.P Z.w Z.K Z.mg Z.base N x (zf st) f cdv A outer s H E) Y.E->
   w4 (jO (lE Z.P Z.w) Z.P Z.w Z.K Z.mg Z.base N x (zf st) f cdv A outer s H E) Y (zR st) fb)
  (S:Sc N ps st:=by refine⟨rfl,rfl,rfl, ?_,rfl, ?_, ?_⟩ <;> decide+kernel) (hn:n=ps.length:=by rfl) (d:m=N.length:=by rfl):qT Z x n (k+1) (oP m fb) Pt q:=by
 obtain⟨f,fd,C⟩:=C;subst d;exact⟨_,_,f,fd,C,Xl C.F S hn (λcdv A outer s H E Y hy hE hT hr=>a f cdv A outer s H E Y hT hy hE hr S.nd (hE ▸ Vm)) λ_ _=>rfl⟩
theorem Bh (C:Fn Z.K Z.mg x st ps f fd)(N:List Str) (a:∀(cdv:Value) (A:Around) (outer:List Env) (s:Shared) (H:Hp) (E:XK) (Y:Fx),Y.H0 Pt=some (.tbl #[] q)->Y.cl=Z.cl->Y.E=E->ZY k (A.deeper (envOfC x (zf st) s.heap.objs.size f cdv))->N.Nodup->Zq (lE Z.P Z.w) (jO (lE Z.P Z.w) Z.P Z.w Z.K Z.mg Z.base N x (zf st) f cdv A outer s H E) Y.E->
   w4 (jO (lE Z.P Z.w) Z.P Z.w Z.K Z.mg Z.base N x (zf st) f cdv A outer s H E) Y (zR st) fb)
  (S:Sc N ps st:=by refine⟨rfl,rfl,rfl, ?_,rfl, ?_, ?_⟩ <;> decide+kernel) (hn:n=ps.length:=by rfl) (d:m=N.length:=by rfl):Jj Z.P Z.w Z.K Z.mg Z.base (lE Z.P Z.w) (k+1) f fd ps (uo Z.cl n (oP m fb) Pt q):=by
 subst d;exact Xl C.F S hn (λcdv A outer s H E Y hy hE hT hr=>a cdv A outer s H E Y hT hy hE hr S.nd (hE ▸ Vm)) λ_ _=>rfl
end
section
theorem cT (hT:Y.H0 Pt=some (.tbl #[] q))(hy:Y.cl=cl)(hp:Zq (lE X.prog X.w) X Y.E)(O:QQ x (lE X.prog X.w) j (uo cl n g Pt q) ⟨X.prog,X.w,X.K,X.mg,X.base,cl⟩)(hr:ZY k X.A)(o:ul X Y (a :: es) ga)(y:j<=k:=by omega)(i:Gl X x:=by rfl)(hd:(x == ("__debug__":Str))=false:=by decide)
  (r:starEach (a :: es) X.env=(false,eval a X.env) :: starEach es X.env:=by exact zU rfl) (l:((backTo pos (starEach es X.env)).any λx=>x.fst)=false:=by exact Zl rfl):Snd X Y (.Call (.Name x p) (a :: es) [] pos) (za n g ga):=by
 subst hy;refine O.go λ_ _ _ _ C F=> .mk λρ=>PE.imp (Wn F (hr.mono y) i C.m C.F.kp C.b .nil hp (o ρ) hd r l) λJ H Q ⟨B,I,q⟩=>step I q λts N G _ M D e f=> ?_;split at f
 ·rename_i hn;rw[bo];refine⟨e.sH _ _ hT,_,ts,hn,e.sB,D, ?_⟩;revert f;cases g ts with
  | ok t=>exact λq=>q
  | bad=>exact λq=>q
  | ex c=>exact λq d v s u =>q d v (e.sH.trans s) u
 ·exact f.elim
theorem mK {c:Addr}{kE:Nat}{j:Str}{d:Arguments}{body:Expr}{scope:Scope}{O kp r:Pos}{js:List Nat}{fe D G:En->R T}(L:Lm X c Pt q)(hT:Y.H0 Pt=some (.tbl #[] q))(hy:Y.cl=cl)(hr:ZY k X.A)(M:X.mg "min"=none)
  (h:gM X.N (j :: mL X.N js) X.env.scope scope 1 js=true) (i:((scope.names.lookup j == some .local) && !scope.isCoroutine && !scope.isGenerator)=true) (J:Snd X Y a D) (y:Snd X Y b G)
  (S:∀(base:Heap) (A:Around) (outer:List Env) (s:Shared) (H:Hp) (E:XK) (f B :Addr) (e:List (Str×Addr)) (v :Fx),X.K.In base->v.cl=cl->v.E=E->ZY kE (A.deeper (envX q scope s.heap.objs.size f (.ref B) e))->Snd (o5 X.prog X.w X.K X.mg base (j :: mL X.N js) q scope f (.ref B) e A outer s H E) v body fe)
  (U:kE+2<=k:=by omega) (I:Gl X "min":=by rfl) (o:∀x,X.fn x=true:=by exact λ_=>rfl)
  (hp:∀(e:List (Str×Addr)) (Q cd l u:Value),bindArgs (kla_fn "<lambda>" q d body scope e Q cd l) ⟨[u],[]⟩=pure [(j,u)]:=by intros;rfl) (g:defaultsOf d X.env=([],[]):=by rfl) (P:lX X a:=by exact lO rfl):
  Snd X Y (.Call (.Name "min" p) [a] [⟨some "key",.Lambda d body scope O,kp⟩,⟨some "default",b,r⟩] pos) (VW js fe D G):=by
 rw[gM,ae]at h;rw[ae,ae]at i;exact Fw hy L hT o hr U I M J y _ _ _ rfl rfl h.1 (by simpa using i.1.2) (by simpa using i.2) (Wa h.2) rfl (eq_of_beq i.1.1) S hp g P
end
section
end
section
end
section
end
section
variable {X:Cx}{pins:List (Addr×Obj)}{σ:L2.St}{H:Hp}{l I D:Addr}{xs:List V}{R:Result->Shared->Prop}
theorem Kz (U:Nat->Nat->Bool)(hh:X.A.handled=none)(hl:∀s,Inv X pins σ H s->∃a:List Value,Z3 xs a/\s.heap.IsList l a.toArray)(hlI:l ≠ I)(S:D ≠ I)(p:Jh X pins H I)(B:Jh X pins H D)
  (cmp:∀(i j:Nat) (x y:V) (u v:Value),xs[i]? =some x->xs[j]? =some y->Z2 x u->Z2 y v->∀(s:Shared) (Q E:Value->Shared->Prop),Inv X pins σ H s->Q (.bool (U i j)) s->wpAny (model X.prog X.w) X.A.in1 (richCompare .Lt u v) Q E s)
  (hR:∀(x:V) (v:Value) s,xs[argBest U (xs.length - 1)]? =some x->Z2 x v->Inv X pins σ H s->R (.ok (.ret v)) s):
  ∀(r j:Nat) (s:Shared) (P:V) (q:Value) (c:Nat),xs.length - (j+1)=r->j+1<=xs.length->Inv X pins σ H s->
   s.heap.get? D=some (seqObj "list" #[q,q] c)->s.heap.IsListIter I l (j+1)->xs[argBest U j]? =some P->Z2 P q->
   codeAny (model X.prog X.w) X.A (.builtin "min.loop" ⟨[.ref I,.none,.ref D],[]⟩) R s:=by
 have f:(toString "min"++toString ".loop":String)="min.loop":=by decide
 have hI:=p.1;have hD:=B.1;intro r
 induction r with
 | zero=>
  intro j s P q c hr hj J gD N k rb;obtain⟨a,rv,K⟩:=hl _ J;have W:=dw (prog:=X.prog) (w:=X.w) (A:=X.A.in1) hh I l hlI a.toArray;have hsz:a.toArray.size=xs.length:=by rw[aD,rv.length]
  have hin:j+1=xs.length:=by omega
  refine bB c6 ?_;rw[bZ aR _];show wpAny _ X.A.in1 (seqItems? (.ref D) >>= _) _ _ _;refine aa (bC gD rfl ?_);show wpAny _ X.A.in1 (tryCatch (pyNext (.ref I)) _ >>= _) _ _ _;refine aa (bS (W.done _ _ _ ⟨by rw[hsz,← hin];exact N,K⟩ λh' O d => ?_))
  have J1:=J.turned (t' :=O) (λb o n e=>d b o (by simpa using n) e) hI p.2.1 p.2.2.2.1 p.2.2.2.2.1 p.2.2.2.2.2
  have g :=d D _ (by simpa using S) gD
  show wpAny _ X.A.in1 (updateSeq D (λ_=> #[]) >>= _) _ _ _;refine aa (dh g rfl (aa (cC (aw ?_))));exact hR P q _ (by rw[← hin];exact k) rb (J1.turned (it:=D) (λb o n e=>(bb _ _ (bI n)).trans e) hD B.2.1 B.2.2.2.1 B.2.2.2.2.1 B.2.2.2.2.2)
 | succ r ih=>
  intro j s P q c hr hj J gD N k rb;obtain⟨a,rv,K⟩:=hl _ J;have W:=dw (prog:=X.prog) (w:=X.w) (A:=X.A.in1) hh I l hlI a.toArray;have hsz:a.toArray.size=xs.length:=by rw[aD,rv.length]
  have M:j+1 < xs.length:=by omega
  refine bB c6 ?_;rw[bZ aR _];show wpAny _ X.A.in1 (seqItems? (.ref D) >>= _) _ _ _;refine aa (bC gD rfl ?_);show wpAny _ X.A.in1 (tryCatch (pyNext (.ref I)) _ >>= _) _ _ _;refine aa (bS (W.item (j+1) _ _ _ (by rw[hsz];exact M) ⟨N,K⟩ λv h' O hP G d => ?_))
  obtain⟨x,hv,rx⟩:=WK rv (show a[j+1]? =some v by simpa using hP)
  have J1:=J.turned (t' :=O) (λb o n e=>d b o (by simpa using n) e) hI p.2.1 p.2.2.2.1 p.2.2.2.2.1 p.2.2.2.2.2
  have g :=d D _ (by simpa using S) gD
  show wpAny _ X.A.in1 (tryCatch (holding [v,v] (richCompare .Lt v q >>= _)) _ >>= _) _ _ _;refine aa (bS (bM (aa (cmp (j+1) (argBest U j) x P v q hv k rx rb _ _ _ J1 ?_))));refine aa (bM (bf ?_));refine aa (cC (aw ?_));cases hb' :U (j+1) (argBest U j) with
  | true=>
   obtain⟨c2,hc2⟩:∃c2,(h'.update D (fN λ_=> #[v,v])).get? D=some (seqObj "list" #[v,v] c2):=⟨_,get?_update_seq g λ_=> #[v,v]⟩;simp only[if_true];refine aa ?_;refine dh g rfl (aa (cC ?_));rw[f];obtain⟨oI',Z,hoc,hod⟩:=id G.1;refine aw ⟨bQ aR _,ih (j+1) _ x v c2 (by omega) M (J1.turned (it:=D) (λb o n e=>(bb _ _ (bI n)).trans e) hD B.2.1 B.2.2.2.1 B.2.2.2.2.1 B.2.2.2.2.2) hc2 ⟨oI',(bb _ _ S).trans Z,hoc,hod⟩ ?_ rx⟩
   simp only[argBest,hb',if_true];exact hv
  | false=>
   simp only[aB,if_false];refine aa (cC ?_);rw[f];refine aw ⟨bQ aR _,ih (j+1) _ P q c (by omega) M J1 g G.1 ?_ rb⟩
   simp only[argBest,hb',aB,if_false];exact k
theorem KA (bt:Nat->Nat->Bool)(hh:X.A.handled=none)(J:Inv X pins σ H s)(hl:∀K,Inv X pins σ H K ->∃a:List Value,Z3 xs a/\K.heap.IsList l a.toArray)(hp:0 < xs.length)
  (Z:∀(i j:Nat) (x y:V) (u v:Value),xs[i]? =some x->xs[j]? =some y->Z2 x u->Z2 y v->∀(s:Shared) (Q E:Value->Shared->Prop),Inv X pins σ H s->Q (.bool (bt i j)) s->wpAny (model X.prog X.w) X.A.in1 (richCompare .Lt u v) Q E s)
  (hQ:∀(x:V) (v:Value) K,xs[argBest bt (xs.length - 1)]? =some x->Z2 x v->Inv X pins σ H K ->Q v K):
  wpAny (model X.prog X.w) X.A (call (.builtin "min") [.ref l]) Q E s:=by
 have d:(toString "min"++toString ".loop":String)="min.loop":=by decide
 obtain⟨its0,_,g⟩:=hl _ J;obtain⟨ol,hol,_⟩:=id g;have hll:=ax hol;refine kmb_tree iO iz iA (PySem.F.args_min1 _) ?_;refine aa (cB (show eO _ _ 0 _=pure [none,none] from rfl) (aa (aw ?_)));refine aa (cq g ?_);refine aa (wpAny_newList ?_ (bn _));rw[d];obtain⟨f,O⟩:∃f,f=s.heap.push { cls:= .type "list_iterator",data:= .fields #[.ref l,.int 0 0] }:=⟨_,rfl⟩;have hS:f.objs.size=s.heap.objs.size+1:=by rw[O];exact size_push' ..
 rw[← O];have J0:Inv X pins σ H { s with heap:=f.push (seqObj "list" #[] 0) }:=J.kept λb o e=>af _ (by rw[O];exact af _ e)
 have gI:(f.push (seqObj "list" #[] 0)).get? s.heap.objs.size=some { cls:= .type "list_iterator",data:= .fields #[.ref l,.int 0 0] }:=af _ (by rw[O];exact am _ rfl)
 have gD:(f.push (seqObj "list" #[] 0)).get? f.objs.size=some (seqObj "list" #[] 0):=am _ rfl;have p:Jh X pins H s.heap.objs.size:=J.fpOk (ao _) J.fresh;have q:Jh X pins H f.objs.size:=J.fpOk (by omega) (J.hok.fresh (by omega))
 have M:l ≠ s.heap.objs.size:=aK hll;have k:f.objs.size ≠ s.heap.objs.size:=by omega
 obtain⟨a,rv,g⟩:=hl _ J0;have W:=dw (prog:=X.prog) (w:=X.w) (A:=X.A.in1) hh s.heap.objs.size l M a.toArray;have hsz:a.toArray.size=xs.length:=by rw[aD,rv.length]
 generalize f.objs.size=D at*;generalize s.heap.objs.size=I at*;refine aw ⟨bQ aR _, ?_⟩;refine bB c6 ?_;rw[bZ aR _];show wpAny _ X.A.in1 (seqItems? (.ref _) >>= _) _ _ _;refine aa (bC gD rfl ?_);show wpAny _ X.A.in1 (tryCatch (pyNext (.ref I)) _ >>= _) _ _ _;refine aa (bS (W.item 0 _ _ _ (by rw[hsz];exact hp) ⟨⟨_,gI,rfl,rfl⟩,g⟩ λv h' tk' hP G r => ?_))
 obtain⟨x,hv,rx⟩:=WK rv (show a[0]? =some v by simpa using hP)
 obtain⟨oI',B,U,hod⟩:=id G.1;have J1:=J0.turned (t' :=tk') (λb o n e=>r b o (by simpa using n) e) p.1 p.2.1 p.2.2.2.1 p.2.2.2.2.1 p.2.2.2.2.2
 have N :=r D _ (by simpa using k) gD
 obtain⟨P,S⟩:∃P,(h'.update D (fN λ_=> #[v,v])).get? D=some (seqObj "list" #[v,v] P):=⟨_,get?_update_seq N λ_=> #[v,v]⟩;show wpAny _ X.A.in1 (updateSeq D (λ_=> #[v,v]) >>= _) _ _ _;refine aa (dh N rfl ?_);rw[d];exact aw ⟨bQ aR _,Kz bt hh hl M k p q Z hQ _ 0 _ x v P rfl hp (J1.turned (it:=D) (λb o n e=>(bb _ _ (bI n)).trans e) q.1 q.2.1 q.2.2.2.1 q.2.2.2.2.1 q.2.2.2.2.2) S ⟨oI',(bb _ _ k).trans B,U,hod⟩ hv rx⟩
end
noncomputable def Yf:List Int->List Int->Bool
 | [],[]=>false
 | [],_ :: _=>true
 | _ :: _,[]=>false
 | x :: xs,y :: ys=>if x=y then Yf xs ys else decide (x < y)
theorem Qb:∀xs ys,Yf xs ys=HT.lexLt xs ys
 | [],[]=>rfl
 | [],_ :: _=>rfl
 | _ :: _,[]=>rfl
 | x :: xs,y :: ys=>by rw[Yf,HT.lexLt_cons,Qb xs ys]
def wj (k:List Int):List (List Int)->List Int
 | []=>k
 | a :: d=>wj (if Yf a k=true then a else k) d
def uP:List T->Option (List (List Int))
 | []=>some []
 | .tup xs :: ts=>(match Zc xs,uP ts with
  | some k,some a=>some (k :: a)
  | _,_=>none)
 | _=>none
def Yg (t u:T):R T:=match t,u with
 | .lst ts,.int j=>(match uP ts with
  | some (k :: a)=>lI ((wj k a).map T.int) j
  | _=> .bad)
 | _,_=> .bad
theorem Qc (a:Nat->List Int):∀(d:List (List Int)) (k:List Int) (n:Nat),a (argBest (λi j=>Yf (a i) (a j)) n)=k->(∀j q,d[j]? =some q->a (n+1+j)=q)->a (argBest (λi j=>Yf (a i) (a j)) (n+d.length))=wj k d
 | [],k,n,h,_=>by rw[wj];exact h
 | l :: d,k,n,h,g=>by
  have f:=g 0 l rfl;rw[wj,ar,show n+(d.length+1)=(n+1)+d.length by omega]
  refine Qc a d _ (n+1) ?_ λj q e=>by have:=g (j+1) q e;rw[← this];congr 1;omega
  rw[d_]at f;show a (if Yf (a (n+1)) (a (argBest _ n))=true then n+1 else argBest _ n)=_
  rw[h,f]
  by_cases c:Yf l k=true
  ·rw[if_pos c,if_pos c];exact f
  ·rw[if_neg c,if_neg c];exact h
theorem uQ:∀{ts:List T} {a:List (List Int)},uP ts=some a->a.length=ts.length/\∀(i:Nat) (t:T),ts[i]? =some t->∃k xs,a[i]? =some k/\t= .tup xs/\Zc xs=some k
 | [],a,h=>by cases h;exact⟨rfl,λi t e=>by simp at e⟩
 | .tup xs :: ts,a,h=>by
  unfold uP at h;split at h
  ·rename_i k l g f;cases h;obtain⟨j,d⟩:=uQ f;refine⟨by simp[j],λi u e=> ?_⟩
   cases i with
   | zero=>cases e;exact⟨k,xs,rfl,rfl,g⟩
   | succ i=>exact d i u e
  ·cases h
 | .non :: _,_,h=>by cases h
 | .bl _ :: _,_,h=>by cases h
 | .int _ :: _,_,h=>by cases h
 | .str _ :: _,_,h=>by cases h
 | .lst _ :: _,_,h=>by cases h
 | .fz _ :: _,_,h=>by cases h
theorem wk {H:Hp}:∀{xs:List V} {ts:List T} {ns:List Int},zG H xs ts->Zc ts=some ns->xs=ns.map V.int
 | _,_,ns,.nil,h=>by cases h;rfl
 | _,_,ns, @zG.cons _ _ _ _ ts r a,h=>by
  cases r with
  | int i=>
   have h:(match Zc ts with | some l=>some (i :: l) | none=>none)=some ns:=h
   split at h
   ·rename_i l e;cases h;rw[wk a e];rfl
   ·cases h
  | _=>cases h
section
theorem Qd (hr:ZY kk X.A):ZB X (.builtin "min") (λw H Q=>∃(l:Addr) (xs:List V) (d:Nat->List Int),w=[.ref l]/\H l=some (.lst xs)/\0 < xs.length/\(∀(i:Nat) (x:V),xs[i]? =some x->∃a,x= .ref a/\H a=some (.tup ((d i).map V.int)))/\∀x,xs[argBest (λi j=>Yf (d i) (d j)) (xs.length - 1)]? =some x->Q x H):=by
 intro o s σ H w us Q I f h;obtain⟨l,xs,d,rfl,S,M,r,q⟩:=h;obtain⟨u,rfl,P⟩:=ZX f;obtain rfl:u=Value.ref l:=P;refine KA (xs:=xs) (λi j=>Yf (d i) (d j)) hr.hd I (λp J=>let ⟨_,its,n,f,_,ho⟩:=J.lstM S;⟨its,f,_,ho,rfl,n,rfl⟩) M ?_ λx v p g e J=>⟨x,H,J,e,q x g⟩;intro i j x y u v g hy e O p Z E' J k;obtain⟨K,rfl,G⟩:=r i x g;obtain⟨B,rfl,D⟩:=r j y hy;obtain rfl:u=Value.ref K:=e;obtain rfl:v=Value.ref B:=O;obtain⟨i1,v1,U,_⟩:=J.tuple (SqT.of G);obtain⟨i2,v2,N,_⟩:=J.tuple (SqT.of D);rw[Qb]at k;exact HT.lt_tupInts U N (by simpa using W0 v1) (by simpa using W0 v2) (by have:=hr.un;show X.A.units+1 < _;omega) k
theorem DL {c:Int}(hr:ZY kk X.A)(gl:Gl X "min")(mg:X.mg "min"=none)(ha:jn X Y a fa)(M:Snd X Y b (cE (.int c)))(Z:lX X a:=by exact lO rfl)(o:Wq b:=by exact λ_ _=>rfl):Snd X Y (.Subscript (.Call (.Name "min" p) [a] [] pos) b p') (zc Yg fa (cE (.int c))):= .mk λρ=>
 PE.imp (kh qa (ZZ (Qd hr) gl mg PyProof.Rows.Boot.«min» (zw (ha ρ) zT Z) (by decide) (by decide) Z rfl) (M ρ) o) λσ H Q ⟨B,I,q⟩=>by
  refine step I q λt v U _ s1 r1 I1 g=> ?_;have g:Po Y rC _ U (Yg t (.int c)) Q:=g;cases r1 with
  | @lst l xs ts h r=>
   have g:Po Y rC _ U (match uP ts with | some (k :: d)=>lI ((wj k d).map T.int) c | _=> .bad) Q:=g
   split at g
   ·rename_i k d e;obtain⟨hl,hk⟩:=uQ e;have D:xs.length=(k :: d).length:=by rw[r.length,hl]
    refine⟨l,xs,λi=>(k :: d).getD i [],rfl,h,by rw[D];exact Nat.succ_pos _,λi x o=> ?_,λx o=> ?_⟩
    ·obtain⟨t,u⟩:∃t,ts[i]? =some t:=⟨_,ak (by rw[← r.length];exact(au.mp o).1)⟩
     obtain⟨x',ex,rt⟩:=r.at u;rw[o]at ex;cases ex;obtain⟨k',us,K,rfl,P⟩:=hk i t u;cases rt with
     | @tup a ys _ G S=>
      refine⟨a,rfl, ?_⟩;rw[G,wk S P];simp[lh,K]
    ·have hi:=(au.mp o).1;obtain⟨t,u⟩:∃t,ts[argBest (λi j=>Yf ((k :: d).getD i []) ((k :: d).getD j [])) (xs.length - 1)]? =some t:=⟨_,ak (by rw[← r.length];exact hi)⟩
     obtain⟨x',ex,rt⟩:=r.at u;rw[o]at ex;cases ex;obtain⟨k',us,K,rfl,P⟩:=hk _ t u;have M:=Qc (λi=>(k :: d).getD i []) d k 0 rfl λj q e=>by rw[show 0+1+j=j+1 by omega];simp[lh,e]
     have N :k' =wj k d:=by
      rw[← M,show 0+d.length=xs.length - 1 by rw[D];simp]
      unfold lh at K ⊢;rw[K];rfl
     subst N;refine step (f:=cE (.int c)) (k:=λ_=>lI ((wj k d).map T.int) c) I1 g λt' v' H2 e' s2 r2 I2 J=> ?_;cases e';cases r2;cases rt with
     | @tup a ys _ G S=>
      unfold lI at J;split at J
      ·rename_i t y;obtain⟨w,e9,O⟩:=uE (wf (H:=H2) (wj k d)) y;rw[wk S P]at G;refine .inr (.inl ⟨a,_,c,w,rfl,rfl,SqT.of (s2 _ _ G),e9, ?_⟩);have:∃j,t= .int j:=by
        unfold mj at y;obtain⟨n,_,y⟩:=Option.bind_eq_some_iff.mp y;obtain⟨j,_,ej⟩:=aE.mp (bc y);exact⟨j,ej.symm⟩
       obtain⟨j,rfl⟩:=this;cases O;exact lU I2.sB J rfl (.int _)
      ·exact J.elim
   ·exact g.elim
  | _=>exact g.elim
end
end PV
namespace PV
open PySem PySem.Spec PyProof.Rows L2
section
end
section
end
end PV
namespace PV
open PySem PySem.Spec PyProof.Rows L2 PySem.W
section
variable {P:Program}{w:World}{K:aj}{mg:Str->Option Value}{base:Heap}{cl:Nat->Value}{k n:Nat}{f Pt:Addr}{fd:FuncData}{ps:List Str}{g:List T->R T}{x q:Str}
theorem EG (F:Jj P w K mg base (lE P w) k f fd ps (uo cl n g Pt q)):Jj P w K mg base mw k f fd ps (uo cl n (mv g) Pt q):=by
 have d:∀a H Q E,uo cl n (mv g) Pt q a H Q E->uo cl n g Pt q a H Q (λ_ _ _=>False):=λa H Q E ⟨hT,B,ts,y,u,r,q⟩=>⟨hT,B,ts,y,u,r,by
  unfold mv at q;revert q;cases g ts with
  | ok t=>exact λq=>q
  | ex c=>exact λq=>q.elim
  | bad=>exact λq=>q.elim⟩
 refine⟨λa H Q E h=>F.len a H Q _ (d a H Q E h),λA outer s H args i a Q E hr j l p h=> ?_⟩;refine d8 (F.run A _ s H _ i a Q _ hr j l p (d a H Q E h)) λr v z=> ?_;cases r with
 | ok o=>cases o <;> exact z
 | error e=>
  obtain⟨_,_,_,_,_,_,_,z⟩:=(show lE P w _ H s (λ_ _ _=>False) e v from z);exact z.elim
theorem FU (O:QQ x (lE P w) k (uo cl n g Pt q) ⟨P,w,K,mg,base,cl⟩):QQ x mw k (uo cl n (mv g) Pt q) ⟨P,w,K,mg,base,cl⟩:=by
 obtain⟨⟨st,ps,f,fd,C,F⟩⟩:=O;exact⟨st,ps,f,fd,C,EG F⟩
end
section
theorem Fj (hT:Y.H0 Pt=some (.tbl #[] q))(hy:Y.cl=cl)(O:QQ x mw j (uo cl n g Pt q) ⟨X.prog,X.w,X.K,X.mg,X.base,cl⟩)(hr:ZY k X.A)(o:ul X Y (a :: es) ga)(y:j<=k:=by omega)(i:Gl X x:=by rfl)(hd:(x == ("__debug__":Str))=false:=by decide)
  (r:starEach (a :: es) X.env=(false,eval a X.env) :: starEach es X.env:=by exact zU rfl) (l:((backTo pos (starEach es X.env)).any λx=>x.fst)=false:=by exact Zl rfl):Snd X Y (.Call (.Name x p) (a :: es) [] pos) (za n g ga):=by
 subst hy;refine O.go λ_ _ _ _ C F=> .mk λρ=>PE.imp (Wn F (hr.mono y) i C.m C.F.kp C.b .nil (kX:Zq mw X Y.E) (o ρ) hd r l) λJ H Q ⟨B,I,q⟩=>step I q λts N G _ M D e f=> ?_;split at f
 ·rename_i hn;rw[bo];refine⟨e.sH _ _ hT,_,ts,hn,e.sB,D, ?_⟩;revert f;cases g ts with
  | ok t=>exact λq=>q
  | bad=>exact λq=>q
  | ex c=>exact λq d v s u =>q d v (e.sH.trans s) u
 ·exact f.elim
end
section
variable {js:List Nat}
theorem CT (hy:Y.cl=cl)(h:((tz scope X.env.scope && kZ X.N (x :: mL X.N js) scope X.env.scope 1 js) && pX (x :: mL X.N js))=true)(j:((relabel scope X.env).names.lookup x == some .local)=true)(g:X.calm=true)(it:um X Y (.Name x p) iter fi)(tt:∀a,a.cl=cl->zl Y.H0 a.H0->Q9 X scope (x :: mL X.N js) λd=>JJ d a ifs ft)
  (i:∀a,a.cl=cl->zl Y.H0 a.H0->Q9 X scope (x :: mL X.N js) λd=>Snd d a elt fe) (f:∀x,foldedSetIterable iter X.env x=pure x:=by intro _;rfl):Uw X Y (.Name x p) iter elt ifs scope (x :: mL X.N js) 1 js fi (wM 0) (zq 0) ft fe:=by
 subst hy;rw[ae]at h;have e:(relabel scope X.env).names.lookup x=some .local:=eq_of_beq j;exact Kt _ _ _ rfl rfl h.1 g it (λ_ _ _ _ _ _=>jN (Wa h.2) rfl (.inl e) (.inr e)) (y6 0) (y8 0) tt i f
end
end PV
namespace G
open PySem PySem.Spec PyProof.Rows L2 PV
noncomputable def okX (c:Nat):Bool:=decide (c < 6)
noncomputable def Jp (c:Nat):Bool:=c == 0
noncomputable def jS (c:Nat):Bool:=c == 1
noncomputable def Jq (c:Nat):Bool:=c == 2
noncomputable def jT (c:Nat):Bool:=c == 3
noncomputable def wl (c:Nat):Bool:=c == 4
noncomputable def Jr (c:Nat):Bool:=c == 5
noncomputable def j6 (_:Nat):Bool:=true
def pR:En->RS:=
  zi (lu (zk mG (vB 1) (lj zM (vB 0))) (zo (zc li (vE 0) (vE 1))) (lq))
  (zi (lu (zk ll (vB 0) (Z7 (zd))) (zo (cE (.int 0))) (lq))
  (zo (zc zn (zc zY (zc li (vE 0) (zc jH (vE 1) (lj zM (vB 0)))) (cE (.int 31))) (vE 1))))
def oV:List T->R T:=λts=>zh (pR  (lm 2 ts))
def B4 (a:List T->R T):En->RS:=
  zi (zr 3 (zc jH (zc zY (zc zn (za 2 a (z9 (vE 0) (z9 (vE 1) (zd)))) (zc zY (cE (.int 6151)) (zc zn (vE 1) (cE (.int 1))))) (cE (.int 40692))) (cE (.int 2147483399))))
  (zo (zc jH (zc jH (zc zn (zc zY (vE 3) (vE 3)) (zc Wu (vE 3) (cE (.int 31)))) (cE (.int 2147483629))) (vE 2)))
def lT:List T->R T:=λts=>zh (B4 (oV) (lm 4 ts))
def sT (a:List T->R T):En->RS:=
  zi (zr 2 (cE (.str "abcdefghijklmnopqrstuvwxyz")))
  (zi (lu (zk ml (za 3 a (z9 (vE 0) (z9 (vE 1) (z9 (cE (.int 6)) (zd))))) (cE (.int 0))) (zo (zc li (Z7 (z9 (cE (.str "a")) (z9 (cE (.str "b")) (z9 (cE (.str "ab")) (z9 (cE (.str "cab")) (zd)))))) (za 3 a (z9 (vE 0) (z9 (zc zn (vE 1) (cE (.int 1))) (z9 (cE (.int 4)) (zd))))))) (lq))
  (zo (lj (BV "") (zv (zO (zc zn (cE (.int 1)) (za 3 a (z9 (vE 0) (z9 (zc zn (vE 1) (cE (.int 1))) (z9 (cE (.int 3)) (zd))))))) (zq 0) (Z9) (zc li (vE 3) (za 3 a (z9 (vE 1) (z9 (zc zn (zc zn (vE 2) (cE (.int 2))) (vE 0)) (z9 (cE (.int 26)) (zd)))))) 1 [0,1,2]))))
def gN:List T->R T:=λts=>zh (sT (lT) (lm 3 ts))
def sP (a:List T->R T)(d:List T->R T):En->RS:=
  zi (lu (zk ml (za 3 a (z9 (vE 0) (z9 (vE 1) (z9 (cE (.int 3)) (zd))))) (cE (.int 0))) (zi (zr 2 (zc jg (za 3 a (z9 (vE 0) (z9 (zc zn (vE 1) (cE (.int 1))) (z9 (cE (.int 7)) (zd))))) (cE (.int 3))))
  (zi (lu (zk ll (za 3 a (z9 (vE 0) (z9 (zc zn (vE 1) (cE (.int 3))) (z9 (cE (.int 8)) (zd))))) (cE (.int 0))) (zr 2 (zc li (Z7 (z9 (Wv (cE (.int 20))) (z9 (cE (.int 17)) (z9 (cE (.int 20)) (zd))))) (za 3 a (z9 (vE 0) (z9 (zc zn (vE 1) (cE (.int 4))) (z9 (cE (.int 3)) (zd))))))) (lq))
  (zo (zQ (z9 (cE (.str "whole")) (z9 (vE 2) (z9 (zc Y4 (cE (.int 20)) (zc zn (vE 2) (za 3 a (z9 (vE 0) (z9 (zc zn (vE 1) (cE (.int 2))) (z9 (cE (.int 4)) (zd))))))) (zd)))))))) (lq))
  (zi (wR 3 (zd))
  (zi (j5 (zO (zc zn (cE (.int 1)) (za 3 a (z9 (vE 0) (z9 (zc zn (vE 1) (cE (.int 1))) (z9 (cE (.int 4)) (zd))))))) (zq 4) (zi (zr 5 (za 2 d (z9 (vE 0) (z9 (zc zn (zc zn (vE 1) (cE (.int 5))) (zc zY (cE (.int 5)) (vE 4))) (zd)))))
  (lu (zk Wx (vB 5) (vB 3)) (uG 3 (vE 5)) (lq))))
  (zo (zQ (z9 (cE (.str "pick")) (z9 (lj sV (zv (Y8 (vE 3)) (zX 0 1) (Z9) (zQ (z9 (vE 1) (z9 (zc zn (cE (.int 1)) (za 3 a (z9 (vE 2) (z9 (zc zn (zc zn (vE 3) (cE (.int 30))) (vE 0)) (z9 (cE (.int 20)) (zd)))))) (zd)))) 2 [0,1])) (zd)))))))
def oX:List T->R T:=λts=>zh (sP (lT) (gN) (lm 6 ts))
def sI (a:List T->R T)(d:List T->R T)(e:List T->R T):En->RS:=
  zi (zr 3 (za 3 a (z9 (vE 0) (z9 (vE 1) (z9 (cE (.int 5)) (zd))))))
  (zi (lu (lY (zk ll (vB 2) (cE (.int 1))) (zk mG (vB 3) (cE (.int 2)))) (zo (za 2 d (z9 (vE 0) (z9 (zc zn (vE 1) (cE (.int 1))) (zd))))) (lq))
  (zi (lu (zk mG (vB 3) (cE (.int 4))) (zi (zr 4 (zv (zO (zc zn (cE (.int 1)) (za 3 a (z9 (vE 0) (z9 (zc zn (vE 1) (cE (.int 1))) (z9 (cE (.int 3)) (zd))))))) (zq 0) (Z9) (za 3 e (z9 (vE 1) (z9 (zc zn (zc zn (zc zY (cE (.int 3)) (vE 2)) (cE (.int 40))) (zc zY (cE (.int 50)) (vE 0))) (z9 (zc jg (vE 3) (cE (.int 1))) (zd))))) 1 [0,1,2]))
  (zo (zQ (z9 (cE (.str "row")) (z9 (lj sV (vE 4)) (zd)))))) (lq))
  (zi (zr 5 (za 3 a (z9 (vE 0) (z9 (zc zn (vE 1) (cE (.int 1))) (z9 (cE (.int 3)) (zd))))))
  (zo (zQ (z9 (cE (.str "many")) (z9 (za 3 e (z9 (vE 0) (z9 (zc zn (zc zY (cE (.int 3)) (vE 1)) (cE (.int 40))) (z9 (zc jg (vE 2) (cE (.int 1))) (zd))))) (z9 (vE 5) (z9 (zc Y4 (cE (.int 3)) (zc zn (vE 5) (za 3 a (z9 (vE 0) (z9 (zc zn (vE 1) (cE (.int 2))) (z9 (cE (.int 3)) (zd))))))) (zd))))))))))
def nq:Nat->Nat->List T->R T
 | 0,_=>λ_=> .bad
 | n+1,_=>λts=>zh (sI (lT) (oX) (nq n 0) (lm 6 ts))
abbrev nS (n:Nat):List T->R T:=nq n 0
def sW:En->RS:=
  zi (zr 1 (Z7 (z9 (zQ (zd)) (zd))))
  (zi (j5 (Zg (vE 0)) (zq 2) (zi (wR 3 (zd))
  (zi (j5 (Zg (vE 1)) (zq 4) (Y5 3 (zv (Zg (vE 2)) (zq 0) (Z9) (zc zn (vE 1) (zQ (z9 (vE 0) (zd)))) 1 [4])))
  (rL 1 3))))
  (zo (vE 1)))
def me:List T->R T:=λts=>zh (sW  (lm 5 ts))
def mr (d:List T->R T)(a:List T->R T):En->RS:=
  zi (lu (zk ll (zc li (vE 0) (cE (.int 0))) (cE (.str "whole"))) (zo (tF (JI (zc li (vE 0) (cE (.int 1))) (zc zn (zc li (vE 0) (cE (.int 2))) (cE (.int 1)))))) (lq))
  (zi (lu (zk ll (zc li (vE 0) (cE (.int 0))) (cE (.str "pick"))) (zo (zv (Zg (zc li (vE 0) (cE (.int 1)))) (zX 0 1) (Z9) (vE 0) 2 [])) (lq))
  (zi (lu (zk ll (zc li (vE 0) (cE (.int 0))) (cE (.str "row"))) (zo (za 1 a (z9 (zv (Zg (zc li (vE 0) (cE (.int 1)))) (zq 0) (Z9) (za 1 d (z9 (vE 0) (zd))) 1 []) (zd)))) (lq))
  (zi (wR 1 (zd))
  (zi (j5 (JI (zc li (vE 0) (cE (.int 2))) (zc zn (zc li (vE 0) (cE (.int 3))) (cE (.int 1)))) (zq 2) (Y5 1 (za 1 a (z9 (zc zY (Z7 (z9 (za 1 d (z9 (zc li (vE 0) (cE (.int 1))) (zd))) (zd))) (vE 2)) (zd)))))
  (zo (vE 1))))))
def ou:Nat->Nat->List T->R T
 | 0,_=>λ_=> .bad
 | n+1,_=>λts=>zh (mr (ou n 0) (me) (lm 3 ts))
abbrev m8 (n:Nat):List T->R T:=ou n 0
def mQ (d:List T->R T)(a:List T->R T):En->RS:=
  zi (lu (zk lQ (zc li (vE 0) (cE (.int 0))) (zQ (z9 (cE (.str "whole")) (z9 (cE (.str "pick")) (zd))))) (zo (lj zM (za 1 d (z9 (vE 0) (zd))))) (lq))
  (zi (zr 1 (lP (zk ll (zc li (vE 0) (cE (.int 0))) (cE (.str "row"))) (zv (Zg (zc li (vE 0) (cE (.int 1)))) (zq 0) (Z9) (za 1 a (z9 (vE 0) (zd))) 1 []) (Z7 (zd))))
  (zi (zr 2 (cE (.int 1)))
  (zi (j5 (Zg (vE 1)) (zq 3) (zr 2 (zc zY (vE 2) (vE 3))))
  (zi (lu (zk ll (zc li (vE 0) (cE (.int 0))) (cE (.str "many"))) (zi (zr 4 (za 1 a (z9 (zc li (vE 0) (cE (.int 1))) (zd))))
  (zi (zr 2 (zc zn (lj qI (ZQ ll (zc li (vE 0) (cE (.int 2))) (cE (.int 0)))) (zc zY (vE 4) (lj qI (mm lA lA (zc li (vE 0) (cE (.int 2))) (cE (.int 1)) (zc li (vE 0) (cE (.int 3))))))))
  (zi (zr 2 (zc zn (vE 2) (zc zY (zc zY (vE 4) (vE 4)) (lj qI (mm lA lA (zc li (vE 0) (cE (.int 2))) (cE (.int 2)) (zc li (vE 0) (cE (.int 3))))))))
  (zr 2 (zc zn (vE 2) (zc zY (zc zY (zc zY (vE 4) (vE 4)) (vE 4)) (lj qI (ZQ ll (zc li (vE 0) (cE (.int 3))) (cE (.int 3)))))))))) (lq))
  (zo (vE 2))))))
def sK:Nat->Nat->List T->R T
 | 0,_=>λ_=> .bad
 | n+1,_=>λts=>zh (mQ (m8 8) (sK n 0) (lm 5 ts))
abbrev pO (n:Nat):List T->R T:=sK n 0
def si (d:List T->R T)(a:List T->R T):En->RS:=
  zi (zr 3 (za 3 d (z9 (vE 0) (z9 (vE 1) (z9 (cE (.int 3)) (zd))))))
  (zi (j5 (zO (cE (.int 3))) (zq 4) (zi (lu (zk lA (za 1 a (z9 (vE 3) (zd))) (vB 2)) (zo (vE 3)) (lq))
  (zr 3 (za 3 d (z9 (vE 0) (z9 (zc zn (zc zn (vE 1) (cE (.int 500))) (zc zY (cE (.int 700)) (vE 4))) (z9 (cE (.int 2)) (zd))))))))
  (zo (lP (zk lA (za 1 a (z9 (vE 3) (zd))) (vB 2)) (vE 3) (zQ (z9 (cE (.str "whole")) (z9 (Wv (cE (.int 1))) (z9 (cE (.int 2)) (zd))))))))
def pQ:List T->R T:=λts=>zh (si (nS 8) (pO 8) (lm 5 ts))
def tm (a:List T->R T)(d:List T->R T):En->RS:=
  zi (zr 3 (za 3 a (z9 (vE 0) (z9 (vE 1) (z9 (cE (.int 9)) (zd))))))
  (zi (lu (JZ (zk ml (vB 2) (cE (.int 1))) (zk ml (vB 3) (cE (.int 5)))) (zi (zr 4 (za 3 d (z9 (vE 0) (z9 (zc zn (zc zY (cE (.int 2)) (vE 1)) (cE (.int 11))) (z9 (zc jg (vE 2) (cE (.int 1))) (zd))))))
  (zi (lu (zk ll (vB 3) (cE (.int 6))) (zo (zQ (z9 (cE (.str "no")) (z9 (vE 4) (zd))))) (lq))
  (zo (zQ (z9 (zc li (Z7 (z9 (cE (.str "all")) (z9 (cE (.str "some")) (zd)))) (zc jg (vE 3) (cE (.int 7)))) (z9 (vE 4) (z9 (za 3 d (z9 (vE 0) (z9 (zc zn (zc zY (cE (.int 2)) (vE 1)) (cE (.int 24))) (z9 (zc jg (vE 2) (cE (.int 1))) (zd))))) (zd)))))))) (lq))
  (zi (zr 5 (zc jg (za 3 a (z9 (vE 0) (z9 (zc zn (vE 1) (cE (.int 1))) (z9 (cE (.int 9)) (zd))))) (cE (.int 4))))
  (zi (lu (zk mG (zc jH (vE 3) (cE (.int 6))) (cE (.int 2))) (zo (zQ (z9 (cE (.str "sum")) (z9 (vE 5) (z9 (zc jg (zc zn (vE 5) (za 3 a (z9 (vE 0) (z9 (zc zn (vE 1) (cE (.int 2))) (z9 (cE (.int 5)) (zd)))))) (cE (.int 1))) (zd)))))) (lq))
  (zi (lu (zk ll (zc jH (vE 3) (cE (.int 6))) (cE (.int 2))) (zo (zQ (z9 (cE (.str "size")) (z9 (za 3 a (z9 (vE 0) (z9 (zc zn (vE 1) (cE (.int 1))) (z9 (cE (.int 3)) (zd))))) (z9 (za 3 a (z9 (vE 0) (z9 (zc zn (vE 1) (cE (.int 2))) (z9 (cE (.int 4)) (zd))))) (zd)))))) (lq))
  (zi (lu (zk ll (zc jH (vE 3) (cE (.int 6))) (cE (.int 3))) (zo (zQ (z9 (cE (.str "word")) (z9 (zc li (Z7 (z9 (cE (.str "a")) (z9 (cE (.str "b")) (z9 (cE (.str "ab")) (z9 (cE (.str "zz")) (zd)))))) (za 3 a (z9 (vE 0) (z9 (zc zn (vE 1) (cE (.int 1))) (z9 (cE (.int 4)) (zd)))))) (zd))))) (lq))
  (zo (lP (zk ll (zc jH (vE 3) (cE (.int 6))) (cE (.int 4))) (zQ (z9 (cE (.str "rising")) (zd))) (zQ (z9 (cE (.str "unlike")) (zd))))))))))
def nG:Nat->Nat->List T->R T
 | 0,_=>λ_=> .bad
 | n+1,_=>λts=>zh (tm (lT) (nG n 0) (lm 6 ts))
abbrev BL (n:Nat):List T->R T:=nG n 0
def rA (a:List T->R T):En->RS:=
  zi (lu (ZW (Z8 (lj (j4 "tuple") (vB 0)))) (zo (Z7 (z9 (vE 0) (zd)))) (lq))
  (zi (zr 1 (Z7 (zd)))
  (zi (j5 (Zg (vE 0)) (zq 2) (zr 1 (zc zn (vE 1) (za 1 a (z9 (vE 2) (zd))))))
  (zo (vE 1))))
def pZ:Nat->Nat->List T->R T
 | 0,_=>λ_=> .bad
 | n+1,_=>λts=>zh (rA (pZ n 0) (lm 3 ts))
abbrev pE (n:Nat):List T->R T:=pZ n 0
def sv (d:List T->R T)(a:List T->R T):En->RS:=
  zi (zr 2 (zv (Zg (za 1 d (z9 (vE 1) (zd)))) (zq 0) (Z8 (lj (j4 "int") (vB 0))) (vE 0) 1 []))
  (zi (zr 3 (lP (Z8 (lj (j4 "tuple") (vB 1))) (vE 1) (zQ (z9 (vE 1) (zd)))))
  (zi (lu (zk ll (zc li (vE 0) (cE (.int 0))) (cE (.str "sum"))) (zi (zr 4 (cE (.int 0)))
  (zi (j5 (Zg (vE 2)) (zq 5) (zr 4 (zc zn (vE 4) (vE 5))))
  (zo (ZV (ZQ lA (zc li (vE 0) (cE (.int 1))) (vB 4)) (ZQ lA (vB 4) (zc li (vE 0) (cE (.int 2)))))))) (lq))
  (zi (lu (zk ll (zc li (vE 0) (cE (.int 0))) (cE (.str "size"))) (zo (ZV (ZQ oA (lj zM (vB 3)) (zc li (vE 0) (cE (.int 1)))) (ZQ lA (lj zM (vB 3)) (zc li (vE 0) (cE (.int 2)))))) (lq))
  (zi (lu (zk ll (zc li (vE 0) (cE (.int 0))) (cE (.str "word"))) (zo (ZQ lJ (zv (Zg (za 1 d (z9 (vE 1) (zd)))) (zq 0) (zk ll (vB 0) (zc li (vE 1) (cE (.int 1)))) (vE 0) 1 [0]) (Z7 (zd)))) (lq))
  (zi (lu (zk ll (zc li (vE 0) (cE (.int 0))) (cE (.str "rising"))) (zo (ZQ ll (vB 2) (lj VR (vB 2)))) (lq))
  (zi (lu (zk ll (zc li (vE 0) (cE (.int 0))) (cE (.str "unlike"))) (zo (ZQ ll (zv (zO (lj zM (vB 3))) (zq 0) (zk lQ (zc li (vE 1) (vE 0)) (lK (vE 1) (lM) (zJ (vE 0)))) (vE 0) 1 [3]) (Z7 (zd)))) (lq))
  (zi (lu (zk ll (zc li (vE 0) (cE (.int 0))) (cE (.str "no"))) (zo (qr (za 2 a (z9 (zc li (vE 0) (cE (.int 1))) (z9 (vE 1) (zd)))))) (lq))
  (zi (zr 6 (zv (Zg (lK (vE 0) (zJ (cE (.int 1))) (lM))) (zq 0) (Z9) (za 2 a (z9 (vE 0) (z9 (vE 1) (zd)))) 1 [1]))
  (zo (lP (zk ll (zc li (vE 0) (cE (.int 0))) (cE (.str "all"))) (ZV (zc li (vE 6) (cE (.int 0))) (zc li (vE 6) (cE (.int 1)))) (nz (zc li (vE 6) (cE (.int 0))) (zc li (vE 6) (cE (.int 1))))))))))))))
def mC:Nat->Nat->List T->R T
 | 0,_=>λ_=> .bad
 | n+1,_=>λts=>zh (sv (pE 8) (mC n 0) (lm 7 ts))
abbrev rg (n:Nat):List T->R T:=mC n 0
def BX:En->RS:=
  zo (ZV (lj (j4 "int") (vB 0)) (qr (lj (j4 "bool") (vB 0))))
def mS:List T->R T:=λts=>zh (BX  (lm 1 ts))
def pT (a:List T->R T):En->RS:=
  zo (ZV (za 1 a (z9 (vE 0) (zd))) (ZV (za 1 a (z9 (vE 1) (zd))) (pb lA lA lA (vB 2) (vB 0) (vB 1) (vB 3))))
def rQ:List T->R T:=λts=>zh (pT (mS) (lm 4 ts))
def Ch:En->RS:=
  zo (ZV (lj (j4 "tuple") (vB 0)) (mm lA lA (vB 1) (lj zM (vB 0)) (vB 2)))
def mP:List T->R T:=λts=>zh (Ch  (lm 3 ts))
def Ck:En->RS:=
  zi (lu (lY (ZW (Z8 (lj (j4 "str") (vB 0)))) (ZW (nF lA lA (cE (.int 1)) (lj zM (vB 0)) (cE (.int 3))))) (zo (cE (.bl false))) (lq))
  (zo (lj X1 (zv (Zg (vE 0)) (zq 0) (Z9) (mm lA lA (cE (.str "a")) (vB 0) (cE (.str "z"))) 1 [])))
def oo:List T->R T:=λts=>zh (Ck  (lm 1 ts))
def sO (d:List T->R T)(a:List T->R T)(e:List T->R T):En->RS:=
  zo (ZV (za 3 a (z9 (vE 0) (z9 (cE (.int 2)) (z9 (cE (.int 2)) (zd))))) (ZV (za 1 e (z9 (zc li (vE 0) (cE (.int 0))) (zd))) (ZV (za 1 d (z9 (zc li (vE 0) (cE (.int 1))) (zd))) (mm lA lA (cE (.int 1)) (zc li (vE 0) (cE (.int 1))) (cE (.int 20))))))
def oW:List T->R T:=λts=>zh (sO (mS) (mP) (oo) (lm 1 ts))
def sS (d:List T->R T)(a:List T->R T):En->RS:=
  zi (lu (lY (ZW (Z8 (za 3 d (z9 (vE 0) (z9 (cE (.int 1)) (z9 (cE (.int 4)) (zd))))))) (ZW (Z8 (lj X1 (zv (Zg (vE 0)) (zq 0) (Z9) (za 1 a (z9 (vE 0) (zd))) 1 []))))) (zo (cE (.bl false))) (lq))
  (zi (zr 1 (zv (Zg (vE 0)) (zq 0) (Z9) (zc li (vE 0) (cE (.int 0))) 1 []))
  (zo (ZQ ll (lj Vy (vB 1)) (lj zM (vB 1)))))
def pH:List T->R T:=λts=>zh (sS (mP) (oW) (lm 2 ts))
def sQ (a:List T->R T)(f:List T->R T)(d:List T->R T)(e:List T->R T):En->RS:=
  zi (lu (lY (zk ll (vB 1) (cE (.int 0))) (lY (ZW (Z8 (lj (j4 "tuple") (vB 0)))) (zk ll (lj zM (vB 0)) (cE (.int 0))))) (zo (cE (.bl false))) (lq))
  (zi (lu (zk ll (zc li (vE 0) (cE (.int 0))) (cE (.str "whole"))) (zo (ZV (ZQ ll (lj zM (vB 0)) (cE (.int 3))) (za 4 a (z9 (zc li (vE 0) (cE (.int 1))) (z9 (zc li (vE 0) (cE (.int 2))) (z9 (Wv (cE (.int 20))) (z9 (cE (.int 20)) (zd)))))))) (lq))
  (zi (lu (zk ll (zc li (vE 0) (cE (.int 0))) (cE (.str "pick"))) (zo (ZV (ZQ ll (lj zM (vB 0)) (cE (.int 2))) (za 1 d (z9 (zc li (vE 0) (cE (.int 1))) (zd))))) (lq))
  (zi (lu (zk ll (zc li (vE 0) (cE (.int 0))) (cE (.str "row"))) (zo (ZV (ZQ ll (lj zM (vB 0)) (cE (.int 2))) (za 2 e (z9 (zc li (vE 0) (cE (.int 1))) (z9 (zc jg (vE 1) (cE (.int 1))) (zd)))))) (lq))
  (zi (lu (zk ll (zc li (vE 0) (cE (.int 0))) (cE (.str "many"))) (zo (ZV (ZQ ll (lj zM (vB 0)) (cE (.int 4))) (ZV (za 4 a (z9 (zc li (vE 0) (cE (.int 2))) (z9 (zc li (vE 0) (cE (.int 3))) (z9 (cE (.int 0)) (z9 (cE (.int 3)) (zd)))))) (za 2 f (z9 (zc li (vE 0) (cE (.int 1))) (z9 (zc jg (vE 1) (cE (.int 1))) (zd))))))) (lq))
  (zo (cE (.bl false)))))))
def sJ (a:List T->R T)(d:List T->R T):En->RS:=
  zo (ZV (za 3 a (z9 (vE 0) (z9 (cE (.int 1)) (z9 (cE (.int 3)) (zd))))) (lj X1 (zv (Zg (vE 0)) (zq 0) (Z9) (za 2 d (z9 (vE 0) (z9 (vE 1) (zd)))) 1 [1])))
def mF:Nat->Nat->List T->R T
 | 0,_=>λ_=> .bad
 | n+1,0=>λts=>zh (sQ (rQ) (mF n 0) (pH) (mF n 1) (lm 2 ts))
 | n+1,_=>λts=>zh (sJ (mP) (mF n 0) (lm 2 ts))
abbrev Ay (n:Nat):List T->R T:=mF n 0
abbrev AL (n:Nat):List T->R T:=mF n 1
def rY (a:List T->R T):En->RS:=
  zo (za 2 a (z9 (vE 0) (z9 (cE (.int 3)) (zd))))
def oJ:List T->R T:=λts=>zh (rY (Ay 20) (lm 1 ts))
def rK (a:List T->R T):En->RS:=
  lu (ZW (Z8 (za 1 a (z9 (vE 0) (zd))))) (W6 0) (lq)
def nC:List T->R T:=λts=>zh (rK (oJ) (lm 1 ts))
def sF:En->RS:=
  zo (zv (Zg (zc li (vE 0) (cE (.int 1)))) (zq 0) (Z9) (zc li (vE 0) (cE (.int 0))) 1 [])
def mJ:List T->R T:=λts=>zh (sF  (lm 1 ts))
def nc (f:List T->R T)(d:List T->R T)(e:List T->R T)(a:List T->R T):En->RS:=
  zi (lu (zk ll (zc li (vE 0) (cE (.int 0))) (cE (.str "whole"))) (zo (ZV (za 1 f (z9 (vE 1) (zd))) (mm lA lA (zc li (vE 0) (cE (.int 1))) (vB 1) (zc li (vE 0) (cE (.int 2)))))) (lq))
  (zi (lu (zk ll (zc li (vE 0) (cE (.int 0))) (cE (.str "pick"))) (zo (ZQ lQ (vB 1) (za 1 e (z9 (vE 0) (zd))))) (lq))
  (zi (lu (zk ll (zc li (vE 0) (cE (.int 0))) (cE (.str "row"))) (zo (ZV (za 3 d (z9 (vE 1) (z9 (lj zM (zc li (vE 0) (cE (.int 1)))) (z9 (lj zM (zc li (vE 0) (cE (.int 1)))) (zd))))) (za 2 a (z9 (zc li (vE 0) (cE (.int 1))) (z9 (vE 1) (zd)))))) (lq))
  (zo (ZV (za 3 d (z9 (vE 1) (z9 (zc li (vE 0) (cE (.int 2))) (z9 (zc li (vE 0) (cE (.int 3))) (zd))))) (za 2 a (z9 (zc zY (Z7 (z9 (zc li (vE 0) (cE (.int 1))) (zd))) (lj zM (vB 1))) (z9 (vE 1) (zd))))))))
def rP (a:List T->R T):En->RS:=
  zo (lj X1 (zv (Kg (vE 0) (vE 1)) (zX 0 1) (Z9) (za 2 a (z9 (vE 0) (z9 (vE 1) (zd)))) 2 []))
def m4:Nat->Nat->List T->R T
 | 0,_=>λ_=> .bad
 | n+1,0=>λts=>zh (nc (mS) (mP) (mJ) (m4 n 1) (lm 2 ts))
 | n+1,_=>λts=>zh (rP (m4 n 0) (lm 2 ts))
abbrev Aa (n:Nat):List T->R T:=m4 n 0
abbrev AY (n:Nat):List T->R T:=m4 n 1
def gO (a:List T->R T)(d:List T->R T):En->RS:=
  zi (jP (za 1 a (z9 (vE 0) (zd))))
  (zo (za 2 d (z9 (vE 0) (z9 (vE 1) (zd)))))
def Xm:List T->R T:=λts=>zh (gO (nC) (Aa 20) (lm 2 ts))
def oD (a:List T->R T):En->RS:=
  lu (ZW (Z8 (za 2 a (z9 (vE 0) (z9 (vE 1) (zd)))))) (W6 1) (lq)
def nK:List T->R T:=λts=>zh (oD (Xm) (lm 2 ts))
def sE:En->RS:=
  zo (zc Y4 (zc CH (cE (.int 0)) (zc li (vE 0) (cE (.int 1)))) (zc li (vE 0) (cE (.int 2))))
def nX:List T->R T:=λts=>zh (sE  (lm 1 ts))
def n9 (d:List T->R T)(e:List T->R T)(a:List T->R T):En->RS:=
  zi (lu (zk ll (zc li (vE 0) (cE (.int 0))) (cE (.str "whole"))) (zo (lj BE (zc jg (vE 1) (za 1 e (z9 (vE 0) (zd)))))) (lq))
  (zi (lu (zk ll (zc li (vE 0) (cE (.int 0))) (cE (.str "pick"))) (zo (VF VE (za 1 d (z9 (vE 0) (zd))) (vB 1))) (lq))
  (zi (lu (zk ll (zc li (vE 0) (cE (.int 0))) (cE (.str "row"))) (zo (za 2 a (z9 (zc li (vE 0) (cE (.int 1))) (z9 (vE 1) (zd))))) (lq))
  (zo (zc jg (zc zn (za 2 a (z9 (zc zY (Z7 (z9 (zc li (vE 0) (cE (.int 1))) (zd))) (lj zM (vB 1))) (z9 (vE 1) (zd)))) (lj zM (vB 1))) (zc li (vE 0) (cE (.int 2)))))))
def rW (a:List T->R T):En->RS:=
  zo (lj VI (zv (Kg (vE 0) (vE 1)) (zX 0 1) (Z9) (za 2 a (z9 (vE 0) (z9 (vE 1) (zd)))) 2 []))
def mT:Nat->Nat->List T->R T
 | 0,_=>λ_=> .bad
 | n+1,0=>λts=>zh (n9 (mJ) (nX) (mT n 1) (lm 2 ts))
 | n+1,_=>λts=>zh (rW (mT n 0) (lm 2 ts))
abbrev nE (n:Nat):List T->R T:=mT n 0
abbrev pP (n:Nat):List T->R T:=mT n 1
def rJ (d:List T->R T)(a:List T->R T):En->RS:=
  zi (jP (za 2 d (z9 (vE 0) (z9 (vE 1) (zd)))))
  (zo (za 2 a (z9 (vE 0) (z9 (vE 1) (zd)))))
def nO:List T->R T:=λts=>zh (rJ (nK) (nE 20) (lm 2 ts))
def Bm (a:List T->R T):En->RS:=
  zo (ZV (za 1 a (z9 (vE 0) (zd))) (mm lA lA (Wv (cE (.int 50))) (vB 0) (cE (.int 50))))
def tj:List T->R T:=λts=>zh (Bm (mS) (lm 1 ts))
def rl (e:List T->R T)(d:List T->R T)(a:List T->R T):En->RS:=
  zi (lu (lY (zk ll (vB 1) (cE (.int 0))) (lY (ZW (Z8 (lj (j4 "tuple") (vB 0)))) (zk ll (lj zM (vB 0)) (cE (.int 0))))) (zo (cE (.bl false))) (lq))
  (zi (lu (lY (zk ll (zc li (vE 0) (cE (.int 0))) (cE (.str "sum"))) (zk ll (zc li (vE 0) (cE (.int 0))) (cE (.str "size")))) (zo (ZV (ZQ ll (lj zM (vB 0)) (cE (.int 3))) (ZV (za 1 a (z9 (zc li (vE 0) (cE (.int 1))) (zd))) (za 1 a (z9 (zc li (vE 0) (cE (.int 2))) (zd)))))) (lq))
  (zi (lu (zk ll (zc li (vE 0) (cE (.int 0))) (cE (.str "word"))) (zo (ZV (ZQ ll (lj zM (vB 0)) (cE (.int 2))) (za 1 e (z9 (zc li (vE 0) (cE (.int 1))) (zd))))) (lq))
  (zi (lu (lY (zk ll (zc li (vE 0) (cE (.int 0))) (cE (.str "rising"))) (zk ll (zc li (vE 0) (cE (.int 0))) (cE (.str "unlike")))) (zo (ZQ ll (lj zM (vB 0)) (cE (.int 1)))) (lq))
  (zi (lu (zk ll (zc li (vE 0) (cE (.int 0))) (cE (.str "no"))) (zo (ZV (ZQ ll (lj zM (vB 0)) (cE (.int 2))) (za 2 d (z9 (zc li (vE 0) (cE (.int 1))) (z9 (zc jg (vE 1) (cE (.int 1))) (zd)))))) (lq))
  (zi (lu (lY (zk ll (zc li (vE 0) (cE (.int 0))) (cE (.str "all"))) (zk ll (zc li (vE 0) (cE (.int 0))) (cE (.str "some")))) (zo (ZV (ZQ ll (lj zM (vB 0)) (cE (.int 3))) (ZV (za 2 d (z9 (zc li (vE 0) (cE (.int 1))) (z9 (zc jg (vE 1) (cE (.int 1))) (zd)))) (za 2 d (z9 (zc li (vE 0) (cE (.int 2))) (z9 (zc jg (vE 1) (cE (.int 1))) (zd))))))) (lq))
  (zo (cE (.bl false))))))))
def o6:Nat->Nat->List T->R T
 | 0,_=>λ_=> .bad
 | n+1,_=>λts=>zh (rl (oo) (o6 n 0) (tj) (lm 2 ts))
abbrev CD (n:Nat):List T->R T:=o6 n 0
def Ca (a:List T->R T):En->RS:=
  zo (za 2 a (z9 (vE 0) (z9 (cE (.int 3)) (zd))))
def BC:List T->R T:=λts=>zh (Ca (CD 8) (lm 1 ts))
def tf (a:List T->R T):En->RS:=
  lu (ZW (Z8 (za 1 a (z9 (vE 0) (zd))))) (W6 2) (lq)
def Xn:List T->R T:=λts=>zh (tf (BC) (lm 1 ts))
def rZ (a:List T->R T):En->RS:=
  zi (lu (ZW (Z8 (lj (j4 "tuple") (vB 0)))) (zo (Z7 (z9 (vE 0) (zd)))) (lq))
  (zi (wR 1 (zd))
  (zi (j5 (Zg (vE 0)) (zq 2) (Y5 1 (za 1 a (z9 (vE 2) (zd)))))
  (zo (vE 1))))
def pG:Nat->Nat->List T->R T
 | 0,_=>λ_=> .bad
 | n+1,_=>λts=>zh (rZ (pG n 0) (lm 3 ts))
abbrev oB (n:Nat):List T->R T:=pG n 0
def Bc (a:List T->R T)(d:List T->R T):En->RS:=
  zo (zv (Zg (za 1 d (z9 (vE 0) (zd)))) (zq 0) (Z8 (za 1 a (z9 (vE 0) (zd)))) (vE 0) 1 [])
def sw:List T->R T:=λts=>zh (Bc (mS) (oB 8) (lm 1 ts))
def o4:En->RS:=
  zo (lP (Z8 (lj (j4 "tuple") (vB 0))) (vE 0) (zQ (z9 (vE 0) (zd))))
def sN:List T->R T:=λts=>zh (o4  (lm 1 ts))
def tK:En->RS:=
  zo (lj X1 (zv (Kg (vE 0) (lK (vE 0) (zJ (cE (.int 1))) (lM))) (zX 0 1) (Z9) (ZQ lA (vB 0) (vB 1)) 2 []))
def As:List T->R T:=λts=>zh (tK  (lm 1 ts))
def BH:En->RS:=
  zo (qr (lj Aq (zv (wg (vE 0)) (zX 0 1) (Z9) (ZQ lQ (vB 1) (lK (vE 2) (lM) (zJ (vE 0)))) 2 [0])))
def AQ:List T->R T:=λts=>zh (BH  (lm 1 ts))
def sX (d:List T->R T)(g:List T->R T)(a:List T->R T)(e:List T->R T)(f:List T->R T):En->RS:=
  zi (lu (zk ll (zc li (vE 0) (cE (.int 0))) (cE (.str "sum"))) (zo (mm lA lA (zc li (vE 0) (cE (.int 1))) (lj VI (za 1 a (z9 (vE 1) (zd)))) (zc li (vE 0) (cE (.int 2))))) (lq))
  (zi (lu (zk ll (zc li (vE 0) (cE (.int 0))) (cE (.str "size"))) (zo (mm lA lA (zc li (vE 0) (cE (.int 1))) (lj zM (za 1 d (z9 (vE 1) (zd)))) (zc li (vE 0) (cE (.int 2))))) (lq))
  (zi (lu (zk ll (zc li (vE 0) (cE (.int 0))) (cE (.str "word"))) (zo (ZQ lQ (zc li (vE 0) (cE (.int 1))) (za 1 g (z9 (vE 1) (zd))))) (lq))
  (zi (lu (zk ll (zc li (vE 0) (cE (.int 0))) (cE (.str "rising"))) (zo (za 1 e (z9 (za 1 a (z9 (vE 1) (zd))) (zd)))) (lq))
  (zo (za 1 f (z9 (za 1 d (z9 (vE 1) (zd))) (zd)))))))
def pU:List T->R T:=λts=>zh (sX (sN) (oB 8) (sw) (As) (AQ) (lm 2 ts))
def rn (a:List T->R T)(d:List T->R T):En->RS:=
  zi (lu (zk ll (zc li (vE 0) (cE (.int 0))) (cE (.str "no"))) (zo (qr (za 2 a (z9 (zc li (vE 0) (cE (.int 1))) (z9 (vE 1) (zd)))))) (lq))
  (zi (lu (zk ll (zc li (vE 0) (cE (.int 0))) (cE (.str "all"))) (zo (ZV (za 2 a (z9 (zc li (vE 0) (cE (.int 1))) (z9 (vE 1) (zd)))) (za 2 a (z9 (zc li (vE 0) (cE (.int 2))) (z9 (vE 1) (zd)))))) (lq))
  (zi (lu (zk ll (zc li (vE 0) (cE (.int 0))) (cE (.str "some"))) (zo (nz (za 2 a (z9 (zc li (vE 0) (cE (.int 1))) (z9 (vE 1) (zd)))) (za 2 a (z9 (zc li (vE 0) (cE (.int 2))) (z9 (vE 1) (zd)))))) (lq))
  (zo (za 2 d (z9 (vE 0) (z9 (vE 1) (zd)))))))
def nj:Nat->Nat->List T->R T
 | 0,_=>λ_=> .bad
 | n+1,_=>λts=>zh (rn (nj n 0) (pU) (lm 2 ts))
abbrev nk (n:Nat):List T->R T:=nj n 0
def tw (a:List T->R T):En->RS:=
  zi (zr 2 (za 1 a (z9 (vE 0) (zd))))
  (zi (lu (zk ll (vB 1) (vB 2)) (zo (Z7 (zd))) (lq))
  (zo (lP (zk ml (vB 1) (vB 2)) (Z7 (z9 (zc jg (vE 1) (cE (.int 1))) (zd))) (Z7 (z9 (zc zn (vE 1) (cE (.int 1))) (zd))))))
def oU:List T->R T:=λts=>zh (tw (nX) (lm 3 ts))
def rX (a:List T->R T):En->RS:=
  zi (zr 2 (za 1 a (z9 (vE 0) (zd))))
  (zi (zr 3 (VF VE (vB 2) (vB 1)))
  (zo (lP (zk ml (vB 3) (cE (.int 0))) (Z7 (z9 (zc li (vE 2) (zc jg (vE 3) (cE (.int 1)))) (zd))) (Z7 (zd)))))
def pJ:List T->R T:=λts=>zh (rX (mJ) (lm 4 ts))
def sy:En->RS:=
  zi (lu (zk ll (lj zM (vB 1)) (zc li (vE 0) (cE (.int 2)))) (zo (Z7 (zd))) (lq))
  (zo (zv (zO (lj zM (vB 1))) (zq 0) (Z9) (zc zn (lK (vE 1) (lM) (zJ (vE 0))) (lK (vE 1) (zJ (zc zn (vE 0) (cE (.int 1)))) (lM))) 1 [1]))
def pp:List T->R T:=λts=>zh (sy  (lm 2 ts))
def nZ (d:List T->R T)(e:List T->R T)(f:List T->R T)(a:List T->R T):En->RS:=
  zi (lu (zk ll (zc li (vE 0) (cE (.int 0))) (cE (.str "whole"))) (zo (za 2 d (z9 (vE 0) (z9 (vE 1) (zd))))) (lq))
  (zi (lu (zk ll (zc li (vE 0) (cE (.int 0))) (cE (.str "pick"))) (zo (za 2 e (z9 (vE 0) (z9 (vE 1) (zd))))) (lq))
  (zi (lu (zk ll (zc li (vE 0) (cE (.int 0))) (cE (.str "row"))) (zo (za 2 a (z9 (zc li (vE 0) (cE (.int 1))) (z9 (vE 1) (zd))))) (lq))
  (zo (zc zn (za 2 f (z9 (vE 0) (z9 (vE 1) (zd)))) (za 2 a (z9 (zc zY (Z7 (z9 (zc li (vE 0) (cE (.int 1))) (zd))) (lj zM (vB 1))) (z9 (vE 1) (zd))))))))
def rD (a:List T->R T):En->RS:=
  zi (wR 2 (zd))
  (zi (j5 (wg (vE 1)) (zX 3 4) (j5 (Zg (za 2 a (z9 (zc li (vE 0) (vE 3)) (z9 (vE 4) (zd))))) (zq 5) (uG 2 (zc zn (zc zn (lK (vE 1) (lM) (zJ (vE 3))) (zQ (z9 (vE 5) (zd)))) (lK (vE 1) (zJ (zc zn (vE 3) (cE (.int 1)))) (lM))))))
  (zo (vE 2)))
def m7:Nat->Nat->List T->R T
 | 0,_=>λ_=> .bad
 | n+1,0=>λts=>zh (nZ (oU) (pJ) (pp) (m7 n 1) (lm 2 ts))
 | n+1,_=>λts=>zh (rD (m7 n 0) (lm 6 ts))
abbrev sZ (n:Nat):List T->R T:=m7 n 0
abbrev AI (n:Nat):List T->R T:=m7 n 1
def A4 (a:List T->R T)(d:List T->R T):En->RS:=
  zo (zv (Zg (za 2 d (z9 (vE 0) (z9 (vE 1) (zd))))) (zq 0) (ZW (Z8 (za 2 a (z9 (vE 1) (z9 (vE 0) (zd)))))) (vE 0) 1 [2])
def gP:List T->R T:=λts=>zh (A4 (nk 8) (sZ 20) (lm 3 ts))
def ni (e:List T->R T)(d:List T->R T)(f:List T->R T)(a:List T->R T):En->RS:=
  zi (jP (za 1 d (z9 (vE 2) (zd))))
  (zi (jP (za 2 e (z9 (vE 0) (z9 (vE 1) (zd)))))
  (zi (lu (Z8 (za 2 f (z9 (vE 2) (z9 (vE 1) (zd))))) (W6 1) (lq))
  (zi (wR 3 (z9 (vE 1) (zd)))
  (zi (zr 4 (za 3 a (z9 (vE 0) (z9 (vE 1) (z9 (vE 2) (zd))))))
  (zi (Zr (zk ml (lj zM (vB 4)) (cE (.int 0))) (zi (uG 3 (zc li (vE 4) (cE (.int 0))))
  (zr 4 (za 3 a (z9 (vE 0) (z9 (zc li (vE 4) (cE (.int 0))) (z9 (vE 2) (zd))))))) (1000000))
  (zo (vE 3)))))))
def nW:List T->R T:=λts=>zh (ni (nK) (Xn) (nk 8) (gP) (lm 5 ts))
def tE (a:List T->R T)(d:List T->R T):En->RS:=
  zi (lu (zk ll (zc li (vE 0) (cE (.int 0))) (cE (.str "whole"))) (zo (zc zn (zc jg (zc li (vE 0) (cE (.int 2))) (zc li (vE 0) (cE (.int 1)))) (cE (.int 1)))) (lq))
  (zi (lu (zk ll (zc li (vE 0) (cE (.int 0))) (cE (.str "pick"))) (zo (lj zM (zc li (vE 0) (cE (.int 1))))) (lq))
  (zi (lu (zk ll (zc li (vE 0) (cE (.int 0))) (cE (.str "row"))) (zo (za 1 a (z9 (zc li (vE 0) (cE (.int 1))) (zd)))) (lq))
  (zo (za 2 d (z9 (vE 0) (z9 (zc zn (zc li (vE 0) (cE (.int 3))) (cE (.int 1))) (zd)))))))
def oY (a:List T->R T):En->RS:=
  zi (zr 1 (cE (.int 1)))
  (zi (j5 (Zg (vE 0)) (zq 2) (zr 1 (zc zY (vE 1) (za 1 a (z9 (vE 2) (zd))))))
  (zo (vE 1)))
def pL (a:List T->R T):En->RS:=
  zo (lj VI (zv (JI (zc li (vE 0) (cE (.int 2))) (vE 1)) (zq 0) (Z9) (za 1 a (z9 (zc zY (Z7 (z9 (zc li (vE 1) (cE (.int 1))) (zd))) (vE 0)) (zd))) 1 [0]))
def mV:Nat->Nat->List T->R T
 | 0,_=>λ_=> .bad
 | n+1,0=>λts=>zh (tE (mV n 1) (mV n 2) (lm 1 ts))
 | n+1,1=>λts=>zh (oY (mV n 0) (lm 3 ts))
 | n+1,_=>λts=>zh (pL (mV n 1) (lm 2 ts))
abbrev ot (n:Nat):List T->R T:=mV n 0
abbrev Ai (n:Nat):List T->R T:=mV n 1
abbrev gQ (n:Nat):List T->R T:=mV n 2
def tu (e:List T->R T)(a:List T->R T)(d:List T->R T):En->RS:=
  zi (lu (zk ll (zc li (vE 0) (cE (.int 0))) (cE (.str "whole"))) (zo (zc zn (zc li (vE 0) (cE (.int 1))) (vE 1))) (lq))
  (zi (lu (zk ll (zc li (vE 0) (cE (.int 0))) (cE (.str "pick"))) (zo (zc li (za 1 e (z9 (vE 0) (zd))) (vE 1))) (lq))
  (zi (lu (zk ll (zc li (vE 0) (cE (.int 0))) (cE (.str "row"))) (zo (za 2 d (z9 (zc li (vE 0) (cE (.int 1))) (z9 (vE 1) (zd))))) (lq))
  (zo (za 2 a (z9 (vE 0) (z9 (vE 1) (zd)))))))
def oZ (a:List T->R T)(d:List T->R T):En->RS:=
  zi (zr 2 (zc li (vE 0) (cE (.int 2))))
  (zi (Zr (zk lA (za 2 a (z9 (vE 0) (z9 (zc zn (vE 2) (cE (.int 1))) (zd)))) (vB 1)) (zr 2 (zc zn (vE 2) (cE (.int 1)))) (8))
  (zo (za 2 d (z9 (zc zY (Z7 (z9 (zc li (vE 0) (cE (.int 1))) (zd))) (vE 2)) (z9 (zc jg (vE 1) (za 2 a (z9 (vE 0) (z9 (vE 2) (zd))))) (zd))))))
def oN (d:List T->R T)(a:List T->R T):En->RS:=
  zi (wR 2 (zd))
  (zi (zr 3 (vE 1))
  (zi (j5 (BA (vE 0)) (zq 4) (zi (zr 5 (za 1 d (z9 (vE 4) (zd))))
  (zi (uG 2 (za 2 a (z9 (vE 4) (z9 (zc jH (vE 3) (vE 5)) (zd)))))
  (zr 3 (zc Wu (vE 3) (vE 5))))))
  (zo (lj VQ (vE 2)))))
def mX:Nat->Nat->List T->R T
 | 0,_=>λ_=> .bad
 | n+1,0=>λts=>zh (tu (mJ) (mX n 1) (mX n 2) (lm 2 ts))
 | n+1,1=>λts=>zh (oZ (gQ 20) (mX n 2) (lm 3 ts))
 | n+1,_=>λts=>zh (oN (ot 20) (mX n 0) (lm 6 ts))
abbrev oR (n:Nat):List T->R T:=mX n 0
abbrev AZ (n:Nat):List T->R T:=mX n 1
abbrev BR (n:Nat):List T->R T:=mX n 2
def Xo (a:List T->R T)(e:List T->R T)(d:List T->R T):En->RS:=
  zi (jP (za 1 a (z9 (vE 0) (zd))))
  (zi (zr 1 (za 1 e (z9 (vE 0) (zd))))
  (zi (lu (zk ml (vB 1) (cE (.int 500))) (W6 3) (lq))
  (sA (zO (vE 1)) (zq 0) (Z9) (za 2 d (z9 (vE 1) (z9 (vE 0) (zd)))) 1 [0])))
def KC:List T->R T:=λts=>zh (Xo (nC) (ot 20) (oR 20) (lm 2 ts))
def nH (a:List T->R T)(d:List T->R T)(f:List T->R T)(e:List T->R T):En->RS:=
  zi (jP (za 1 d (z9 (vE 1) (zd))))
  (zi (zr 2 (zv (Zg (za 1 a (z9 (vE 0) (zd)))) (zq 0) (ZW (Z8 (za 2 f (z9 (vE 1) (z9 (vE 0) (zd)))))) (vE 0) 1 [1]))
  (zo (VW [0] (za 2 e (z9 (vE 1) (z9 (vE 0) (zd)))) (vE 2) (cE .non))))
def n8:List T->R T:=λts=>zh (nH (KC) (Xn) (nk 8) (nE 20) (lm 3 ts))
def Cu:En->RS:=
  zi (wR 1 (z9 (wb 0 okX wl) (z9 (wb 0 okX Jp) (z9 (wb 0 okX Jq) (z9 (wb 0 okX Jr) (zd))))))
  (zi (Y5 1 (Z7 (z9 (wb 0 okX jS) (z9 (wb 0 okX jT) (zd)))))
  (zi (lu (lY (zk lJ (VF tT (vB 1) (cE (.bl true))) (cE (.int 1))) (ZW (Z8 (wb 0 okX j6)))) (zo (cE (.str "wrong"))) (lq))
  (zo (zc li (Z7 (z9 (cE (.str "ended")) (z9 (cE (.str "no kind")) (z9 (cE (.str "no rule")) (z9 (cE (.str "no text")) (z9 (cE (.str "no worth")) (z9 (cE (.str "too many")) (zd)))))))) (VF VE (vB 1) (cE (.bl true)))))))
def nU:Nat->R T:=λc=>zh (Cu  (ny 2 c))
def oE (a:Nat->R T)(e:List T->R T)(d:List T->R T):En->RS:=
  zi (zr 4 (cE .non))
  (zi (zr 5 (cE .non))
  (zi (K1 4 okX (zr 5 (lP (zk ll (vB 0) (cE (.int 0))) (za 3 e (z9 (vE 1) (z9 (vE 2) (z9 (vE 3) (zd))))) (za 2 d (z9 (vE 1) (z9 (vE 3) (zd)))))))
  (zi (lu (Bz 4) (zo (vE 5)) (lq))
  (zo (K5 4 a)))))
def mf:List T->R T:=λts=>zh (oE (nU) (nW) (n8) (lm 7 ts))
def se (a:List T->R T)(d:List T->R T):En->RS:=
  zi (jP (za 2 a (z9 (vE 0) (z9 (vE 1) (zd)))))
  (zo (za 2 d (z9 (vE 0) (z9 (vE 1) (zd)))))
def Xp:List T->R T:=λts=>zh (se (nK) (sZ 20) (lm 2 ts))
def og (a:List T->R T):En->RS:=
  zi (wR 1 (z9 (zQ (zd)) (zd)))
  (zi (lu (Z8 (lj (j4 "tuple") (vB 0))) (j5 (zO (lj zM (vB 0))) (zq 2) (Y5 1 (zv (Zg (za 1 a (z9 (zc li (vE 0) (vE 2)) (zd)))) (zq 0) (Z9) (zc zn (zQ (z9 (vE 1) (zd))) (vE 0)) 1 [2]))) (lq))
  (zo (vE 1)))
def ro:Nat->Nat->List T->R T
 | 0,_=>λ_=> .bad
 | n+1,_=>λts=>zh (og (ro n 0) (lm 3 ts))
abbrev o7 (n:Nat):List T->R T:=ro n 0
def rj:En->RS:=
  zi (j5 (Zg (vE 1)) (zq 2) (zr 0 (zc li (vE 0) (vE 2))))
  (zo (vE 0))
def gR:List T->R T:=λts=>zh (rj  (lm 3 ts))
def oH (a:List T->R T):En->RS:=
  zi (lu (zk ll (vB 1) (zQ (zd))) (zo (vE 2)) (lq))
  (zi (zr 3 (zc li (vE 1) (cE (.int 0))))
  (zo (zc zn (zc zn (lK (vE 0) (lM) (zJ (vE 3))) (zQ (z9 (za 3 a (z9 (zc li (vE 0) (vE 3)) (z9 (lK (vE 1) (zJ (cE (.int 1))) (lM)) (z9 (vE 2) (zd))))) (zd)))) (lK (vE 0) (zJ (zc zn (vE 3) (cE (.int 1)))) (lM)))))
def rV:Nat->Nat->List T->R T
 | 0,_=>λ_=> .bad
 | n+1,_=>λts=>zh (oH (rV n 0) (lm 4 ts))
abbrev mB (n:Nat):List T->R T:=rV n 0
def rO (d:List T->R T)(f:List T->R T)(e:List T->R T)(a:List T->R T):En->RS:=
  zi (zr 3 (za 1 f (z9 (vE 2) (zd))))
  (zi (zr 4 (zc li (vE 3) (za 3 d (z9 (vE 0) (z9 (vE 1) (z9 (lj zM (vB 3)) (zd)))))))
  (zi (zr 5 (za 2 e (z9 (vE 2) (z9 (vE 4) (zd)))))
  (zi (zr 6 (Z7 (z9 (cE (.int 0)) (z9 (cE (.int 1)) (z9 (Wv (cE (.int 21))) (z9 (cE (.int 21)) (z9 (cE (.int 3)) (z9 (cE (.int 4)) (z9 (cE (.bl true)) (z9 (cE .non) (z9 (cE (.str "a")) (z9 (cE (.str "abcd")) (z9 (cE (.str "A")) (z9 (cE (.str "")) (z9 (cE (.str "many")) (z9 (cE (.str "row")) (z9 (zQ (zd)) (z9 (zQ (z9 (vE 5) (zd))) (z9 (Z7 (z9 (vE 5) (zd))) (z9 (zQ (z9 (cE (.str "whole")) (z9 (cE (.int 1)) (z9 (cE (.int 0)) (zd))))) (zd)))))))))))))))))))))
  (zi (zr 7 (za 3 d (z9 (vE 0) (z9 (zc zn (vE 1) (cE (.int 1))) (z9 (zc zn (lj zM (vB 6)) (cE (.int 5))) (zd))))))
  (zi (lu (zk mG (vB 7) (lj zM (vB 6))) (zo (za 3 a (z9 (vE 2) (z9 (vE 4) (z9 (zc li (vE 6) (vE 7)) (zd)))))) (lq))
  (zi (lu (JZ (Z8 (lj (j4 "tuple") (vB 5))) (zk lJ (vB 5) (zQ (zd)))) (zi (zr 8 (za 3 d (z9 (vE 0) (z9 (zc zn (vE 1) (cE (.int 2))) (z9 (lj zM (vB 5)) (zd))))))
  (zo (za 3 a (z9 (vE 2) (z9 (vE 4) (z9 (zc li (Z7 (z9 (zc zn (lK (vE 5) (lM) (zJ (vE 8))) (lK (vE 5) (zJ (zc zn (vE 8) (cE (.int 1)))) (lM))) (z9 (zc zn (zc zn (lK (vE 5) (lM) (zJ (vE 8))) (lK (vE 5) (zJ (vE 8)) (zJ (zc zn (vE 8) (cE (.int 1)))))) (lK (vE 5) (zJ (vE 8)) (lM))) (zd)))) (zc jH (vE 7) (cE (.int 2)))) (zd))))))) (lq))
  (zi (lu (Z8 (lj (j4 "int") (vB 5))) (zo (za 3 a (z9 (vE 2) (z9 (vE 4) (z9 (zc jg (zc zn (vE 5) (cE (.int 1))) (zc zY (cE (.int 2)) (zc jH (vE 7) (cE (.int 2))))) (zd)))))) (lq))
  (zo (za 3 a (z9 (vE 2) (z9 (vE 4) (z9 (zQ (z9 (cE (.str "row")) (z9 (zQ (z9 (vE 5) (z9 (vE 5) (zd)))) (zd)))) (zd)))))))))))))
def gS:List T->R T:=λts=>zh (rO (lT) (o7 40) (gR) (mB 40) (lm 9 ts))
def pN:En->RS:=
  zo (ZV (lj (j4 "int") (vB 0)) (ZV (qr (lj (j4 "bool") (vB 0))) (mm lA lA (vB 1) (vB 0) (vB 2))))
def V5:List T->R T:=λts=>zh (pN  (lm 3 ts))
def rm:En->RS:=
  zo (ZV (lj (j4 "str") (vB 0)) (ZV (mm lA lA (cE (.int 1)) (lj zM (vB 0)) (cE (.int 3))) (ZQ ll (zv (Zg (vE 0)) (zq 0) (ZW (nF lA lA (cE (.str "a")) (vB 0) (cE (.str "z")))) (vE 0) 1 []) (Z7 (zd)))))
def V6:List T->R T:=λts=>zh (rm  (lm 1 ts))
def oy (a:List T->R T)(e:List T->R T)(d:List T->R T):En->RS:=
  zi (lu (lY (ZW (Z8 (lj (j4 "tuple") (vB 0)))) (lY (zk mG (lj zM (vB 0)) (cE (.int 2))) (lY (ZW (Z8 (lj (j4 "str") (zc li (vE 0) (cE (.int 0)))))) (zk mG (vB 1) (cE (.int 1)))))) (zo (cE (.bl false))) (lq))
  (zi (rF 2 3 (z9 (zc li (vE 0) (cE (.int 0))) (z9 (lK (vE 0) (zJ (cE (.int 1))) (lM)) (zd))))
  (zi (lu (zk ll (vB 2) (cE (.str "whole"))) (zo (ZV (ZQ ll (lj zM (vB 3)) (cE (.int 2))) (ZV (za 3 a (z9 (zc li (vE 3) (cE (.int 0))) (z9 (Wv (cE (.int 20))) (z9 (cE (.int 20)) (zd))))) (za 3 a (z9 (zc li (vE 3) (cE (.int 1))) (z9 (zc li (vE 3) (cE (.int 0))) (z9 (cE (.int 20)) (zd)))))))) (lq))
  (zi (lu (zk ll (vB 2) (cE (.str "pick"))) (zi (lu (lY (zk lJ (lj zM (vB 3)) (cE (.int 1))) (lY (ZW (Z8 (lj (j4 "tuple") (zc li (vE 3) (cE (.int 0)))))) (ZW (nF lA lA (cE (.int 1)) (lj zM (zc li (vE 3) (cE (.int 0)))) (cE (.int 4)))))) (zo (cE (.bl false))) (lq))
  (zi (zr 4 (zv (Zg (zc li (vE 3) (cE (.int 0)))) (zq 0) (JZ (Z8 (lj (j4 "tuple") (vB 0))) (zk ll (lj zM (vB 0)) (cE (.int 2)))) (vE 0) 1 []))
  (zi (zr 5 (zv (Zg (vE 4)) (zq 0) (JZ (Z8 (za 1 e (z9 (zc li (vE 0) (cE (.int 0))) (zd)))) (Z8 (za 3 a (z9 (zc li (vE 0) (cE (.int 1))) (z9 (cE (.int 1)) (z9 (cE (.int 20)) (zd))))))) (zc li (vE 0) (cE (.int 0))) 1 []))
  (zo (ZV (ZQ ll (lj zM (vB 5)) (lj zM (zc li (vE 3) (cE (.int 0))))) (ZQ ll (zv (zO (lj zM (vB 5))) (zq 0) (zk lQ (zc li (vE 1) (vE 0)) (lK (vE 1) (lM) (zJ (vE 0)))) (vE 0) 1 [5]) (Z7 (zd)))))))) (lq))
  (zi (lu (zk ll (vB 2) (cE (.str "row"))) (zi (lu (lY (zk lJ (lj zM (vB 3)) (cE (.int 1))) (lY (ZW (Z8 (lj (j4 "tuple") (zc li (vE 3) (cE (.int 0)))))) (ZW (nF lA lA (cE (.int 1)) (lj zM (zc li (vE 3) (cE (.int 0)))) (cE (.int 3)))))) (zo (cE (.bl false))) (lq))
  (zo (ZQ ll (zv (Zg (zc li (vE 3) (cE (.int 0)))) (zq 0) (ZW (Z8 (za 2 d (z9 (vE 0) (z9 (zc jg (vE 1) (cE (.int 1))) (zd)))))) (vE 0) 1 [1]) (Z7 (zd))))) (lq))
  (zi (lu (lY (zk lJ (vB 2) (cE (.str "many"))) (lY (zk lJ (lj zM (vB 3)) (cE (.int 3))) (lY (ZW (Z8 (za 3 a (z9 (zc li (vE 3) (cE (.int 1))) (z9 (cE (.int 0)) (z9 (cE (.int 3)) (zd))))))) (ZW (Z8 (za 3 a (z9 (zc li (vE 3) (cE (.int 2))) (z9 (zc li (vE 3) (cE (.int 1))) (z9 (cE (.int 3)) (zd)))))))))) (zo (cE (.bl false))) (lq))
  (zo (za 2 d (z9 (zc li (vE 3) (cE (.int 0))) (z9 (zc jg (vE 1) (cE (.int 1))) (zd))))))))))
def mM:Nat->Nat->List T->R T
 | 0,_=>λ_=> .bad
 | n+1,_=>λts=>zh (oy (V5) (V6) (mM n 0) (lm 6 ts))
abbrev sC (n:Nat):List T->R T:=mM n 0
def sR (o:List T->R T)(l:List T->R T)(i:List T->R T)(k:List T->R T)(e:List T->R T)(a:List T->R T)(j:List T->R T)(g:List T->R T)(f:List T->R T)(d:List T->R T):En->RS:=
  zi (zr 1 (za 3 i (z9 (vE 0) (z9 (cE (.int 0)) (z9 (cE (.int 60)) (zd))))))
  (zi (zr 2 (za 3 j (z9 (vE 0) (z9 (cE (.int 4000)) (z9 (cE (.int 3)) (zd))))))
  (zi (zr 3 (za 1 l (z9 (vE 1) (zd))))
  (zi (zr 4 (zv (Zg (vE 3)) (zq 0) (ZW (Z8 (za 2 g (z9 (vE 1) (z9 (vE 0) (zd)))))) (vE 0) 1 [2]))
  (zi (zr 5 (zv (Y8 (vE 3)) (zX 0 1) (zk lQ (vB 1) (vB 3)) (zQ (z9 (za 2 (mv f) (z9 (vE 2) (z9 (vE 1) (zd)))) (z9 (vE 0) (zd)))) 2 [1,4]))
  (zi (zr 6 (lP (zk lJ (vB 5) (Z7 (zd))) (zc li (vE 3) (zc Yg (vB 5) (cE (.int 1)))) (cE .non)))
  (zi (lu (zk lJ (za 4 a (z9 (cE (.int 1)) (z9 (vE 1) (z9 (cE .non) (z9 (vE 2) (zd)))))) (vB 6)) (zo (cE (.bl false))) (lq))
  (zi (j5 (zO (cE (.int 4))) (zq 7) (zi (zr 8 (zc li (vE 3) (za 3 o (z9 (vE 0) (z9 (zc zn (cE (.int 4500)) (vE 7)) (z9 (lj zM (vB 3)) (zd)))))))
  (zi (zr 9 (za 4 a (z9 (cE (.int 0)) (z9 (vE 1) (z9 (vE 8) (z9 (vE 2) (zd)))))))
  (lu (zk Wx (vB 8) (vB 4)) (lu (zk lJ (vB 9) (cE (.str "no worth"))) (zo (cE (.bl false))) (lq)) (zi (wR 10 (z9 (vE 8) (zd)))
  (zi (zr 11 (zv (Zg (za 2 d (z9 (vE 1) (z9 (vE 8) (zd))))) (zq 0) (ZW (Z8 (za 2 g (z9 (vE 1) (z9 (vE 0) (zd)))))) (vE 0) 1 [2]))
  (zi (Zr (zk lJ (vB 11) (Z7 (zd))) (zi (uG 10 (zc li (vE 11) (cE (.int 0))))
  (zr 11 (zv (Zg (za 2 d (z9 (vE 1) (z9 (nw 10 (Wv (cE (.int 1)))) (zd))))) (zq 0) (ZW (Z8 (za 2 g (z9 (vE 1) (z9 (vE 0) (zd)))))) (vE 0) 1 [2]))) (1000000))
  (lu (lY (zk lJ (vB 9) (vB 10)) (zk mG (za 2 f (z9 (vE 1) (z9 (nw 10 (Wv (cE (.int 1)))) (zd)))) (za 2 f (z9 (vE 1) (z9 (vE 6) (zd)))))) (zo (cE (.bl false))) (lq)))))))))
  (zi (zr 12 (zQ (z9 (cE (.str "row")) (z9 (zQ (z9 (zQ (z9 (cE (.str "whole")) (z9 (cE (.int 0)) (z9 (cE (.int 19)) (zd))))) (z9 (zQ (z9 (cE (.str "whole")) (z9 (cE (.int 1)) (z9 (cE (.int 6)) (zd))))) (z9 (zQ (z9 (cE (.str "whole")) (z9 (cE (.int 0)) (z9 (cE (.int 4)) (zd))))) (zd))))) (zd)))))
  (zi (rH (zQ (z9 (za 3 e (z9 (vE 0) (z9 (cE (.int 6000)) (z9 (zc li (vE 3) (cE (.int 0))) (zd))))) (z9 (zQ (z9 (cE (.str "sum")) (z9 (cE (.int 1)) (zd)))) (zd)))) (zX 13 14))
  (zi (lu (JZ (zk Wx (vB 13) (vB 3)) (zk lJ (za 4 a (z9 (cE (.int 0)) (z9 (vE 1) (z9 (vE 13) (z9 (vE 2) (zd)))))) (cE (.str "no worth")))) (zo (cE (.bl false))) (lq))
  (zi (lu (zk lJ (Z7 (z9 (za 4 a (z9 (cE (.int 1)) (z9 (vE 12) (z9 (cE .non) (z9 (vE 2) (zd)))))) (z9 (za 4 a (z9 (cE (.int 1)) (z9 (vE 12) (z9 (cE .non) (z9 (vE 14) (zd)))))) (zd)))) (Z7 (z9 (cE (.str "too many")) (z9 (cE (.str "no rule")) (zd))))) (zo (cE (.bl false))) (lq))
  (zi (lu (zk lJ (zv (zO (cE (.int 2))) (zq 0) (Z9) (za 4 (mv a) (z9 (vE 0) (z9 (zQ (z9 (cE (.str "whole")) (zd))) (z9 (vE 1) (z9 (vE 2) (zd)))))) 1 [13,14]) (zc zY (Z7 (z9 (cE (.str "no rule")) (zd))) (cE (.int 2)))) (zo (cE (.bl false))) (lq))
  (zi (zr 15 (za 3 e (z9 (vE 0) (z9 (cE (.int 6100)) (z9 (vE 1) (zd))))))
  (zo (nz (za 2 k (z9 (vE 15) (z9 (cE (.int 3)) (zd)))) (ZQ ll (zv (zO (cE (.int 2))) (zq 0) (Z9) (za 4 (mv a) (z9 (vE 0) (z9 (vE 2) (z9 (cE .non) (z9 (vE 1) (zd)))))) 1 [2,15]) (zc zY (Z7 (z9 (cE (.str "no kind")) (zd))) (cE (.int 2)))))))))))))))))))
def nQ:List T->R T:=λts=>zh (sR (lT) (m8 8) (pQ) (sC 12) (gS) (mf) (BL 8) (rg 8) (nO) (Xp) (lm 16 ts))
end G
namespace G
open PySem L2 PV
noncomputable abbrev lx (ns:List Int):T:= .fz (ns.map T.int)
theorem KD (ns:List Int)(k:Int)(q:0<=k):∃c,oV [lx ns,.int k]= .ok (.int c):=by
 have j:oV [lx ns,.int k]=zh (if decide (k < ((ns.map T.int).length))=true then (lI (ns.map T.int) k).s (λt=> .rt t) else
   match (ll (lx ns) (.lst [])).s (λb=>if b=true then RS.rt (.int 0) else .nx [.vl (lx ns),.vl (.int k)]) with
   | .nx d =>zo (zc zn (zc zY (zc li (vE 0) (zc jH (vE 1) (lj zM (vB 0)))) (cE (.int 31))) (vE 1)) d
   | r=>r):=by
  show zh (match (if decide _=true then (lI _ k).s (λt=>RS.rt t) else .nx _) with
   | .nx d =>_
   | r=>r)=_
  cases decide (k < ((ns.map _).length:Int)) with
  | true=>
   unfold lI;cases mj _ k <;> rfl
  | false=>rfl
 rw[j,ah]
 by_cases i:k < (ns.length)
 ·obtain⟨v,g⟩:∃v,ns[k.toNat]? =some v:=⟨ns[k.toNat]'(by omega),ak (by omega)⟩
  have f:mj (ns.map T.int) k=some (.int v):=by
   have:k=((k.toNat):Int):=by omega
   rw[this];exact Zu (by rw[av,g];rfl)
  rw[decide_eq_true i];exact⟨v,by unfold lI;rw[f];rfl⟩
 ·rw[decide_eq_false i];cases ns with
  | nil=>exact⟨0,rfl⟩
  | cons x xs=>
   have l:=l0 k (show (((x :: xs).length):Int) ≠ 0 by simp only[ar];omega)
   have o:=ik k (show (0) < (((x :: xs).length):Int) by simp only[ar];omega)
   obtain⟨v,g⟩:∃v,(x :: xs)[(k % (((x :: xs).length):Int)).toNat]? =some v:=⟨_,ak (by omega)⟩
   have f:mj ((x :: xs).map T.int) (k % (((x :: xs).length):Int))=some (.int v):=by
    have e:k % (((x :: xs).length):Int)=(((k % (((x :: xs).length):Int)).toNat:Nat):Int):=by omega
    rw[e];exact Zu (by rw[av,g];rfl)
   have p:Ug v 31:= .inr ⟨by decide,by decide⟩
   have hp:(0:Int) < (((x :: xs).map T.int).length):=by simp only[ah,ar];omega
   refine⟨v*31+k, ?_⟩;show zh (((((if 0 < (((x :: xs).map _).length:Int) then R.ok _ else .bad).bind λy=>li _ y).bind λa=>zY a _).bind λa=>zn a _).s λt=> .rt t)=_
   rw[if_pos hp];show zh ((((lI _ _).bind λa=>zY a _).bind λa=>zn a _).s λt=> .rt t)=_;rw[ah];unfold lI;rw[f];show zh ((((if Ug v 31 then R.ok _ else .bad)).bind λa=>zn a _).s λt=> .rt t)=_
   rw[if_pos p];rfl
theorem zI (ns:List Int)(k m:Int)(i:0<=k)(g:0 < m):∃p,lT [lx ns,.int k,.int m]= .ok (.int p)/\0<=p/\p < m:=by
 obtain⟨c,j⟩:=KD ns k i;have e:Ug (c+6151*(k+1)) 40692:= .inr ⟨by decide,by decide⟩
 generalize hd:(c+6151*(k+1))*40692 % 2147483399=d;have f:Ug d d:= .inl ⟨by omega,by omega⟩
 refine⟨(d*d+d / 31) % 2147483629 % m, ?_,l0 _ (by omega),ik _ g⟩
 have l:lT [lx ns,.int k,.int m]=zh (match ((((((oV _).bind λx=>(zY (.int 6151) (.int _)).bind λy=>zn x y).bind λx=>zY x _).bind λx=>jH x _)).s λt=>RS.nx _) with
   | .nx a =>zo _ a
   | r=>r):=rfl
 rw[l,j];show zh (match ((((if Ug _ _ then R.ok _ else .bad)).bind λx=>jH x _).s λt=>RS.nx _) with
   | .nx a =>_
   | r=>r)=_
 rw[if_pos e];show zh (zo _ _)=_;rw[hd];show zh (((((if Ug d d then R.ok _ else .bad).bind λx=>zn x _).bind λx=>jH x _).bind λx=>jH x _).s λt=>RS.rt t)=_
 rw[if_pos f];show zh ((if 0 < m then R.ok _ else .bad).s λt=>RS.rt t)=_
 rw[if_pos g];rfl
theorem Qe:∀(ts:List T) (ρ:En) (x:Sl),zy (zq 0) ft fe ts (ρ.set 0 x)=zy (zq 0) ft fe ts ρ
 | [],_,_=>rfl
 | t :: ts,ρ,x=>by
  unfold zy zq;rw[List.set_set]
theorem zZ {p:T->Bool}{h:T->T}:∀(ts:List T) (ρ:En),(∀t∈ts,ft (ρ.set 0 (.vl t))= .ok (p t)/\(p t=true->fe (ρ.set 0 (.vl t))= .ok (h t)))->zy (zq 0) ft fe ts ρ= .ok ((ts.filter p).map h)
 | [],_,_=>rfl
 | t :: ts,ρ,H=>by
  obtain⟨d,f⟩:=H t ag;have g:=zZ ts ρ λu a=>H u (ac _ a);have e:zy (zq 0) ft fe (t :: ts) ρ=(ft _).bind λk=>if k=true then (fe _).bind λv=>(zy _ ft fe ts _).bind λi=> .ok _ else zy _ ft fe ts _:=rfl
  rw[e,d,Qe,g];show (if p t=true then _ else _)=_
  cases hp:p t with
  | true=>rw[f hp,dN hp];rfl
  | false=>rw[if_neg aA,dO (by rw[hp];exact aA)]
theorem Qf {h:T->T}(ts:List T)(ρ:En)(H:∀t∈ts,fe (ρ.set 0 (.vl t))= .ok (h t)):zy (zq 0) Z9 fe ts ρ= .ok (ts.map h):=by
 have:=zZ (ft:=Z9) ts ρ λt a=>⟨rfl,λ_=>H t a⟩;rw[this,i5.mpr (λ_ _=>rfl)]
theorem zP {h:T->T}{js:List Nat}(ts:List T)(a:ts.length<=lB)(H:∀t∈ts,fe ((jQ k js ρ).set 0 (.vl t))= .ok (h t)):zp (zq 0) Z9 fe k js ρ ts= .ok (ts.map h):=by
 unfold zp;rw[if_pos a,Qf ts _ H];rfl
theorem JN (p:T->Bool):∀ts:List T,uF (ts.map λt=>T.bl (p t))=some (ts.all p)
 | []=>rfl
 | t :: ts=>by
  show (match uF (ts.map λt=>T.bl _) with | some j=>some _ | none=>none)=_
  rw[JN p ts];rfl
noncomputable def By:T->Bool
 | .int _=>true
 | _=>false
theorem WN (t:T):mS [t]= .ok (.bl (By t)):=by cases t <;> rfl
noncomputable def VX (a b:Nat):T->Bool
 | .tup xs=>decide (a<=xs.length) && decide (xs.length<=b)
 | _=>false
theorem ZR (t:T)(a b:Nat):mP [t,.int a,.int b]= .ok (.bl (VX a b t)):=by
 cases t with
 | tup xs=>
  show zh ((if decide _=true then R.ok _ else .ok _).s λt=> .rt t)=_
  have e:decide ((a:Int)<=(xs.length))=decide (a<=xs.length):=by simp
  have d:decide ((xs.length:Int)<=(b))=decide (xs.length<=b):=by simp
  rw[e,d];show _=R.ok (T.bl (decide _ && decide _));cases decide (a<=xs.length) <;> rfl
 | _=>rfl
noncomputable def jr (lo hi:Int):T->T->Bool
 | .int i,.int j=>decide (lo<=i) && decide (i<=j) && decide (j<=hi)
 | _,_=>false
theorem Qg (t u:T)(lo hi:Int):rQ [t,u,.int lo,.int hi]= .ok (.bl (jr lo hi t u)):=by
 cases t with
 | int i=>
  cases u with
  | int j=>
   show zh ((if decide _=true then (if decide _=true then R.ok _ else .ok _) else .ok _).s λt=> .rt t)=_
   show _=R.ok (T.bl (decide _ && decide _ && decide _));cases decide (lo<=i) <;> cases decide (i<=j) <;> rfl
  | _=>rfl
 | _=>cases u <;> rfl
noncomputable def Zi (c:Nat):Bool:=decide (97<=c) && decide (c<=122)
def Z0:T->Bool
 | .str x=>decide (1<=x.length) && decide (x.length<=3) && x.cps.toList.all Zi
 | _=>false
theorem yj (a b:Nat):decide ([a] < [b])=decide (a < b):=by
 by_cases h:a < b
 ·rw[decide_eq_true h];exact decide_eq_true (List.Lex.rel h)
 ·rw[decide_eq_false h];refine decide_eq_false λz=> ?_;cases z with
  | rel h' =>exact h h'
  | cons h' =>cases h'
theorem KG (c:Nat)(ρ:En):mm lA lA (cE (.str "a")) (vB 0) (cE (.str "z")) ((Sl.vl (.str ⟨#[c]⟩)) :: ρ)= .ok (.bl (Zi c)):=by
 have e:lA (.str "a") (.str ⟨#[c]⟩)= .ok (decide (97<=c)):=by
  show R.ok (!decide ([c] < [97]))=_;rw[yj]
  by_cases h:c < 97
  ·rw[decide_eq_true h,decide_eq_false (by omega)];rfl
  ·rw[decide_eq_false h,decide_eq_true (by omega)];rfl
 have a:lA (.str ⟨#[c]⟩) (.str "z")= .ok (decide (c<=122)):=by
  show R.ok (!decide ([122] < [c]))=_;rw[yj]
  by_cases h:122 < c
  ·rw[decide_eq_true h,decide_eq_false (by omega)];rfl
  ·rw[decide_eq_false h,decide_eq_true (by omega)];rfl
 show (lA (.str "a") (.str _)).bind (λk=>if k=true then (lA (.str _) (.str "z")).bind λd =>R.ok (T.bl d) else R.ok _)=_
 rw[e,a];unfold Zi;cases decide (97<=c) <;> rfl
def VY:T->Prop
 | .str x=>x.length<=lB
 | _=>True
theorem Qh (t:T)(d:VY t):oo [t]= .ok (.bl (Z0 t)):=by
 cases t with
 | str x=>
  have e:=d;have j:zM (.str x)= .ok _:=if_pos e;have p:zp (zq 0) Z9 (mm lA lA (cE (.str "a")) (vB 0) (cE (.str "z"))) 1 [] [.vl (.str x)] (jj x)= .ok (x.cps.toList.map λc=>T.bl (Zi c)):=by
   have g:(jj x).length<=lB:=by unfold jj;rw[ah];exact e
   have:=zP (h:=λt=>match t with | .str y=>T.bl (Zi (y.cps.toList.headD 0)) | t=>t) (k:=1) (js:=[]) (ρ:=[.vl (.str x)]) _ g λt d=>by
    obtain⟨c,_,rfl⟩:=aE.mp d;exact KG c []
   rw[this];unfold jj;rw[bi];rfl
  have f:uF (x.cps.toList.map λc=>T.bl (Zi c))=some (x.cps.toList.all Zi):=by
   have:=JN (λt=>match t with | .str y=>Zi (y.cps.toList.headD 0) | _=>true) (jj x)
   unfold jj at this;rw[bi,iu]at this;exact this
  have l:oo [.str x]=zh (match ((((zM (.str x)).bind λy=>(lA _ y).bind λk=>if k=true then lA y _ else .ok _).bind λb=> .ok _).s λk=>if k=true then RS.rt _ else .nx _) with
    | .nx a =>zo _ a
    | r=>r):=rfl
  rw[l,j];have i:decide ((1:Int)<=(x.length))=decide (1<=x.length):=by
   by_cases h:1<=x.length
   ·rw[decide_eq_true h];exact decide_eq_true (by omega)
   ·rw[decide_eq_false h];exact decide_eq_false (by omega)
  have o:decide ((x.length:Int)<=(3))=decide (x.length<=3):=by
   by_cases h:x.length<=3
   ·rw[decide_eq_true h];exact decide_eq_true (by omega)
   ·rw[decide_eq_false h];exact decide_eq_false (by omega)
  show zh (match ((((if decide _=true then R.ok _ else .ok _)).bind λb=> .ok _).s λk=>if k=true then RS.rt _ else .nx _) with
    | .nx a =>_
    | r=>r)=_
  rw[i,o];show _=R.ok (T.bl (decide _ && decide _ && x.cps.toList.all _));cases decide (1<=x.length) with
  | false=>rfl
  | true=>
   cases decide (x.length<=3) with
   | false=>rfl
   | true=>
    show zh ((((zp _ _ _ 1 [] [.vl _] _).bind λq=> .ok _).bind X1).s λt=> .rt t)=_;rw[p];show zh ((match uF (x.cps.toList.map λc=>T.bl _) with | some k=>R.ok _ | none=> .bad).s λt=> .rt t)=_
    rw[f];rfl
 | _=>rfl
theorem kj {d e:Type}(a:d)(f:d->R e):(R.ok a).bind f=f a:=rfl
theorem Ze {d:Type}(a:d)(f:d->RS):(R.ok a).s f=f a:=rfl
theorem ZJ (r:R T):zh (r.s λt=> .rt t)=r:=by cases r <;> rfl
theorem zN (f:En->R T)(ρ:En):zo f ρ=(f (frz ρ)).s λt=> .rt t:=rfl
theorem zF:za 1 g (z9 f zd) ρ=(f ρ).bind λx=>g [x]:=by
 unfold za z9 zd;cases f ρ <;> rfl
theorem zx:za 2 g (z9 f (z9 f' zd)) ρ=(f ρ).bind λx=>(f' ρ).bind λy=>g [x,y]:=by
 unfold za z9 zd;cases f ρ with
 | ok a=>cases f' ρ <;> rfl
 | ex c=>rfl
 | bad=>rfl
theorem Z4:za 3 g (z9 f (z9 f' (z9 f'' zd))) ρ=(f ρ).bind λx=>(f' ρ).bind λy=>(f'' ρ).bind λz=>g [x,y,z]:=by
 unfold za z9 zd;cases f ρ with
 | ok a=>
  cases f' ρ with
  | ok b=>cases f'' ρ <;> rfl
  | ex c=>rfl
  | bad=>rfl
 | ex c=>rfl
 | bad=>rfl
theorem DR:za 4 g (z9 f (z9 f' (z9 f'' (z9 f3 zd)))) ρ=(f ρ).bind λx=>(f' ρ).bind λy=>(f'' ρ).bind λz=>(f3 ρ).bind λw=>g [x,y,z,w]:=by
 unfold za z9 zd;cases f ρ with
 | ok a=>
  cases f' ρ with
  | ok b=>
   cases f'' ρ with
   | ok c=>cases f3 ρ <;> rfl
   | ex c=>rfl
   | bad=>rfl
  | ex c=>rfl
  | bad=>rfl
 | ex c=>rfl
 | bad=>rfl
def pV (r k:R T):R T:=r.bind λx=>match x with
 | .bl true=>k
 | .bl false=> .ok (.bl false)
 | _=> .bad
theorem jh (f g:En->R T)(ρ:En):ZV f g ρ=pV (f ρ) (g ρ):=rfl
theorem Zm (a:Bool)(k:R T):pV (.ok (.bl a)) k=if a=true then k else .ok (.bl false):=by cases a <;> rfl
theorem v0:vE 0 (.vl t :: ρ)= .ok t:=rfl
theorem v1:vE 1 (a :: .vl t :: ρ)= .ok t:=rfl
theorem w0:vB 0 (.vl t :: ρ)= .ok t:=rfl
theorem w1:vB 1 (a :: .vl t :: ρ)= .ok t:=rfl
theorem zK:cE t ρ= .ok t:=rfl
theorem ze:zc g f f' ρ=(f ρ).bind λx=>(f' ρ).bind λy=>g x y:=rfl
theorem ZC:frz (.vl t :: ρ)= .vl t :: frz ρ:=rfl
theorem JK:frz (.un :: ρ)= .un :: frz ρ:=rfl
theorem j9:frz []=[]:=rfl
theorem Yh:mm g g' fa fb fc ρ=(fa ρ).bind λx=>(fb ρ).bind λy=>(g x y).bind λk=>if k=true then (fc ρ).bind λz=>(g' y z).bind λa => .ok (.bl a) else .ok (.bl false):=rfl
theorem Z5 {g:T->R T}:lj g f ρ=(f ρ).bind g:=rfl
theorem Js:lA (.int i) (.int j)= .ok (decide (i<=j)):=rfl
theorem Za:ZQ g f f' ρ=(f ρ).bind λx=>(f' ρ).bind λy=>(g x y).bind λb=> .ok (.bl b):=rfl
theorem Zw:zM (.tup xs)= .ok (.int xs.length):=rfl
theorem VZ:zM (.lst xs)= .ok (.int xs.length):=rfl
mutual
noncomputable def sOk:T->Prop
 | .str x=>x.length<=lB
 | .tup xs=>jJ xs
 | .lst xs=>jJ xs
 | .fz xs=>jJ xs
 | _=>True
noncomputable def jJ:List T->Prop
 | []=>True
 | t :: ts=>sOk t/\jJ ts
end
theorem ZM:∀{ts:List T} {t:T},jJ ts->t∈ts->sOk t
 | u :: ts,t,h,a=>by
  have h' :=by simpa only[jJ] using h
  rcases aq.mp a with rfl | a
  ·exact h'.1
  ·exact ZM h'.2 a
theorem sOk.str (h:sOk t):VY t:=by
 cases t with
 | str x=>
  have h' :=by simpa only[sOk] using h
  exact h'
 | _=>trivial
theorem ZS {xs:List T}(h:sOk (.tup xs)):jJ xs:=by simpa only[sOk] using h
def zt:T->Bool
 | .tup [w,.int i]=>Z0 w && decide (1<=i) && decide (i<=20)
 | _=>false
theorem Qi (t:T)(a:sOk t):oW [t]= .ok (.bl (zt t)):=by
 have e:oW [t]=zh (sO _ _ _ [.vl t]):=rfl;rw[e,sO];simp only[zN,ZJ,ZC,j9,jh,Z4,zF,v0,zK,kj,ze,Yh];rw[show mP [t,.int 2,.int 2]= .ok _ from ZR t 2 2,Zm];cases t with
 | tup xs=>
  match xs,a with
  | [],_=>rfl
  | [_],_=>rfl
  | _ :: _ :: _ :: _,_=>simp[VX,zt]
  | [w,n],a=>
   have d:sOk w:=ZM (ZS a) (by simp)
   show (if true=true then pV (oo [w]) (pV (mS [n]) ((lA _ n).bind λk=>if k=true then (lA n _).bind λf =>R.ok _ else .ok _)) else _)=_
   rw[Qh w d.str,WN,Zm,Zm];cases n with
   | int i=>
    show (if Z0 w=true then (if true=true then (if decide _=true then R.ok _ else .ok _) else _) else _)=R.ok (T.bl (Z0 w && decide _ && decide _))
    cases Z0 w <;> cases decide (1<=i) <;> rfl
   | _=>
    cases Z0 w <;> rfl
 | _=>rfl
theorem zz (f g:En->RS)(ρ:En):zi f g ρ=match f ρ with | .nx a =>g a | r=>r:=rfl
theorem Zk (g:En->R Bool)(d a:En->RS)(ρ:En):lu g d a ρ=(g ρ).s λk=>if k=true then d ρ else a ρ:=rfl
theorem Ux (f g:En->R Bool)(ρ:En):lY f g ρ=(f ρ).bind λx=>if x=true then .ok true else g ρ:=rfl
theorem jt (f:En->R Bool)(ρ:En):ZW f ρ=(f ρ).bind λx=> .ok (!x):=rfl
theorem ZK (f:En->R T)(ρ:En):Z8 f ρ=(f ρ).bind nJ:=rfl
theorem Zs (k:Bool):nJ (.bl k)= .ok k:=rfl
theorem ZD (i:Nat)(f:En->R T)(ρ:En):zr i f ρ=(f ρ).s λt=> .nx (ρ.set i (.vl t)):=rfl
theorem zA:zk g f f' ρ=(f ρ).bind λx=>(f' ρ).bind λy=>g x y:=rfl
theorem zE {g:T->En->R En}{js:List Nat}:zv fi g ft fe k js ρ=(fi ρ).bind λts=>(zp g ft fe k js ρ ts).bind λa=> .ok (.lst a):=rfl
theorem Zt:Zg f ρ=(f ρ).bind Jb:=rfl
noncomputable def Zj:T->Str
 | .tup (.str w :: _)=>w
 | _=>⟨#[]⟩
def uR:T->Bool
 | .tup a=>decide (1<=a.length) && decide (a.length<=4) && a.all zt && decide ((dd [] (a.map Zj)).length=a.length)
 | _=>false
theorem JA (h:zt c=true):∃w n,c= .tup [.str w,n]:=by
 unfold zt at h;split at h
 ·rename_i w i;cases w with
  | str x=>exact⟨x,_,rfl⟩
  | _=>cases h
 ·cases h
theorem Wb:∀{a:List T},a.all zt=true->YB (a.map λc=>T.str (Zj c))=some (a.map Zj)
 | [],_=>rfl
 | c :: a,h=>by
  rw[b_,ae]at h;have d:=Wb h.2;show (match YB (a.map λc=>T.str _) with | some ys=>some _ | none=>none)=_
  rw[d];rfl
theorem Yi (t:T)(l:sOk t):pH [t]= .ok (.bl (uR t)):=by
 have e:pH [t]=zh (sS _ _ [.vl t,.un]):=rfl;rw[e,sS];simp only[zz,Zk,Ux,jt,ZK,Z4,v0,zK,kj];rw[show mP [t,.int 1,.int 4]= .ok _ from ZR t 1 4];cases t with
 | tup a=>
  have r:VX 1 4 (.tup a)=(decide _ && decide _):=rfl;rw[r];show _=R.ok (T.bl (decide _ && decide _ && a.all _ && decide _));cases f:(decide (1<=a.length) && decide (a.length<=4)) with
  | false=>rfl
  | true=>
   rw[ae,decide_eq_true_eq,decide_eq_true_eq]at f;have j:a.length<=lB:=ay f.2 (by decide)
   have p:zp _ _ (za 1 oW (z9 (vE 0) zd)) 1 [] [.vl (.tup a),.un] a= .ok (a.map λc=>T.bl _):=
    zP a j λc g=>by
     exact Qi c (ZM (ZS l) g)
   simp only[bv,aB,if_false,Z5,zE,Zt,v0,kj,Jb,p];have q:X1 (.lst (a.map λc=>T.bl (zt c)))= .ok (.bl (a.all zt)):=by
    show (match uF (a.map λc=>T.bl _) with | some k=>R.ok _ | none=> .bad)=_
    rw[JN]
   rw[q];simp only[kj,Zs,Ze];cases d:a.all _ with
   | false=>rfl
   | true=>
    have u:zp _ _ (zc li (vE 0) (cE (.int 0))) 1 [] [.vl (.tup a),.un] a= .ok (a.map λc=>T.str (Zj c)):=
     zP a j λc g=>by
      obtain⟨w,n,rfl⟩:=JA (aO.mp d c g);rfl
    simp only[bv,aB,if_false,lq,ZD,zE,Zt,v0,kj,Jb,u,Ze,zN];show zh (((Vy (.lst (a.map λc=>T.str _))).bind λx=>(zM (.lst (a.map λc=>T.str _))).bind λy=>(ll x y).bind λb=>R.ok _).s λt=> .rt t)=_;have o:Vy (.lst (a.map λc=>T.str (Zj c)))= .ok (.int (dd [] (a.map Zj)).length):=by
     show (match YB (a.map λc=>T.str _) with | some ys=>if (a.map λc=>T.str _).length+1 < 4096 then R.ok _ else .bad | none=> .bad)=_
     rw[Wb d];exact if_pos (by rw[ah];omega)
    rw[o,VZ,ah];show R.ok _=_;congr 2
    by_cases i:(dd [] (a.map Zj)).length=a.length
    ·rw[i];simp
    ·rw[decide_eq_false i];simp only[cV,beq_eq_false_iff_ne];omega
 | _=>rfl
noncomputable def isS (w:Str):T->Bool
 | .str s=>s == w
 | _=>false
theorem Cy (h:T)(w:Str):ll h (.str w)= .ok (isS w h):=by cases h <;> rfl
theorem mD (i j:Int):ll (.int i) (.int j)= .ok (i == j):=rfl
theorem mo:li (.tup (h :: r)) (.int 0)= .ok h:=by
 show lI _ 0=_;unfold lI;rw[show mj _ 0=some h from Zu rfl]
theorem nn:li (.tup (h :: a :: r)) (.int 1)= .ok a:=by
 show lI _ 1=_;unfold lI;rw[show mj _ 1=some a from Zu rfl]
theorem rN:li (.tup (h :: a :: b :: r)) (.int 2)= .ok b:=by
 show lI _ 2=_;unfold lI;rw[show mj _ 2=some b from Zu rfl]
theorem Cn:li (.tup (h :: a :: b :: c :: r)) (.int 3)= .ok c:=by
 show lI _ 3=_;unfold lI;rw[show mj _ 3=some c from Zu rfl]
noncomputable def wm (k:T->Bool):T->Bool
 | .tup a=>decide (1<=a.length) && decide (a.length<=3) && a.all k
 | _=>false
def JB:List T->Bool
 | [a,b]=>jr (-20) 20 a b
 | _=>false
def uS:List T->Bool
 | [c]=>uR c
 | _=>false
def Xq (k:T->Bool):List T->Bool
 | [c]=>wm k c
 | _=>false
def uT (k:T->Bool):List T->Bool
 | [c,a,b]=>jr 0 3 a b && k c
 | _=>false
def WO (k:T->Bool):T->Bool
 | .tup (h :: r)=>if isS "whole" h=true then JB r else if isS "pick" h=true then uS r else if isS "row" h=true then Xq k r else if isS "many" h=true then uT k r else false
 | _=>false
def md:Nat->T->Bool
 | 0,_=>false
 | d+1,t=>WO (md d) t
theorem wn {a:Type}(xs:List a)(n:Nat):((xs.length:Int) == (n:Int))=decide (xs.length=n):=by
 by_cases h:xs.length=n
 ·rw[h];simp
 ·rw[decide_eq_false h,beq_eq_false_iff_ne];omega
theorem Qj:Wv f ρ=(f ρ).bind λx=>match x with | .int i=> .ok (.int (-i)) | _=> .bad:=rfl
theorem Zf:jg (.int i) (.int j)= .ok (.int (i - j)):=rfl
set_option maxHeartbeats 1000000 in
theorem KH {n:Nat}{d:Nat}{k:T->Bool}(w:∀t,sOk t->mF n 0 [t,.int d]= .ok (.bl (k t)))(q:∀t,sOk t->mF n 1 [t,.int d]= .ok (.bl (wm k t)))(t:T)(l:sOk t):
  mF (n+1) 0 [t,.int ((d+1:Nat):Int)]= .ok (.bl (WO k t)):=by
 have e:mF (n+1) 0 [t,.int ((d+1:Nat))]=zh (sQ rQ _ pH _ [.vl t,.vl (.int _)]):=rfl;have x:(((d+1:Nat):Int) == 0)=false:=by rw[beq_eq_false_iff_ne];omega
 have g:((d+1:Nat)) - 1=(d:Int):=by omega
 rw[e,sQ];simp only[zz,Zk,Ux,jt,ZK,zA,w0,w1,zK,kj,mD,x,aB,if_false,Z5];cases t with
 | tup xs=>
  cases xs with
  | nil=>rfl
  | cons h r=>
   have v:=ZS l;have f:∀u∈r,sOk u:=λu o=>ZM v (ac _ o);have y:(((h :: r).length:Int) == 0)=false:=by rw[beq_eq_false_iff_ne];simp only[ar];omega
   have p:j4 "tuple" (.tup (h :: r))= .ok (.bl true):=rfl;simp only[p,kj,Zs,bv,aB,if_false,Zw,mD,y,Ze,lq,ze,v0,v1,zK,mo,Cy,zN,ZC,j9,jh,Za,Z5,w0,DR,zF,zx,Qj,Zf,g];show _=R.ok (T.bl (if isS "whole" h=true then JB r else if isS "pick" h=true then uS r else if isS "row" h=true then Xq k r else if isS "many" h=true then uT k r else false))
   have B:(((h :: r).length:Int) == 3)=decide _:=wn (h :: r) 3;have i:(((h :: r).length:Int) == 2)=decide _:=wn (h :: r) 2;have j:(((h :: r).length:Int) == 4)=decide _:=wn _ 4;simp only[i,B,j,Zm];cases isS _ h with
   | true=>
    match r,f with
    | [],_=>rfl
    | [_],_=>rfl
    | _ :: _ :: _ :: _,_=>simp[JB,Ze,zh]
    | [a,b],_=>
     simp only[nn,rN,kj,Qg];rfl
   | false=>
    simp only[aB,if_false,v0,v1,w0,kj,mo,Ze,ZC,j9,Zw,mD,i,j,Zm,Zf,g];cases isS _ h with
    | true=>
     match r,f with
     | [],_=>rfl
     | _ :: _ :: _,_=>simp[uS,Ze,zh]
     | [c],f=>
      simp only[nn,kj,Yi c (f c (by simp))]
      rfl
    | false=>
     simp only[aB,if_false,v0,v1,w0,kj,mo,Ze,ZC,j9,Zw,mD,i,j,Zm,Zf,g];cases isS _ h with
     | true=>
      match r,f with
      | [],_=>rfl
      | _ :: _ :: _,_=>simp[Xq,Ze,zh]
      | [c],f=>
       simp only[nn,kj,q c (f c (by simp))]
       rfl
     | false=>
      simp only[aB,if_false,v0,v1,w0,kj,mo,Ze,ZC,j9,Zw,mD,i,j,Zm,Zf,g];cases isS _ h with
      | true=>
       match r,f with
       | [],_=>rfl
       | [_],_=>rfl
       | [_,_],_=>rfl
       | _ :: _ :: _ :: _ :: _,_=>simp[uT,Ze,zh]
       | [c,a,b],f=>
        simp only[nn,rN,Cn,kj,Qg,w c (f c (by simp)),Zm]
        show zh (match (if jr 0 3 a b=true then R.ok _ else .ok _).s (λt=>RS.rt t) with | .nx _=>RS.rt _ | r=>r)=R.ok (T.bl (jr 0 3 a b && k c))
        cases jr 0 3 a b <;> rfl
      | false=>rfl
 | _=>rfl
theorem EA {k:T->Bool}(i:∀t,sOk t->mF n 0 [t,.int d]= .ok (.bl (k t)))(t:T)(g:sOk t):mF (n+1) 1 [t,.int d]= .ok (.bl (wm k t)):=by
 have e:mF (n+1) 1 [t,.int d]=zh (sJ mP (mF n 0) [.vl t,.vl (.int d)]):=rfl;rw[e,sJ];simp only[zN,ZJ,ZC,j9,jh,Z4,v0,zK,kj];rw[show mP [t,.int 1,.int 3]= .ok (.bl (VX 1 3 t)) from ZR t 1 3,Zm];cases t with
 | tup a=>
  show (if (decide (1<=a.length) && decide (a.length<=3))=true then _ else _)=R.ok (T.bl (decide (1<=a.length) && decide (a.length<=3) && a.all k))
  cases f:(decide (1<=a.length) && decide (a.length<=3)) with
  | false=>rfl
  | true=>
   rw[ae,decide_eq_true_eq,decide_eq_true_eq]at f;have j:a.length<=lB:=ay f.2 (by decide)
   have o:zp (zq 0) Z9 (za 2 (mF n 0) (z9 (vE 0) (z9 (vE 1) zd))) 1 [1] [.vl (.tup a),.vl (.int d)] a= .ok (a.map λc=>T.bl (k c)):=
    zP (h:=λc=>T.bl (k c)) a j λc l=>by
     show za 2 (mF n 0) (z9 (vE 0) (z9 (vE 1) zd)) [.vl c,.vl (.int d)]=_;rw[zx,v0,v1,kj,kj];exact i c (ZM (ZS g) l)
   simp only[if_true,Z5,zE,Zt,v0,kj,Jb,o];show (match uF (a.map λc=>T.bl (k c)) with | some k=>R.ok (T.bl k) | none=> .bad)=_
   rw[JN];rfl
 | _=>rfl
theorem Uy:∀(d n:Nat),2*d+1<=n->∀t,sOk t->mF n 0 [t,.int d]= .ok (.bl (md d t))
 | 0,n+1,_,t,_=>rfl
 | d+1,n+2,h,t,f=>KH (n:=n+1) (λu a=>Uy d (n+1) (by omega) u a) (λu a=>EA (λv e=>Uy d n (by omega) v e) u a) t f
theorem Yj (t:T)(a:sOk t):oJ [t]= .ok (.bl (md 3 t)):=by
 have e:oJ [t]=zh (rY (Ay 20) [.vl t]):=rfl;rw[e,rY];simp only[zN,ZJ,ZC,j9,zx,v0,zK,kj];exact Uy 3 20 (by omega) t a
noncomputable def mW (lo hi:Int):T->Bool
 | .int i=>decide (lo<=i) && decide (i<=hi)
 | _=>false
theorem j0 (t:T)(lo hi:Int):V5 [t,.int lo,.int hi]= .ok (.bl (mW lo hi t)):=by
 cases t with
 | int i=>
  show zh ((if decide _=true then R.ok _ else .ok _).s λt=> .rt t)=R.ok (T.bl (decide _ && decide _))
  cases decide (lo<=i) <;> rfl
 | _=>rfl
theorem yk (xs:List T):ll (.lst xs) (.lst [])= .ok xs.isEmpty:=by cases xs <;> rfl
theorem x6 (c:Nat)(ρ:En):ZW (nF lA lA (cE (.str "a")) (vB 0) (cE (.str "z"))) ((Sl.vl (.str ⟨#[c]⟩)) :: ρ)= .ok (!Zi c):=by
 have d:lA (.str "a") (.str ⟨#[c]⟩)= .ok (decide (97<=c)):=by
  show R.ok (!decide ([c] < [97]))=_;rw[yj]
  by_cases h:c < 97
  ·rw[decide_eq_true h,decide_eq_false (by omega)];rfl
  ·rw[decide_eq_false h,decide_eq_true (by omega)];rfl
 have a:lA (.str ⟨#[c]⟩) (.str "z")= .ok (decide (c<=122)):=by
  show R.ok (!decide ([122] < [c]))=_;rw[yj]
  by_cases h:122 < c
  ·rw[decide_eq_true h,decide_eq_false (by omega)];rfl
  ·rw[decide_eq_false h,decide_eq_true (by omega)];rfl
 show ((lA (.str "a") (.str _)).bind (λk=>if k=true then lA (.str _) (.str "z") else R.ok _)).bind (λx=>R.ok _)=_
 rw[d,a];unfold Zi;cases decide (97<=c) <;> rfl
theorem ju {a:Type}(p:a->Bool):∀xs:List a,(xs.filter λx=> !p x).isEmpty=xs.all p
 | []=>rfl
 | x :: xs=>by
  have d:=ju p xs;rw[b_];cases hp:p x with
  | true=>rw[dO (by simp[hp]),d];rfl
  | false=>rw[dN (by simp[hp])];rfl
def KI:T->Bool
 | .str y=> !Zi (y.cps.toList.headD 0)
 | _=>false
theorem Uz (t:T)(a:VY t):V6 [t]= .ok (.bl (Z0 t)):=by
 cases t with
 | str x=>
  have d:=a;have k:zM (.str x)= .ok _:=if_pos d;have i:(jj x).length<=lB:=by unfold jj;rw[ah];exact d
  have o:zp (zq 0) (ZW (nF lA lA (cE (.str "a")) (vB 0) (cE (.str "z")))) (vE 0) 1 [] [.vl (.str x)] (jj x)= .ok (((jj x).filter KI).map id):=by
   unfold zp;rw[if_pos i];have:=zZ (fe:=vE 0) (p:=KI) (h:=id) (jj x) (jQ 1 [] [.vl (.str x)]) λt a=>by
    obtain⟨c,_,rfl⟩:=aE.mp a;exact⟨x6 c [],λ_=>rfl⟩
   rw[this];rfl
  have j:(((jj x).filter KI).map id).isEmpty=x.cps.toList.all Zi:=by
   rw[f7];unfold jj;rw[List.filter_map,List.isEmpty_map];exact ju _ _
  have e:V6 [.str x]=zh (rm [.vl _]):=rfl;rw[e,rm];simp only[zN,ZJ,ZC,j9,jh,Z5,w0,v0,kj,Yh,zK,k,Js,Za,zE,Zt,Jb,o];have f:decide ((1:Int)<=(x.length))=decide (1<=x.length):=by
   by_cases h:1<=x.length
   ·rw[decide_eq_true h];exact decide_eq_true (by omega)
   ·rw[decide_eq_false h];exact decide_eq_false (by omega)
  have g:decide ((x.length:Int)<=(3))=decide (x.length<=3):=by
   by_cases h:x.length<=3
   ·rw[decide_eq_true h];exact decide_eq_true (by omega)
   ·rw[decide_eq_false h];exact decide_eq_false (by omega)
  rw[f,g];have l:Z7 zd [Sl.vl (T.str x)]= .ok _:=rfl;rw[l];simp only[kj,yk,j];show pV _ _=R.ok (T.bl (decide _ && decide _ && x.cps.toList.all _));cases decide (1<=x.length) <;> cases decide (x.length<=3) <;> rfl
 | _=>rfl
theorem uU:∀(a acc:List Str),(dd acc a).length<=acc.length+a.length
 | [],acc=>ao _
 | w :: a,acc=>by
  unfold dd;have:=uU a (if w∈acc then acc else acc++[w])
  by_cases h:w∈acc
  ·rw[if_pos h]at this ⊢;simp only[ar];omega
  ·rw[if_neg h]at this ⊢;rw[az,aC]at this;simp only[ar];omega
theorem wo:∀(a acc:List Str),((dd acc a).length=acc.length+a.length)↔∀(k:Nat) (w:Str),a[k]? =some w->w ∉ acc++a.take k
 | [],acc=>by simp[dd]
 | w :: a,acc=>by
  unfold dd
  by_cases h:w∈acc
  ·rw[if_pos h];have:=uU a acc;constructor
   ·intro e;simp only[ar]at e;omega
   ·intro H;exact absurd (cN _ h) (H 0 w rfl)
  ·rw[if_neg h];have d:=wo a (acc++[w]);rw[az,aC]at d;rw[show acc.length+(w :: a).length=acc.length+1+a.length by simp only[ar];omega,d]
   constructor
   ·intro H k v e;cases k with
    | zero=>simp at e;subst e;simpa using h
    | succ k=>
     have:=H k v (by simpa using e)
     simpa[bg] using this
   ·intro H k v e;have:=H (k+1) v (by simpa using e)
    simpa[bg] using this
theorem rc {h:T}{r:List T}:na (.tup (h :: r)) (some 1) none= .ok (.tup r):=by
 show R.ok (T.tup (mn (h :: r) (some 1) none))=_;have:mn (h :: r) (some 1) none=r:=by
  unfold mn;rw[show HT.sIx (h :: r).length 0 (some (1:Int))=1 from by rw[show (1:Int)=((1:Nat):Int) from rfl,HT.sIx_nat];simp only[ar];omega,HT.sIx_none]
  simp
 rw[this]
theorem FK (h:T)(w:Str):lJ h (.str w)= .ok (!isS w h):=by cases h <;> rfl
theorem Bo (i j:Int):lJ (.int i) (.int j)= .ok (!(i == j)):=rfl
theorem pr (i j:Int):mG (.int i) (.int j)= .ok (decide (i < j)):=rfl
theorem v2 {t:T}{a b:Sl}{ρ:En}:vE 2 (a :: b :: .vl t :: ρ)= .ok t:=rfl
theorem v3 {t:T}{a b c:Sl}{ρ:En}:vE 3 (a :: b :: c :: .vl t :: ρ)= .ok t:=rfl
theorem w2 {t:T}{a b:Sl}{ρ:En}:vB 2 (a :: b :: .vl t :: ρ)= .ok t:=rfl
theorem w3 {t:T}{a b c:Sl}{ρ:En}:vB 3 (a :: b :: c :: .vl t :: ρ)= .ok t:=rfl
theorem w5 {t:T}{a b c d e:Sl}{ρ:En}:vB 5 (a :: b :: c :: d :: e :: .vl t :: ρ)= .ok t:=rfl
theorem v4 {t:T}{a b c d:Sl}{ρ:En}:vE 4 (a :: b :: c :: d :: .vl t :: ρ)= .ok t:=rfl
theorem WP (f g:En->R Bool)(ρ:En):JZ f g ρ=(f ρ).bind λx=>if x=true then g ρ else .ok false:=rfl
theorem Xr {g a :T->T->R Bool}{d f e:En->R T}{ρ:En}:nF g a d f e ρ=(d ρ).bind λx=>(f ρ).bind λy=>(g x y).bind λk=>if k=true then (e ρ).bind λz=>a y z else .ok false:=rfl
theorem Jt (t:T):j4 "tuple" t= .ok (.bl (match t with | .tup _=>true | _=>false)):=by cases t <;> rfl
theorem KJ {n d:Nat}{k:T->Bool}(g:∀t,sOk t->mM n 0 [t,.int d]= .ok (.bl (k t))){a:List T}(e:∀u∈a,sOk u)(j:a.length<=3){x y z:Sl}{L:Int}(i:L - 1=(d:Int)){ρ:En}:
  zp (zq 0) (ZW (Z8 (za 2 (mM n 0) (z9 (vE 0) (z9 (zc jg (vE 1) (cE (.int 1))) zd))))) (vE 0) 1 [1] (x :: .vl (.int L) :: ρ) a= .ok (a.filter λc=> !k c):=by
 unfold zp;rw[if_pos (ay j (by decide))]
 have:=zZ (ft:=ZW (Z8 (za 2 (mM n 0) (z9 (vE 0) (z9 (zc jg (vE 1) (cE (.int 1))) zd))))) (fe:=vE 0) (p:=λc=> !k c) (h:=id) a (jQ 1 [1] (x :: .vl (.int L) :: ρ)) λc f=>by
  refine⟨?_,λ_=>rfl⟩;show ZW (Z8 (za 2 (mM n 0) (z9 (vE 0) (z9 (zc jg (vE 1) (cE (.int 1))) zd)))) [.vl c,.vl (.int L)]=_;simp only[jt,ZK,zx,v0,v1,kj,ze,zK,Zf,i,g c (e c f),Zs]
 rw[this,f7];rfl
noncomputable def Uh:T->Bool
 | .tup [_,_]=>true
 | _=>false
noncomputable def Yk:T->T
 | .tup (w :: _)=>w
 | t=>t
theorem CN {a:List T}(d:a.length<=4){ρ:En}:zp (zq 0) (JZ (Z8 (lj (j4 "tuple") (vB 0))) (zk ll (lj zM (vB 0)) (cE (.int 2)))) (vE 0) 1 [] ρ a= .ok (a.filter Uh):=by
 unfold zp;rw[if_pos (ay d (by decide))]
 have:=zZ (ft:=JZ (Z8 (lj (j4 "tuple") (vB 0))) (zk ll (lj zM (vB 0)) (cE (.int 2)))) (fe:=vE 0) (p:=Uh) (h:=id) a (jQ 1 [] ρ) λc _=>by
  refine⟨?_,λ_=>rfl⟩;show JZ (Z8 (lj (j4 "tuple") (vB 0))) (zk ll (lj zM (vB 0)) (cE (.int 2))) [.vl c]=_;cases c with
  | tup xs=>
   match xs with
   | []=>rfl
   | [_]=>rfl
   | [_,_]=>rfl
   | _ :: _ :: _ :: xs=>
    simp only[WP,ZK,Z5,w0,kj,Jt,Zs,if_true,zA,Zw,zK,mD,Uh];congr 1
    all_goals (rw[beq_eq_false_iff_ne];simp only[ar];omega)
  | _=>rfl
 rw[this,f7];rfl
theorem Wc (c:T):zt c=(Uh c && (match c with | .tup [w,n]=>Z0 w && mW 1 20 n | _=>false)):=by
 cases c with
 | tup xs=>
  match xs with
  | []=>rfl
  | [_]=>rfl
  | _ :: _ :: _ :: _=>simp[zt,Uh]
  | [w,n]=>
   cases n with
   | int i=>
    show (Z0 w && decide (1<=i) && decide (i<=20))=(true && (Z0 w && (decide (1<=i) && decide (i<=20))));rw[cV,Bool.and_assoc]
   | _=>
    show false=(true && (Z0 w && false));cases Z0 w <;> rfl
 | _=>rfl
theorem EX {d:List T}(j:∀c∈d,sOk c)(l:d.length<=4){ρ:En}:
  zp (zq 0) (JZ (Z8 (za 1 V6 (z9 (zc li (vE 0) (cE (.int 0))) zd))) (Z8 (za 3 V5 (z9 (zc li (vE 0) (cE (.int 1))) (z9 (cE (.int 1)) (z9 (cE (.int 20)) zd)))))) (zc li (vE 0) (cE (.int 0))) 1 [] ρ (d.filter Uh)= .ok ((d.filter zt).map Yk):=by
 unfold zp;have i :(d.filter Uh).length<=lB:=ay (eC _ _) (ay l (by decide))
 rw[if_pos i];have:=zZ (ft:=JZ (Z8 (za 1 V6 (z9 (zc li (vE 0) (cE (.int 0))) zd))) (Z8 (za 3 V5 (z9 (zc li (vE 0) (cE (.int 1))) (z9 (cE (.int 1)) (z9 (cE (.int 20)) zd)))))) (fe:=zc li (vE 0) (cE (.int 0))) (p:=zt) (h:=Yk) (d.filter Uh) (jQ 1 [] ρ) λc o=>by
  obtain⟨g,e⟩:=cK.mp o;have f:=j c g;unfold Uh at e;split at e
  ·rename_i w n;have k:sOk w:=ZM (ZS f) (by simp)
   refine⟨?_,λ_=> ?_⟩
   ·show JZ (Z8 (za 1 V6 (z9 (zc li (vE 0) (cE (.int 0))) zd))) (Z8 (za 3 V5 (z9 (zc li (vE 0) (cE (.int 1))) (z9 (cE (.int 1)) (z9 (cE (.int 20)) zd))))) [.vl (.tup [w,n])]=_;simp only[WP,ZK,zF,Z4,ze,v0,zK,kj,mo,nn,Uz w k.str,j0,Zs,Wc];show (if Z0 w=true then R.ok (mW 1 20 n) else R.ok false)=R.ok (true && (Z0 w && mW 1 20 n))
    cases Z0 w <;> rfl
   ·show zc li (vE 0) (cE (.int 0)) [.vl (.tup [w,n])]=_;simp only[ze,v0,zK,kj,mo];rfl
  ·cases e
 rw[this,List.filter_filter];have:(d.filter λa=>zt a && Uh a)=d.filter zt:=by
  refine List.filter_congr λc _=> ?_;rw[Wc];cases Uh c <;> simp
 rw[this];rfl
theorem WQ (w:Str):∀a:List Str,Ji (λy=>lw 30 y (.str w)) (a.map T.str)=some (decide (w∈a))
 | []=>rfl
 | x :: a=>by
  have d:=WQ w a;show (match Ji (λy=>lw 30 y (.str w)) (a.map T.str) with | none=>none | some c=>some ((x == w) || c))=_
  rw[d];show some ((x == w) || decide (w∈a))=_
  congr 1
  by_cases h:x=w
  ·subst h;simp
  ·have h' :¬ w=x:=λz=>h z.symm;simp[h,h']
theorem x8 {xs:List T}{k:Nat}:na (.lst xs) none (some (k:Int))= .ok (.lst (xs.take k)):=by
 show R.ok (T.lst (mn xs none (some (k:Int))))=_;have:mn xs none (some (k:Int))=xs.take k:=by
  unfold mn;rw[HT.sIx_none,HT.sIx_nat];simp only[cI,iB];rw[fX];omega
 rw[this]
theorem Qk {xs:List T}{k:Nat}{t:T}(h:xs[k]? =some t):li (.lst xs) (.int k)= .ok t:=by
 show lI xs k=_;unfold lI;rw[Zu h]
theorem D2 {f:List Str}(D:f.length<=4){a b c d e:Sl}:∃r,zp (zq 0) (zk lQ (zc li (vE 1) (vE 0)) (lK (vE 1) lM (zJ (vE 0)))) (vE 0) 1 [5] [a,b,c,d,e,.vl (.lst (f.map T.str))] (rng 0 f.length)= .ok r/\
  (r.isEmpty=true↔∀(k:Nat) (w:Str),f[k]? =some w->w ∉ f.take k):=by
 have u :(rng 0 f.length).length<=lB:=by unfold rng;rw[ah,bE];exact ay D (by decide)
 let p:T->Bool:=λt=>match t with
  | .int i=>match f[i.toNat]? with | some w=>decide (w∈f.take i.toNat) | none=>false
  | _=>false
 have o:=zZ (ft:=zk lQ (zc li (vE 1) (vE 0)) (lK (vE 1) lM (zJ (vE 0)))) (fe:=vE 0) (p:=p) (h:=id) (rng 0 f.length) (jQ 1 [5] [a,b,c,d,e,.vl (.lst (f.map T.str))]) λt l=>by
  unfold rng at l;obtain⟨k,j,rfl⟩:=aE.mp l;have g :k < f.length:=aS.mp j;refine⟨?_,λ_=>rfl⟩;show zk lQ (zc li (vE 1) (vE 0)) (lK (vE 1) lM (zJ (vE 0))) [.vl (.int (0+(k:Int))),.vl (.lst (f.map T.str))]=_;rw[show (0:Int)+(k:Int)=(k:Int) by omega]
  have B:li (.lst (f.map T.str)) (.int k)= .ok (.str f[k]):=Qk (by rw[av,ak g];rfl)
  have x:lK (vE 1) lM (zJ (vE 0)) [.vl (.int (k:Int)),.vl (.lst (f.map T.str))]=na (.lst (f.map T.str)) none (some (k:Int)):=rfl;simp only[zA,ze,v1,v0,kj,B,x,x8];show lQ (.str f[k]) (.lst ((f.map T.str).take k))=R.ok (p (.int (k:Int)));have v:lQ (.str f[k]) (.lst ((f.map T.str).take k))= .ok (decide (f[k]∈f.take k)):=by
   show (match Ji (λy=>lw 30 y (.str f[k])) ((f.map T.str).take k) with | some b=>R.ok b | none=> .bad)=_
   rw[← List.map_take,WQ]
  rw[v];show _=R.ok (match f[((k:Int)).toNat]? with | some w=>decide (w∈f.take ((k:Int)).toNat) | none=>false)
  rw[a_,ak g]
 refine⟨((rng 0 f.length).filter p).map id, ?_, ?_⟩
 ·unfold zp;rw[if_pos u,o];rfl
 ·rw[f7,iP,fQ];constructor
  ·intro H k w e;have j:k < f.length:=(au.mp e).1;have:=H (.int (0+(k:Int))) (aE.mpr ⟨k,aS.mpr j,rfl⟩);rw[show (0:Int)+(k:Int)=(k:Int) by omega]at this
   have q:p (.int (k:Int))=decide (w∈f.take k):=by
    show (match f[((k:Int)).toNat]? with | some w=>decide (w∈f.take ((k:Int)).toNat) | none=>false)=_
    rw[a_,e]
   rw[q]at this;simpa using this
  ·intro H t l;unfold rng at l;obtain⟨k,j,rfl⟩:=aE.mp l;have g :k < f.length:=aS.mp j;rw[show (0:Int)+(k:Int)=(k:Int) by omega]
   have q:p (.int (k:Int))=decide (f[k]∈f.take k):=by
    show (match f[((k:Int)).toNat]? with | some w=>decide (w∈f.take ((k:Int)).toNat) | none=>false)=_
    rw[a_,ak g]
   rw[q];simpa using H k f[k] (ak g)
theorem CI {a:List T}(h:a.all zt=true):(a.filter zt).map Yk=(a.map Zj).map T.str:=by
 rw[i5.mpr (λc d=>aO.mp h c d),bi];refine bO λc d=> ?_;obtain⟨w,n,rfl⟩:=JA (aO.mp h c d);rfl
theorem jU {a:Type}(p:a->Bool):∀xs:List a,((xs.filter p).length=xs.length)↔xs.all p=true
 | []=>by simp
 | x :: xs=>by
  have d:=jU p xs;have e:=eC p xs;cases hp:p x with
  | true=>rw[dN hp,b_,hp,cV,← d];simp
  | false=>
   rw[dO (by rw[hp];exact aA),b_,hp,Bool.false_and]
   simp only[ar];constructor
   ·intro z;omega
   ·intro z;cases z
theorem uV (lo hi:Int)(a b:T):(if mW lo hi a=true then V5 [b,a,.int hi] else R.ok (.bl false))= .ok (.bl (jr lo hi a b)):=by
 cases a with
 | int i=>
  rw[j0];show (if (decide _ && decide _)=true then R.ok _ else R.ok _)=_
  cases b with
  | int j=>
   show (if (decide _ && decide _)=true then R.ok _ else R.ok _)=R.ok (T.bl (decide _ && decide _ && decide _))
   by_cases d:lo<=i
   ·by_cases f:i<=hi
    ·rw[decide_eq_true d,decide_eq_true f];rfl
    ·rw[decide_eq_true d,decide_eq_false f]
     by_cases e:i<=j
     ·rw[decide_eq_true e,decide_eq_false (by omega)];rfl
     ·rw[decide_eq_false e];rfl
   ·rw[decide_eq_false d];rfl
  | _=>
   cases (decide (lo<=i) && decide (i<=hi)) <;> rfl
 | _=>cases b <;> rfl
theorem KK {xs:List T}(h:xs.length<=4){a b c d e:Sl}:zO (lj zM (vB 5)) [a,b,c,d,e,.vl (.lst xs)]= .ok (rng 0 xs.length):=by
 have f:zO (lj zM (vB 5)) [a,b,c,d,e,.vl (.lst xs)]=(R.ok (T.int (xs.length))).bind λt=>match t with | .int j=>if -1000000 < j/\j < 1000000 then .ok _ else .bad | _=> .bad:=rfl
 rw[f,kj];dsimp only;rw[if_pos ⟨by omega,by omega⟩,a_]
theorem WR {c:T}(I:sOk c){a b d e f:Sl}:
  zh (match (((j4 "tuple" c).bind nJ).bind λx=>R.ok (!x)).bind (λx=>if x=true then R.ok true else ((zM c).bind λy=>(lA (.int 1) y).bind λk=>if k=true then lA y (.int 4) else R.ok false).bind λx=>R.ok (!x)) with
   | .ok k=>if k=true then RS.rt (T.bl false) else (zo (ZV (ZQ ll (lj zM (vB 5)) (lj zM (zc li (vE 3) (cE (.int 0))))) (ZQ ll (zv (zO (lj zM (vB 5))) (zq 0) (zk lQ (zc li (vE 1) (vE 0)) (lK (vE 1) (lM) (zJ (vE 0)))) (vE 0) 1 [5]) (Z7 (zd)))) [a,b,d,.vl (.tup [c]),f,.vl (.lst (match c with | .tup g=>(g.filter zt).map Yk | _=>[]))])
   | .ex c=> .ex c
   | .bad=> .bad)= .ok (.bl (uR c)):=by
 cases c with
 | tup g=>
  have G:(lA (.int 1) (.int (g.length:Int))).bind (λk=>if k=true then lA (.int (g.length:Int)) (.int 4) else R.ok false)= .ok (decide (1<=g.length) && decide (g.length<=4)):=by
   show (if decide _=true then R.ok (decide _) else R.ok false)=_
   by_cases h:1<=g.length
   ·rw[decide_eq_true h,decide_eq_true (by omega)]
    show R.ok (decide _)=R.ok (decide (g.length<=4))
    by_cases q:g.length<=4
    ·rw[decide_eq_true q,decide_eq_true (by omega)]
    ·rw[decide_eq_false q,decide_eq_false (by omega)]
   ·rw[decide_eq_false h,decide_eq_false (by omega)];rfl
  simp only[Jt,kj,Zs,bv,aB,if_false,Zw,G];show _=R.ok (T.bl (decide (1<=g.length) && decide (g.length<=4) && g.all zt && decide _));cases l:(decide (1<=g.length) && decide (g.length<=4)) with
  | false=>rfl
  | true=>
   rw[ae,decide_eq_true_eq,decide_eq_true_eq]at l;simp only[bv,aB,if_false,zN,ZJ,ZC,jh,Za,Z5];have B:frz [a,b,d,.vl (.tup [.tup g]),f,.vl (.lst ((g.filter zt).map Yk))]=[W3 a,W3 b,W3 d,.vl _,W3 f,.vl _]:=rfl;rw[B];simp only[w5,ze,v3,zK,kj,mo,VZ,Zw,mD,ah,zE];rw[wn]
   by_cases i:g.all zt=true
   ·rw[decide_eq_true ((jU _ g).mpr i),i];have u:(g.map Zj).length<=4:=by rw[ah];exact l.2
    obtain⟨r,v,hr⟩:=D2 u (a:=W3 a) (b:=W3 b) (c:=W3 d) (d:= .vl (.tup [.tup g])) (e:=W3 f);rw[CI i];have w:zO (lj zM (vB 5)) [W3 a,W3 b,W3 d,.vl (.tup [.tup g]),W3 f,.vl (.lst ((g.map Zj).map T.str))]= .ok (rng 0 (g.map Zj).length):=by
     rw[KK (by rw[ah];exact u),ah]
    rw[w];simp only[kj,v];have D:Z7 zd [W3 a,W3 b,W3 d,.vl (.tup [.tup g]),W3 f,.vl (.lst ((g.map Zj).map T.str))]= .ok _:=rfl;rw[D];rw[kj,yk];refine congrArg (λz=>R.ok _) ?_;have j:=wo (g.map Zj) [];rw[bw,eA,ah]at j
    by_cases o:(dd [] (g.map Zj)).length=g.length
    ·rw[decide_eq_true o];exact hr.mpr (j.mp o)
    ·rw[decide_eq_false o];cases p:r.isEmpty with
     | false=>rfl
     | true=>exact absurd (j.mpr (hr.mp p)) o
   ·have hn:=λz=>i ((jU _ g).mp z);rw[decide_eq_false hn];have:g.all zt=false:=by simpa using i
    rw[this];rfl
 | _=>rfl
theorem E5 {i j:Nat}{f d :En->R T}{ρ:En}:rF i j (z9 f (z9 d zd)) ρ=(f ρ).s λx=>(d ρ).s λy=> .nx ((ρ.set i (.vl x)).set j (.vl y)):=by
 unfold rF z9 zd;cases f ρ with
 | ok a=>cases d ρ <;> rfl
 | ex c=>rfl
 | bad=>rfl
theorem JL {f:En->R T}{l h:En->R (Option Int)}{ρ:En}:lK f l h ρ=(f ρ).bind λt=>(l ρ).bind λlo=>(h ρ).bind λhi=>na t lo hi:=rfl
theorem E7 {i:Int}{ρ:En}:zJ (cE (.int i)) ρ= .ok (some i):=rfl
theorem Ql {ρ:En}:lM ρ= .ok none:=rfl
theorem Qm (t:T):j4 "str" t= .ok (.bl (match t with | .str _=>true | _=>false)):=by cases t <;> rfl
theorem BU {n m:Nat}{M:Int}(d:M=(m:Int)):(if decide ((1:Int)<=(n:Int))=true then R.ok (decide ((n:Int)<=M)) else R.ok false)=R.ok (decide (1<=n) && decide (n<=m)):=by
 subst d
 by_cases h:1<=n
 ·rw[decide_eq_true h,decide_eq_true (show (1:Int)<=(n:Int) by omega),if_pos rfl,cV]
  by_cases a:n<=m
  ·rw[decide_eq_true a,decide_eq_true (show (n:Int)<=m by omega)]
  ·rw[decide_eq_false a,decide_eq_false (show ¬ (n:Int)<=m by omega)]
 ·rw[decide_eq_false h,decide_eq_false (show ¬ (1:Int)<=(n:Int) by omega)];rfl
set_option maxHeartbeats 1000000 in
theorem x9 {n:Nat}{d:Nat}{k:T->Bool}(K:∀t,sOk t->mM n 0 [t,.int d]= .ok (.bl (k t)))(t:T)(D:sOk t):
  mM (n+1) 0 [t,.int ((d+1:Nat):Int)]= .ok (.bl (WO k t)):=by
 have e:mM (n+1) 0 [t,.int ((d+1:Nat):Int)]=zh (oy V5 V6 (mM n 0) [.vl t,.vl (.int ((d+1:Nat):Int)),.un,.un,.un,.un]):=rfl;have N:decide (((d+1:Nat):Int) < 1)=false:=decide_eq_false (by omega)
 have v:((d+1:Nat):Int) - 1=(d:Int):=by omega
 rw[e,oy];simp only[zz,Zk,Ux,jt,ZK,zA,w0,w1,v0,zK,kj,Z5,Jt,Zs,ze];cases t with
 | tup xs=>
  match xs,D with
  | [],_=>rfl
  | [h],_=>
   have:WO k (.tup [h])=false:=by
    unfold WO;simp[JB,uS,Xq,uT]
   rw[this];rfl
  | h :: a :: r,D=>
   have U:=ZS D;have j:∀u∈a :: r,sOk u:=λu G=>ZM U (ac _ G);have z0:decide (((h :: a :: r).length:Int) < 2)=false:=decide_eq_false (by simp only[ar];omega)
   simp only[bv,aB,if_false,Zw,pr,z0,kj,mo,Qm,Zs,N];cases h with
   | str s=>
    simp only[bv,aB,if_false,Ze,kj,N,E5,ze,v0,zK,mo,JL,E7,Ql,rc,lq];have q:(([Sl.vl (T.tup (T.str s :: a :: r)),Sl.vl (.int ((d+1:Nat):Int)),.un,.un,.un,.un]:En).set 2 (.vl (.str s))).set 3 (.vl (.tup (a :: r)))=[Sl.vl (T.tup (T.str s :: a :: r)),Sl.vl (.int ((d+1:Nat):Int)),.vl (.str s),.vl (.tup (a :: r)),.un,.un]:=rfl;simp only[q,w2,zK,kj,Cy,FK,Ze];have l2:(((a :: r).length:Int) == 2)=decide ((a :: r).length=2):=wn (a :: r) 2;have O:(((a :: r).length:Int) == 1)=decide ((a :: r).length=1):=wn (a :: r) 1;have l3:(((a :: r).length:Int) == 3)=decide ((a :: r).length=3):=wn (a :: r) 3;show _=R.ok (T.bl (if isS "whole" (.str s)=true then JB (a :: r) else if isS "pick" (.str s)=true then uS (a :: r) else if isS "row" (.str s)=true then Xq k (a :: r) else if isS "many" (.str s)=true then uT k (a :: r) else false))
    cases hw:isS "whole" (.str s) with
    | true=>
     simp only[if_true,zN,ZC,JK,j9,jh,Za,Z5,w3,v3,kj,Zw,zK,mD,l2,Zm,Z4,ze,Qj]
     match r,j with
     | [],_=>rfl
     | _ :: _ :: _,_=>simp[JB,Ze,zh]
     | [b],_=>
      simp only[mo,nn,kj,j0,Zm];rw[uV];rfl
    | false=>
     simp only[aB,if_false,w2,w3,v3,kj,Ze,Zw,Bo,O];cases hp:isS "pick" (.str s) with
     | true=>
      simp only[if_true]
      match r,j with
      | _ :: _,_=>simp[uS,Ze,zh,zK];rfl
      | [],j=>
       simp only[ar,bw,decide_true,bv,aB,if_false,mo,kj];cases a with
       | tup g=>
        have w:sOk (.tup g):=j _ (by simp)
        have P:=WR w (a:= .vl (.tup [.str s,.tup g])) (b:= .vl (.int ((d+1:Nat):Int))) (d:= .vl (.str s)) (e:= .un) (f:= .vl (.lst (g.filter Uh)));simp only[Jt,kj,Zs,bv,aB,if_false,Xr,Z5,ze,v3,zK,mo,Zw,Js,BU (m:=4) (M:=4) rfl]at P ⊢;cases i:(decide (1<=g.length) && decide (g.length<=4)) with
        | false=>
         rw[i]at P;exact P
        | true=>
         rw[i]at P;have B:g.length<=4:=by
          rw[ae,decide_eq_true_eq,decide_eq_true_eq]at i;exact i.2
         simp only[bv,aB,if_false,Ze]at P ⊢;have s4:∀(p l o:Sl),zr 4 (zv (Zg (zc li (vE 3) (cE (T.int 0)))) (zq 0) (JZ (Z8 (lj (j4 "tuple") (vB 0))) (zk ll (lj zM (vB 0)) (cE (T.int 2)))) (vE 0) 1 []) [p,l,o,.vl (.tup [.tup g]),.un,.un]= .nx [p,l,o,.vl (.tup [.tup g]),.vl (.lst (g.filter Uh)),.un]:=by
          intro p l o;simp only[ZD,zE,Zt,ze,v3,zK,kj,mo];show ((zp (zq 0) _ _ 1 [] _ g).bind λJ=>R.ok (T.lst J)).s _=_;rw[CN B];rfl
         have s5:∀(p l o:Sl),zr 5 (zv (Zg (vE 4)) (zq 0) (JZ (Z8 (za 1 V6 (z9 (zc li (vE 0) (cE (T.int 0))) zd))) (Z8 (za 3 V5 (z9 (zc li (vE 0) (cE (T.int 1))) (z9 (cE (T.int 1)) (z9 (cE (T.int 20)) zd)))))) (zc li (vE 0) (cE (T.int 0))) 1 []) [p,l,o,.vl (.tup [.tup g]),.vl (.lst (g.filter Uh)),.un]= .nx [p,l,o,.vl (.tup [.tup g]),.vl (.lst (g.filter Uh)),.vl (.lst ((g.filter zt).map Yk))]:=by
          intro p l o;simp only[ZD,zE,Zt,v4,kj];show ((zp (zq 0) _ _ 1 [] _ (g.filter Uh)).bind λJ=>R.ok (T.lst J)).s _=_;rw[EX (λc I =>ZM (ZS w) I) B];rfl
         simp only[s4,s5];revert P;simp only[zN];generalize ZV _ _ _=z;intro P;cases z with
         | ok t=>exact P
         | ex c=>exact P
         | bad=>exact P
       | _=>rfl
     | false=>
      simp only[aB,if_false,w2,w3,v3,kj,Ze,Zw,Bo,O];cases hr:isS "row" (.str s) with
      | true=>
       simp only[if_true]
       match r,j with
       | _ :: _,_=>simp[Xq,Ze,zh,zK];rfl
       | [],j=>
        simp only[ar,bw,decide_true,bv,aB,if_false,mo,kj];cases a with
        | tup g=>
         have w:sOk (.tup g):=j _ (by simp)
         simp only[Jt,kj,Zs,bv,aB,if_false,Xr,Z5,ze,v3,zK,mo,Zw,Js,BU (m:=3) (M:=3) rfl];show _=R.ok (T.bl (decide (1<=g.length) && decide (g.length<=3) && g.all k));cases i:(decide (1<=g.length) && decide (g.length<=3)) with
         | false=>rfl
         | true=>
          have B:g.length<=3:=by
           rw[ae,decide_eq_true_eq,decide_eq_true_eq]at i;exact i.2
          simp only[bv,aB,if_false,Ze,zN,ZC,JK,j9,Za,zE,Zt,ze,v3,zK,kj,mo,cV];have X:Jb (.tup g)= .ok g:=rfl;simp only[X,kj,KJ K (λu G=>ZM (ZS w) G) B (x:= .vl (.tup [.str s,.tup g])) (y:= .un) (z:= .un) v];have Z:∀ρ,Z7 zd ρ= .ok (.lst []):=λ_=>rfl;simp only[Z,kj,yk,ju,Ze,zh]
        | _=>rfl
      | false=>
       simp only[aB,if_false,w2,w3,v3,kj,Ze,Zw,Bo,l3];cases hy:isS "many" (.str s) with
       | true=>
        simp only[bv,aB,if_false,kj]
        match r,j with
        | [],_=>rfl
        | [_],_=>rfl
        | _ :: _ :: _ :: _,_=>simp[uT,Ze,zh,zK];rfl
        | [b,c],j=>
         simp only[Z4,zx,ze,v3,zK,kj,mo,nn,rN,j0,Zs];have S:=uV 0 3 b c;show _=R.ok (T.bl (jr 0 3 b c && k a));cases Q:mW 0 3 b with
         | false=>
          rw[Q]at S;injection S with S;injection S with S;rw[← S];rfl
         | true=>
          rw[Q,if_pos rfl]at S;simp only[S,kj,Zs];cases jr 0 3 b c with
          | false=>rfl
          | true=>
           have hk:=K a (j a (by simp))
           simp only[zN,ZC,JK,j9,v1,v3,Zf,kj,mo,v,hk,bv,aB,if_false,Ze,zh,ar,bw,decide_true,cV,zx,ze,zK]
       | false=>rfl
   | _=>rfl
 | _=>rfl
theorem Qn {n:Nat}(t:T):mM (n+1) 0 [t,.int 0]= .ok (.bl false):=by
 have e:mM (n+1) 0 [t,.int 0]=zh (oy V5 V6 (mM n 0) [.vl t,.vl (.int 0),.un,.un,.un,.un]):=rfl;rw[e,oy];simp only[zz,Zk,Ux,jt,ZK,zA,w0,w1,v0,zK,kj,Z5,Jt,Zs,ze];cases t with
 | tup xs=>
  match xs with
  | []=>rfl
  | [h]=>rfl
  | h :: a :: r=>
   have f:decide (((h :: a :: r).length:Int) < 2)=false:=decide_eq_false (by simp only[ar];omega)
   have d:decide ((0:Int) < 1)=true:=rfl;simp only[bv,aB,if_false,Zw,pr,f,kj,mo,Qm,Zs,d];cases h <;> rfl
 | _=>rfl
theorem wp:∀(d n:Nat),d+1<=n->∀t,sOk t->mM n 0 [t,.int d]= .ok (.bl (md d t))
 | 0,n+1,_,t,_=>Qn t
 | d+1,n+1,h,t,a=>x9 (λt a=>wp d n (by omega) t a) t a
theorem wT (t:T)(a:sOk t):sC 12 [t,.int 3]= .ok (.bl (md 3 t)):=wp 3 12 (by omega) t a
theorem BY (i j:Int):ml (.int i) (.int j)= .ok (decide (i > j)):=rfl
theorem Z6 (i j:Int):zn (.int i) (.int j)= .ok (.int (i+j)):=rfl
theorem Dg (p:Int)(a:0<=p)(d:p < 26):li (.str "abcdefghijklmnopqrstuvwxyz") (.int p)= .ok (.str ⟨#[97+p.toNat]⟩):=by
 obtain⟨n,rfl⟩:=d0 a;have h:n < 26:=by omega
 iterate 26 (refine(Nat.lt_or_eq_of_le (Nat.le_of_lt_succ h)).elim (λh=> ?_) (λe=>e ▸ rfl))
 exact absurd h (fT _)
abbrev oI:En->R T:=zc li (vE 3) (za 3 lT (z9 (vE 1) (z9 (zc zn (zc zn (vE 2) (cE (.int 2))) (vE 0)) (z9 (cE (.int 26)) (zd)))))
theorem DG (ns:List Int)(k:Int)(f:0<=k)(j:Nat):∃c:Nat,(97<=c/\c<=122)/\oI [.vl (.int (j:Int)),.vl (lx ns),.vl (.int k),.vl (.str "abcdefghijklmnopqrstuvwxyz")]= .ok (.str ⟨#[c]⟩):=by
 obtain⟨p,e,a,d⟩:=zI ns (k+2+j) 26 (by omega) (by omega)
 refine⟨97+p.toNat,⟨by omega,by omega⟩, ?_⟩
 simp only[oI,ze,v3,kj,Z4,v1,v2,v0,zK,Z6,e];exact Dg p a d
theorem Yl (ns:List Int)(k:Int)(r:0<=k):∃w:Str,gN [lx ns,.int k]= .ok (.str w)/\Z0 (.str w)=true:=by
 have e:gN [lx ns,.int k]=zh (sT _ [.vl _,.vl _,.un]):=rfl;obtain⟨p,y,G,I⟩:=zI ns k 6 r (by omega)
 have f:∀t,([Sl.vl (lx ns),Sl.vl (.int k),.un]).set 2 _=[Sl.vl _,Sl.vl _,.vl t]:=λ_=>rfl;rw[e,sT];simp only[zz,Zk,ZD,zK,Ze,f,zA,Z4,v0,v1,kj,y,BY];cases hp:decide (p > 0) with
 | true=>
  obtain⟨q,l,v,B⟩:=zI ns (k+1) 4 (by omega) (by omega)
  simp only[if_true,zN,ZC,j9,ze,Z4,v0,v1,zK,kj,Z6,l];have i:q=0\/q=1\/q=2\/q=3:=by omega
  rcases i with rfl | rfl | rfl | rfl
  ·exact⟨"a",rfl,by decide⟩
  ·exact⟨"b",rfl,by decide⟩
  ·exact⟨"ab",rfl,by decide⟩
  ·exact⟨"cab",rfl,by decide⟩
 | false=>
  obtain⟨q,l,v,B⟩:=zI ns (k+1) 3 (by omega) (by omega)
  simp only[aB,if_false,lq,zN,ZJ,ZC,j9,Z5,zE];obtain⟨g,o⟩:=iQ.mp (DG ns k r);have x:zO (zc zn (cE (.int 1)) (za 3 lT (z9 (vE 0) (z9 (zc zn (vE 1) (cE (.int 1))) (z9 (cE (.int 3)) (zd)))))) [Sl.vl (lx ns),Sl.vl (.int k),.vl (.str "abcdefghijklmnopqrstuvwxyz")]= .ok (rng 0 (1+q).toNat):=by
   unfold zO;simp only[ze,Z4,v0,v1,zK,kj,Z6,l];rw[if_pos ⟨by omega,by omega⟩]
  have D:∀n,n<=3->zp _ _ _ 1 [0,1,2] [Sl.vl _,Sl.vl _,.vl _] _= .ok ((rng 0 n).map λt=>match t with | .int j=> .str ⟨#[g j.toNat]⟩ | t=>t):=λn hn=>
   zP _ (by unfold rng;rw[ah,bE];exact ay hn (by decide)) λt u=>by
    obtain⟨j,_,rfl⟩:=aE.mp u;rw[df];exact(o j).2
  rw[x,kj,D _ (by omega),kj]
  have d:∀j,Zi _=true:=λj=>by
   obtain⟨a,b⟩:=(o j).1;unfold Zi;rw[decide_eq_true a,decide_eq_true b];rfl
  have i:q=0\/q=1\/q=2:=by omega
  rcases i with rfl | rfl | rfl
  ·refine⟨⟨#[g 0]⟩,rfl, ?_⟩;show (Zi _ && true)=true;rw[d 0];rfl
  ·refine⟨⟨#[g 0,g 1]⟩,rfl, ?_⟩;show (Zi _ && (Zi _ && true))=true;rw[d 0,d 1];rfl
  ·refine⟨⟨#[g 0,g 1,g 2]⟩,rfl, ?_⟩;show (Zi _ && (Zi _ && (Zi _ && true)))=true;rw[d 0,d 1,d 2];rfl
theorem E8 (j:Int):zY (.int 5) (.int j)= .ok (.int (5*j)):=by
 show (if Ug 5 j then R.ok _ else .bad)=_
 rw[if_pos (.inl ⟨by decide,by decide⟩)]
theorem Ym (a:f ρ= .ok x)(d:g ρ= .ok y):zQ (z9 f (z9 g zd)) ρ= .ok (.tup [x,y]):=by
 unfold zQ z9 zd;rw[a,d];rfl
theorem pS (d:f ρ= .ok x)(e:g ρ= .ok y)(a:h ρ= .ok z):zQ (z9 f (z9 g (z9 h zd))) ρ= .ok (.tup [x,y,z]):=by
 unfold zQ z9 zd;rw[d,e,a];rfl
theorem Bs (d:f ρ= .ok x)(e:g ρ= .ok y)(a:h ρ= .ok z)(hi:i ρ= .ok w):zQ (z9 f (z9 g (z9 h (z9 i zd)))) ρ= .ok (.tup [x,y,z,w]):=by
 unfold zQ z9 zd;rw[d,e,a,hi];rfl
noncomputable def Dst (a:List Str):Prop:=∀(k:Nat) (w:Str),a[k]? =some w->w ∉ a.take k
theorem Dst.add (h:Dst ws)(f:w ∉ ws):Dst (ws++[w]):=λk x a=>by
 by_cases e:k < ws.length
 ·rw[aV e]at a;rw[List.take_append_of_le_length (by omega)]
  exact h k x a
 ·rw[aQ (by omega)]at a
  have d :k=ws.length:=by
   rcases Nat.lt_or_ge (k - ws.length) 1 with z | z
   ·omega
   ·rw[aY (by simpa using z)]at a;cases a
  subst d;rw[Nat.sub_self]at a;cases a;rw[List.take_left']
  ·exact f
  ·rfl
abbrev uW:En->RS:=zi (zr 5 (za 2 gN (z9 (vE 0) (z9 (zc zn (zc zn (vE 1) (cE (.int 5))) (zc zY (cE (.int 5)) (vE 4))) (zd)))))
  (lu (zk Wx (vB 5) (vB 3)) (uG 3 (vE 5)) (lq))
theorem wq (ns:List Int)(k:Int)(O:0<=k):∀(js:List Nat) (d:List Str) (o l:Sl),js.length+d.length<=4->Dst d->(∀w∈d,Z0 (.str w)=true)->
  ∃f u p,Zv (zq 4) uW (js.map λ(j:Nat)=>T.int (0+(j:Int))) [.vl (lx ns),.vl (.int k),.un,.ow (d.map T.str),o,l]= .nx [.vl (lx ns),.vl (.int k),.un,.ow (f.map T.str),u,p]/\f.length<=4/\Dst f /\(∀w∈f,Z0 (.str w)=true)/\(0 < js.length+d.length->0 < f.length)
 | [],d,o,l,M,hd,v=>⟨d,o,l,rfl,by simpa using M,hd,v,λh=>by simpa using h⟩
 | j :: js,d,o,l,M,hd,v=>by
  obtain⟨w,Z,I⟩:=Yl ns (k+5+5*(0+(j:Int))) (by omega)
  have X :js.length+d.length+1<=4:=by simpa[ar,Nat.add_right_comm] using M
  have e:Zv (zq 4) uW ((j :: js).map λ(j:Nat)=>T.int (0+(j:Int))) [.vl (lx ns),.vl (.int k),.un,.ow (d.map T.str),o,l]=match uW [.vl (lx ns),.vl (.int k),.un,.ow (d.map T.str),.vl (.int (0+(j:Int))),l] with
   | .nx g=>Zv (zq 4) uW (js.map λ(j:Nat)=>T.int (0+(j:Int))) g
   | .ct g=>Zv (zq 4) uW (js.map λ(j:Nat)=>T.int (0+(j:Int))) g
   | .bk g=> .nx g
   | r=>r:=rfl
  have S:uW [.vl (lx ns),.vl (.int k),.un,.ow (d.map T.str),.vl (.int (0+(j:Int))),l]= .nx [.vl (lx ns),.vl (.int k),.un,.ow ((if w∈d then d else d++[w]).map T.str),.vl (.int (0+(j:Int))),.vl (.str w)]:=by
   have G:∀(a b c:Sl) (ts:List T) (ρ:En),vB 3 (a :: b :: c :: .ow ts :: ρ)= .ok _:=λ_ _ _ _ _=>rfl;have q:∀t,([.vl _,.vl (.int k),.un,.ow (d.map T.str),.vl (.int (0+(j:Int))),l]:En).set 5 (.vl t)=[.vl (lx ns),.vl (.int k),.un,.ow (d.map T.str),.vl _,.vl t]:=λ_=>rfl;have P:Wx (.str w) (.lst (d.map T.str))= .ok (!decide (w∈d)):=by
    show ((match Ji (λy=>lw 30 y (.str w)) (d.map _) with | some b=>R.ok b | none=> .bad)).bind (λb=>R.ok _)=_
    rw[WQ];rfl
   simp only[uW,zz,ZD,zx,v0,v1,v4,ze,zK,kj,Z6,E8,Z,Ze,q,Zk,zA,w5,G,P]
   by_cases i:w∈d
   ·rw[decide_eq_true i,if_pos i];rfl
   ·rw[decide_eq_false i,if_neg i];have U:(d.map T.str).length < lB:=by rw[ah];exact bW (show d.length<=4 by omega) (by decide)
    show (if (d.map _).length < lB then RS.nx _ else .bad)=_
    rw[if_pos U,di];rfl
  rw[e,S]
  by_cases i:w∈d
  ·rw[if_pos i];obtain⟨f,u,p,J,N,D,K,B⟩:=wq ns k O js d _ _ (by omega) hd v
   exact⟨f,u,p,J,N,D,K,λ_=>B (by have:=List.length_pos_of_mem i;omega)⟩
  ·rw[if_neg i];obtain⟨f,u,p,J,N,D,K,B⟩:=wq ns k O js _ _ _ (by simp only[az,ar,bw];omega) (hd.add i) (λx Q=>by
    rcases bF.mp Q with z | z
    ·exact v x z
    ·rw[aH.mp z];exact I)
   exact⟨f,u,p,J,N,D,K,λ_=>B (by simp only[az,ar,bw];omega)⟩
abbrev rM:En->R T:=zQ (z9 (vE 1) (z9 (zc zn (cE (.int 1)) (za 3 lT (z9 (vE 2) (z9 (zc zn (zc zn (vE 3) (cE (.int 30))) (vE 0)) (z9 (cE (.int 20)) (zd)))))) (zd)))
theorem yl (ns:List Int)(k:Int)(q:0<=k):∀(a:List Str) (i:Nat) (f g:Sl),(∀w∈a,Z0 (.str w)=true)->∃d:List T,zy (zX 0 1) Z9 rM (((a.map T.str).zipIdx i).map λp=>T.tup [.int (p.2:Nat),p.1]) [f,g,.vl (lx ns),.vl (.int k)]= .ok d/\d.all zt=true/\d.map Zj=a
 | [],i,f,g,_=>⟨[],rfl,rfl,rfl⟩
 | w :: a,i,f,g,j=>by
  obtain⟨p,e,G,I⟩:=zI ns (k+30+i) 20 (by omega) (by omega)
  obtain⟨d,u,D,B⟩:=yl ns k q a _ _ _ λx y=>j x (ac _ y);have r:rM [.vl (.int (i)),.vl (.str w),.vl (lx ns),.vl (.int k)]= .ok (.tup [.str w,.int (1+p)]):=by
   have l:za 3 lT (z9 (vE 2) (z9 (zc zn (zc zn (vE 3) (cE (.int 30))) (vE 0)) (z9 (cE (.int 20)) (zd)))) [.vl (.int (i)),.vl (.str w),.vl (lx ns),.vl (.int k)]= .ok (.int p):=by
    simp only[Z4,v2,v3,v0,ze,zK,kj,Z6,e]
   have o:zc zn (cE (.int 1)) (za 3 lT (z9 (vE 2) (z9 (zc zn (zc zn (vE 3) (cE (.int 30))) (vE 0)) (z9 (cE (.int 20)) (zd))))) [.vl (.int (i)),.vl (.str w),.vl (lx ns),.vl (.int k)]= .ok (.int (1+p)):=by
    rw[ze,l];rfl
   exact Ym v1 o
  refine⟨.tup [.str w,.int (1+p)] :: d, ?_, ?_, ?_⟩
  ·show ((rM [.vl _,.vl _,.vl _,.vl _]).bind λv=>(zy _ _ _ (((a.map _).zipIdx _).map λp=>T.tup _) [.vl _,.vl _,.vl _,.vl _]).bind λJ=>R.ok _)=_;rw[r,u];rfl
  ·rw[b_,D,Bool.and_true];show (Z0 _ && decide _ && decide _)=true;rw[j w ag,decide_eq_true (by omega),decide_eq_true (by omega)];rfl
  ·rw[aF,B];rfl
theorem Xs (i j:Int):Y4 (.int i) (.int j)= .ok (.int (if j < i then j else i)):=rfl
theorem KL (ns:List Int)(k:Int)(D:0<=k):∃t,oX [lx ns,.int k]= .ok t/\∀d,md (d+1) t=true:=by
 have e:oX [lx ns,.int k]=zh (sP lT gN [.vl (lx ns),.vl (.int k),.un,.un,.un,.un]):=rfl;obtain⟨p,e0,p0,p1⟩:=zI ns k 3 D (by omega)
 rw[e,sP,zz];simp only[Zk,zA,Z4,v0,v1,zK,kj,e0,BY,Ze];cases hp:decide (p > 0) with
 | true=>
  obtain⟨q,B,q0,q1⟩:=zI ns (k+1) 7 (by omega) (by omega)
  obtain⟨S,e3,_,_⟩:=zI ns (k+3) 8 (by omega) (by omega)
  obtain⟨I,J,a4,b4⟩:=zI ns (k+4) 3 (by omega) (by omega)
  obtain⟨K,e2,a2,b2⟩:=zI ns (k+2) 4 (by omega) (by omega)
  have f:∀t x,([.vl (lx ns),.vl (.int k),x,.un,.un,.un]:En).set 2 (.vl t)=[.vl (lx ns),.vl (.int k),.vl t,.un,.un,.un]:=λ_ _=>rfl;have i:∀a:Int, -20<=a->a<=20->∃t,zh (zo (zQ (z9 (cE (.str "whole")) (z9 (vE 2) (z9 (zc Y4 (cE (.int 20)) (zc zn (vE 2) (za 3 lT (z9 (vE 0) (z9 (zc zn (vE 1) (cE (.int 2))) (z9 (cE (.int 4)) (zd))))))) (zd))))) [.vl (lx ns),.vl (.int k),.vl (.int a),.un,.un,.un])= .ok t/\∀d,md (d+1) t=true:=by
   intro a v Z;refine⟨.tup [.str "whole",.int a,.int (if a+K < 20 then a+K else 20)], ?_,λd=> ?_⟩
   ·rw[zN,ZJ];refine pS rfl rfl ?_;simp only[ZC,JK,j9,ze,v2,v0,v1,Z4,zK,kj,Z6,e2,Xs]
   ·show (decide (-20<=a) && decide (a<=_) && decide (_<=(20:Int)))=true;rw[decide_eq_true v,decide_eq_true (by split <;> omega),decide_eq_true (by split <;> omega)];rfl
  simp only[if_true,zz,ZD,Zk,ze,Z4,v0,v1,zK,kj,Z6,B,Zf,Ze,f,zA,e3,mD];cases hq:(S == 0) with
  | true=>
   have h3:I=0\/I=1\/I=2:=by omega
   rcases h3 with rfl | rfl | rfl
   ·obtain⟨t,r,s⟩:=i (-20) (by omega) (by omega)
    refine⟨t, ?_,s⟩;rw[← r];simp only[if_true,J,kj];have o:∀ρ,(Z7 (z9 (Wv (cE (.int 20))) (z9 (cE (.int 17)) (z9 (cE (.int 20)) (zd)))) ρ)= .ok (.lst [.int (-20),.int 17,.int 20]):=λ_=>rfl;simp only[o,kj];have l:li (.lst [.int (-20),.int 17,.int 20]) (.int 0)= .ok (.int (-20)):=rfl;simp only[l,Ze,f,zN];generalize zQ _ _=z;cases z <;> rfl
   ·obtain⟨t,r,s⟩:=i (17) (by omega) (by omega)
    refine⟨t, ?_,s⟩;rw[← r];simp only[if_true,J,kj];have o:∀ρ,(Z7 (z9 (Wv (cE (.int 20))) (z9 (cE (.int 17)) (z9 (cE (.int 20)) (zd)))) ρ)= .ok (.lst [.int (-20),.int 17,.int 20]):=λ_=>rfl;simp only[o,kj];have l:li (.lst [.int (-20),.int 17,.int 20]) (.int 1)= .ok (.int (17)):=rfl;simp only[l,Ze,f,zN];generalize zQ _ _=z;cases z <;> rfl
   ·obtain⟨t,r,s⟩:=i (20) (by omega) (by omega)
    refine⟨t, ?_,s⟩;rw[← r];simp only[if_true,J,kj];have o:∀ρ,(Z7 (z9 (Wv (cE (.int 20))) (z9 (cE (.int 17)) (z9 (cE (.int 20)) (zd)))) ρ)= .ok (.lst [.int (-20),.int 17,.int 20]):=λ_=>rfl;simp only[o,kj];have l:li (.lst [.int (-20),.int 17,.int 20]) (.int 2)= .ok (.int (20)):=rfl;simp only[l,Ze,f,zN];generalize zQ _ _=z;cases z <;> rfl
  | false=>
   obtain⟨t,r,s⟩:=i (q - 3) (by omega) (by omega)
   refine⟨t, ?_,s⟩;rw[← r];simp only[aB,if_false,lq,zN];generalize zQ _ _=z;cases z <;> rfl
 | false=>
  obtain⟨q,B,q0,q1⟩:=zI ns (k+1) 4 (by omega) (by omega)
  simp only[aB,if_false,lq,zz];have ei:zO (zc zn (cE (.int 1)) (za 3 lT (z9 (vE 0) (z9 (zc zn (vE 1) (cE (.int 1))) (z9 (cE (.int 4)) (zd)))))) [.vl (lx ns),.vl (.int k),.un,.ow [],.un,.un]= .ok (rng 0 (1+q).toNat):=by
   unfold zO;simp only[ze,Z4,v0,v1,zK,kj,Z6,B];rw[if_pos ⟨by omega,by omega⟩]
  have el:wR 3 zd [.vl (lx ns),.vl (.int k),.un,.un,.un,.un]= .nx [.vl (lx ns),.vl (.int k),.un,.ow [],.un,.un]:=rfl;rw[el];have hn:(aU (1+q).toNat).length=(1+q).toNat:=bE;obtain⟨j,G,y,r1,r2,U,r4,P⟩:=wq ns k D (aU (1+q).toNat) [] .un .un (by rw[hn,bw];omega) (λk w h=>by cases h) (λw h=>by cases h)
  have N:0 < j.length:=P (by rw[hn,bw];omega)
  have ef:j5 (zO (zc zn (cE (.int 1)) (za 3 lT (z9 (vE 0) (z9 (zc zn (vE 1) (cE (.int 1))) (z9 (cE (.int 4)) (zd))))))) (zq 4) uW [.vl (lx ns),.vl (.int k),.un,.ow [],.un,.un]= .nx [.vl (lx ns),.vl (.int k),.un,.ow (j.map T.str),G,y]:=by
   unfold j5;rw[ei,Ze];exact r1
  obtain⟨g,s1,Q,M⟩:=yl ns k D j 0 .un .un r4;have u:g.length=j.length:=by rw[← M,ah]
  refine⟨.tup [.str "pick",.tup g], ?_,λd=> ?_⟩
  ·dsimp only;rw[ef];dsimp only;rw[zN,ZJ];refine Ym rfl ?_;rw[Z5,zE];have O:Y8 (vE 3) (frz [.vl (lx ns),.vl (.int k),.un,.ow (j.map T.str),G,y])= .ok (jb (j.map T.str)):=rfl;rw[O,kj];unfold zp;rw[if_pos (by unfold jb;rw[ah,eY,ah];exact ay r2 (by decide))]
   have X:zy (zX 0 1) Z9 rM (jb (j.map T.str)) (jQ 2 [0,1] (frz [.vl (lx ns),.vl (.int k),.un,.ow (j.map T.str),G,y]))= .ok g:=s1;rw[X];rfl
  ·show (decide (1<=g.length) && decide (g.length<=4) && g.all zt && decide ((dd [] (g.map Zj)).length=g.length))=true;have hd:(dd [] (g.map Zj)).length=g.length:=by
    rw[M,u];have:=(wo j []).mpr (λk w h=>by simpa using U k w h)
    simpa using this
   rw[decide_eq_true (by omega),decide_eq_true (by omega),Q,decide_eq_true hd];rfl
theorem Qo (c:Int)(j:Int)(a:Ug c j):zY (.int c) (.int j)= .ok (.int (c*j)):=by
 show (if Ug c j then R.ok _ else .bad)=_
 rw[if_pos a]
theorem BZ (j:Int):zY (.int 3) (.int j)= .ok (.int (3*j)):=Qo _ _ (.inl ⟨by decide,by decide⟩)
theorem Di (j:Int):zY (.int 50) (.int j)= .ok (.int (50*j)):=Qo _ _ (.inl ⟨by decide,by decide⟩)
abbrev sD (c:List T->R T):En->R T:=za 3 c (z9 (vE 1) (z9 (zc zn (zc zn (zc zY (cE (.int 3)) (vE 2)) (cE (.int 40))) (zc zY (cE (.int 50)) (vE 0))) (z9 (zc jg (vE 3) (cE (.int 1))) (zd))))
theorem UA (ns:List Int):∀(d n:Nat),d<=n->1<=d->∀k:Int,0<=k->∃t,nq n 0 [lx ns,.int k,.int (d:Int)]= .ok t/\md d t=true
 | d+1,n+1,hn,_,k,X=>by
  have e:nq (n+1) 0 [lx ns,.int k,.int ((d+1:Nat))]=zh (sI lT oX (nq n 0) [.vl (lx ns),.vl (.int k),.vl _,.un,.un,.un]):=rfl;obtain⟨p,e0,p0,p1⟩:=zI ns k 5 X (by omega)
  obtain⟨l,S,hl⟩:=KL ns (k+1) (by omega)
  have o:([.vl (lx ns),.vl (.int k),.vl (.int ((d+1:Nat))),.un,.un,.un]:En).set 3 (.vl (.int p))=[.vl (lx ns),.vl (.int k),.vl _,.vl (.int p),.un,.un]:=rfl;rw[e,sI];simp only[zz,ZD,Zk,Ux,zA,Z4,zx,v0,v1,v2,zK,kj,e0,Ze,o,w2,w3,mD,pr,Z6,zN,ZC,JK,j9,ze,S];have B:((((d+1:Nat):Int) == 1))=decide (d=0):=by
   by_cases h:d=0
   ·subst h;rfl
   ·rw[decide_eq_false h,beq_eq_false_iff_ne];omega
  rw[B]
  by_cases f:d=0\/p < 2
  ·refine⟨l, ?_,hl d⟩;rcases f with h | h
   ·rw[decide_eq_true h];rfl
   ·rw[decide_eq_true h];cases decide (d=0) <;> rfl
  ·have J:¬ d=0:=λz=>f (.inl z);have D:¬ p < 2:=λz=>f (.inr z);have i:((d+1:Nat)) - 1=(d:Int):=by omega
   rw[decide_eq_false J,decide_eq_false D];simp only[aB,if_false,Ze,lq,w3,v0,v1,v2,kj,pr,zK];cases hp:decide (p < 4) with
   | true=>
    obtain⟨q,I,Z,q1⟩:=zI ns (k+1) 3 (by omega) (by omega)
    have hj:∀j:Nat,∃t,sD (nq n 0) [.vl (.int (0+(j:Int))),.vl (lx ns),.vl (.int k),.vl (.int ((d+1:Nat)))]= .ok t/\md d t=true:=λj=>by
     obtain⟨t,r,s⟩:=UA ns d n (by omega) (by omega) (3*k+40+50*(0+(j:Int))) (by omega)
     refine⟨t, ?_,s⟩;simp only[sD,Z4,v0,v1,v2,v3,ze,zK,kj,BZ,Di,Z6,Zf,i,r]
    obtain⟨g,O⟩:=iQ.mp hj;have ei:zO (zc zn (cE (.int 1)) (za 3 lT (z9 (vE 0) (z9 (zc zn (vE 1) (cE (.int 1))) (z9 (cE (.int 3)) (zd)))))) [.vl (lx ns),.vl (.int k),.vl (.int ((d+1:Nat))),.vl (.int p),.un,.un]= .ok (rng 0 (1+q).toNat):=by
     unfold zO;simp only[ze,Z4,v0,v1,zK,kj,Z6,I];rw[if_pos ⟨by omega,by omega⟩]
    have N:zp (zq 0) Z9 (sD (nq n 0)) 1 [0,1,2] [.vl (lx ns),.vl (.int k),.vl _,.vl (.int p),.un,.un] _= .ok ((rng 0 (1+q).toNat).map λt=>match t with | .int j=>g j.toNat | t=>t):=
     zP _ (by unfold rng;rw[ah,bE];exact ay (show (1+q).toNat<=3 by omega) (by decide)) λt x=>by
      obtain⟨j,_,rfl⟩:=aE.mp x;show sD (nq n 0) [.vl _,.vl (lx ns),.vl (.int k),.vl _]= .ok (g _);rw[(O j).1,df,a_]
    generalize w:((rng 0 (1+q).toNat).map λt=>match t with | .int j=>g j.toNat | t=>t)=cs at N
    have M:cs.length=(1+q).toNat:=by rw[← w];unfold rng;rw[ah,ah,bE]
    have v:∀t∈cs,md d t=true:=λt x=>by
     rw[← w]at x;obtain⟨u,P,rfl⟩:=aE.mp x;obtain⟨j,_,rfl⟩:=aE.mp P;exact(O _).2
    refine⟨.tup [.str "row",.tup cs], ?_, ?_⟩
    ·have G:([.vl (lx ns),.vl (.int k),.vl (.int ((d+1:Nat))),.vl (.int p),.un,.un]:En).set 4 (.vl (.lst cs))=[.vl (lx ns),.vl (.int k),.vl _,.vl (.int p),.vl (.lst cs),.un]:=rfl;simp only[if_true,zE,ei,kj,N,Ze,G,ZC,JK,j9];rfl
    ·show (decide _ && decide _ && cs.all _)=true;rw[decide_eq_true (by omega),decide_eq_true (by omega),aO.mpr v];rfl
   | false=>
    obtain⟨q,I,Z,q1⟩:=zI ns (k+1) 3 (by omega) (by omega)
    obtain⟨K,U,_,_⟩:=zI ns (k+2) 3 (by omega) (by omega)
    obtain⟨t,r,s⟩:=UA ns d n (by omega) (by omega) (3*k+40) (by omega)
    refine⟨.tup [.str "many",t,.int q,.int (if q+K < 3 then q+K else 3)], ?_, ?_⟩
    ·have y:([.vl (lx ns),.vl (.int k),.vl (.int ((d+1:Nat))),.vl (.int p),.un,.un]:En).set 5 (.vl (.int q))=[.vl _,.vl _,.vl _,.vl _,.un,.vl _]:=rfl;simp only[aB,if_false,v0,v1,ze,zK,kj,Z6,I,Ze,y,ZC,JK,j9,ZJ];refine Bs rfl ?_ rfl ?_
     ·simp only[Z4,v0,v1,v2,ze,zK,kj,BZ,Z6,Zf,i,r]
     ·have Q:∀{t:T} {a b c d e:Sl} {ρ:En},vE 5 (a :: b :: c :: d :: e :: .vl t :: ρ)= .ok t:=rfl;simp only[Z4,v0,v1,Q,ze,zK,kj,Z6,U,Xs]
    ·show (jr 0 3 _ _ && md d t)=true;rw[s,Bool.and_true];show (decide _ && decide _ && decide _)=true;rw[decide_eq_true (by omega),decide_eq_true (by split <;> omega),decide_eq_true (by split <;> omega)];rfl
mutual
noncomputable def lW:T->Nat
 | .tup xs=>jI xs+1
 | .lst xs=>jI xs+1
 | _=>1
noncomputable def jI:List T->Nat
 | []=>0
 | t :: ts=>max (lW t) (jI ts)
end
mutual
noncomputable def lL:T->Nat
 | .tup xs=>jl xs+1
 | .lst xs=>jl xs+1
 | _=>1
noncomputable def jl:List T->Nat
 | []=>0
 | t :: ts=>lL t+jl ts
end
theorem JC (h:isS w t=true):t= .str w:=by
 cases t with
 | str s=>
  have:=h;rw[eq_of_beq this]
 | _=>cases h
theorem WS (h:mW lo hi t=true):∃i,t= .int i:=by
 cases t with
 | int i=>exact⟨i,rfl⟩
 | _=>cases h
theorem JO (h:jr lo hi a b=true):∃i j,a= .int i/\b= .int j:=by
 cases a with
 | int i=>
  cases b with
  | int j=>exact⟨i,j,rfl,rfl⟩
  | _=>cases h
 | _=>cases h
structure lZ (D S:Nat) (t:T):Prop where
 so:sOk t
 dp:lW t<=D
 sz:lL t<=S
theorem Yn (h:zt c=true):lZ 2 3 c:=by
 unfold zt at h;split at h
 ·rename_i w i;have a:=by
   rw[ae,ae]at h;exact h.1.1
  cases w with
  | str x=>
   have d:(decide _ && decide _ && x.cps.toList.all _)=true:=a;rw[ae,ae,decide_eq_true_eq,decide_eq_true_eq]at d;refine⟨?_, ?_, ?_⟩
   ·simp only[sOk,jJ,and_true];exact ay d.1.2 (by decide)
   ·simp[lW,jI]
   ·simp[lL,jl]
  | _=>cases a
 ·cases h
theorem rS {D S:Nat}:∀{e:List T},(∀c∈e,lZ D S c)->jJ e/\jI e<=D/\jl e<=S*e.length
 | [],_=>⟨by simp only[jJ],bn _,bn _⟩
 | c :: e,h=>by
  obtain⟨a,b,d⟩:=rS λx f=>h x (ac _ f);obtain⟨x,y,z⟩:=h c ag;refine⟨?_, ?_, ?_⟩
  ·exact⟨x,a⟩
  ·simp only[jI];omega
  ·simp only[jl,ar,Nat.mul_add,Nat.mul_one];omega
theorem Jc:∀(d:Nat) (t:T),md d t=true->lZ (2*d+2) (15*4 ^ d) t
 | 0,_,h=>by cases h
 | d+1,t,h=>by
  have g:1<=4 ^ d:=hV (by omega)
  have h:WO _ t=true:=h;unfold WO at h;split at h
  ·rename_i hd r;split at h
   ·rename_i e;rw[JC e];unfold JB at h;split at h
    ·obtain⟨i,j,rfl,rfl⟩:=JO h;refine⟨by simp only[sOk,jJ,and_true];decide,by simp only[lW,jI];omega,by simp only[lL,jl];omega⟩
    ·cases h
   ·split at h
    ·rename_i e;rw[JC e];unfold uS at h;split at h
     ·unfold uR at h;split at h
      ·rw[ae,ae,ae,decide_eq_true_eq,decide_eq_true_eq]at h;obtain⟨a,b,z⟩:=rS λc f=>Yn (aO.mp h.1.2 c f);refine⟨by simp only[sOk,jJ,and_true];exact⟨by decide,a⟩,by simp only[lW,jI];omega,by simp only[lL,jl];omega⟩
      ·cases h
     ·cases h
    ·split at h
     ·rename_i e;rw[JC e];unfold Xq at h;split at h
      ·unfold wm at h;split at h
       ·rename_i k;rw[ae,ae,decide_eq_true_eq,decide_eq_true_eq]at h;obtain⟨a,b,z⟩:=rS λc f=>Jc d c (aO.mp h.2 c f);have:15*4 ^ d*k.length<=15*4 ^ d*3:=i6 _ h.1.2;refine⟨by simp only[sOk,jJ,and_true];exact⟨by decide,a⟩,by simp only[lW,jI];omega,by simp only[lL,jl];omega⟩
       ·cases h
      ·cases h
     ·split at h
      ·rename_i e;rw[JC e];unfold uT at h;split at h
       ·rename_i c a b;rw[ae]at h;obtain⟨i,j,rfl,rfl⟩:=JO h.1;obtain⟨x,y,z⟩:=Jc d c h.2;refine⟨by simp only[sOk,jJ,and_true];exact⟨by decide,x⟩,by simp only[lW,jI];omega,by simp only[lL,jl];omega⟩
       ·cases h
      ·cases h
  ·cases h
noncomputable def uq:T->List Nat->Option T
 | t,[]=>some t
 | .tup xs,i :: r=>match xs[i]? with | some x=>uq x r | none=>none
 | _,_ :: _=>none
noncomputable abbrev lG (p:List Nat):T:= .tup (p.map λ(i:Nat)=>T.int (i:Int))
abbrev Xt (c:List T->R T):En->RS:=Y5 1 (zv (Zg (za 1 c (z9 (zc li (vE 0) (vE 2)) (zd)))) (zq 0) (Z9) (zc zn (zQ (z9 (vE 1) (zd))) (vE 0)) 1 [2])
def Yo (xs:List T)(j:Nat):Nat:=match xs[j]? with | some x=>lL x | none=>0
theorem UB:∀xs:List T,((aU xs.length).map (Yo xs)).sum=jl xs
 | []=>rfl
 | x :: xs=>by
  rw[ar,cA,aF,cD,bi];show lL x+((aU xs.length).map (Yo xs)).sum=lL x+jl xs;rw[UB xs]
theorem WT:∀{xs:List T} {x:T},x∈xs->lL x<=jl xs
 | y :: ys,x,h=>by
  simp only[jl];rcases aq.mp h with rfl | h
  ·omega
  ·have:=WT h;omega
theorem UC (t:T):1<=lL t:=by cases t <;> simp[lL]
theorem ym:∀{t u:T} (p:List Nat),uq t p=some u->p.length < lL t
 | t,_,[],_=>UC t
 | .tup xs,u,i :: r,h=>by
  have h:(match xs[i]? with | some x=>uq x r | none=>none)=some u:=h
  cases d:xs[i]? with
  | none=>rw[d]at h;cases h
  | some x=>
   rw[d]at h;have a:=ym r h;have b:=WT (bc d);simp only[lL,ar];omega
 | .non,_,_ :: _,h=>by cases h
 | .bl _,_,_ :: _,h=>by cases h
 | .int _,_,_ :: _,h=>by cases h
 | .str _,_,_ :: _,h=>by cases h
 | .lst _,_,_ :: _,h=>by cases h
 | .fz _,_,_ :: _,h=>by cases h
theorem AX (a:f ρ= .ok x):zQ (z9 f zd) ρ= .ok (.tup [x]):=by
 unfold zQ z9 zd;rw[a];rfl
theorem yn (H:∀x∈xs,∃f:List (List Nat),c [x]= .ok (.lst (f.map lG))/\f.length<=lL x/\∀p∈f,∃u,uq x p=some u):
  ∀(js:List Nat),(∀j∈js,j < xs.length)->∀(acc:List (List Nat)) (k:Sl),(∀p∈acc,∃u,uq (.tup xs) p=some u)->acc.length+(js.map (Yo xs)).sum<=lB->
  ∃(a :List (List Nat)) (w:Sl),Zv (zq 2) (Xt c) (js.map λ(j:Nat)=>T.int (0+(j:Int))) [.vl (.tup xs),.ow (acc.map lG),k]= .nx [.vl (.tup xs),.ow (a.map lG),w]/\acc.length<=a.length/\a.length<=acc.length+(js.map (Yo xs)).sum/\∀p∈a,∃u,uq (.tup xs) p=some u
 | [],_,acc,k,o,D=>⟨acc,k,rfl,ao _,by simp,o⟩
 | j :: js,B,acc,k,o,D=>by
  have g:j < xs.length:=B j ag;have v:xs[j]? =some xs[j]:=ak g;obtain⟨f,K,e2,y⟩:=H xs[j] (iR g);have hsz:Yo xs j=lL xs[j]:=by unfold Yo;rw[v]
  rw[aF,cD,hsz]at D;have e:Zv (zq 2) (Xt c) ((j :: js).map λ(j:Nat)=>T.int (0+(j:Int))) [.vl (.tup xs),.ow (acc.map lG),k]=match Xt c [.vl (.tup xs),.ow (acc.map lG),.vl (.int (0+(j:Int)))] with
   | .nx d=>Zv (zq 2) (Xt c) (js.map λ(j:Nat)=>T.int (0+(j:Int))) d
   | .ct d=>Zv (zq 2) (Xt c) (js.map λ(j:Nat)=>T.int (0+(j:Int))) d
   | .bk d=> .nx d
   | r=>r:=rfl
  have O:Xt c [.vl (.tup xs),.ow (acc.map lG),.vl (.int (0+(j:Int)))]= .nx [.vl (.tup xs),.ow ((acc++f.map (j :: ·)).map lG),.vl (.int (0+(j:Int)))]:=by
   have ex:li (.tup xs) (.int (0+(j:Int)))= .ok xs[j]:=by
    rw[df];show lI xs j=_;unfold lI;rw[Zu v]
   have Q:Zg (za 1 c (z9 (zc li (vE 0) (vE 2)) (zd))) [.vl (.tup xs),.ow (acc.map lG),.vl (.int (0+(j:Int)))]= .ok (f.map lG):=by
    simp only[Zt,zF,ze,v0,v2,kj,ex,K];rfl
   have N:zp (zq 0) Z9 (zc zn (zQ (z9 (vE 1) (zd))) (vE 0)) 1 [2] [.vl (.tup xs),.ow (acc.map lG),.vl (.int (0+(j:Int)))] (f.map lG)= .ok ((f.map lG).map λt=>match t with | .tup q=> .tup (.int (0+(j:Int)) :: q) | t=>t):=
    zP _ (by rw[ah];omega) λt I=>by
     obtain⟨p,hp,rfl⟩:=aE.mp I;show zc zn (zQ (z9 (vE 1) (zd))) (vE 0) [.vl (lG p),.vl (.int (0+(j:Int)))]=_;rw[ze,AX v1,kj,v0,kj];obtain⟨u,l⟩:=y p hp;have G:=ym p l;show (if [T.int (0+(j:Int))].length+(p.map λ(i:Nat)=>T.int (i:Int)).length<=lB then R.ok (T.tup _) else .bad)=_
     rw[if_pos (by rw[ah,aC];omega)]
     rfl
   show ((zv _ _ _ _ _ _ _).s λt=>match t with | .lst P=>if (acc.map lG).length+P.length<=lB then RS.nx _ else .bad | _=> .bad)=_
   rw[zE,Q,kj,N,kj,Ze];show (if _ then _ else _)=_
   rw[if_pos (by simp only[ah];omega)]
   rw[di,bi,bi];show RS.nx [.vl (.tup xs),.ow (acc.map lG++_),.vl (.int (0+(j:Int)))]=_;have Z:List.map ((λt=>match t with | .tup q=>T.tup (.int (0+(j:Int)) :: q) | t=>t) ∘ lG) f=List.map (lG ∘ λx=>j :: x) f:=by
    refine bO λp _=> ?_;show T.tup (T.int (0+(j:Int)) :: _)=T.tup (T.int (j:Int) :: _);rw[df]
   rw[← Z]
  rw[e,O];obtain⟨a,w,S,X,M,U⟩:=yn H js (λi hi=>B i (ac _ hi)) (acc++f.map (j :: ·)) (.vl (.int (0+(j:Int)))) (λp hp=>by
   rcases bF.mp hp with z | z
   ·exact o p z
   ·obtain⟨q,J,rfl⟩:=aE.mp z;obtain⟨u,l⟩:=y q J;refine⟨u, ?_⟩;show (match xs[j]? with | some x=>uq x q | none=>none)=some u
    rw[v];exact l) (by rw[az,ah];omega)
  rw[az,ah]at X M;refine⟨a,w,S,by omega, ?_,U⟩
  rw[aF,cD,hsz];omega
theorem Qp:∀{xs:List T} {x:T},x∈xs->lW x<=jI xs
 | y :: ys,x,h=>by
  simp only[jI];rcases aq.mp h with rfl | h
  ·omega
  ·have:=Qp h;omega
noncomputable def lim:Nat:=900000
theorem UD:lim+lim+lim+10<=lB:=by decide
theorem KM:(lim:Int)+10 < 1000000:=by decide
abbrev Yp (c:List T->R T)(t:T):Prop:=∃ps:List (List Nat),c [t]= .ok (.lst (ps.map lG))/\0 < ps.length/\ps.length<=lL t/\∀p∈ps,∃u,uq t p=some u
theorem JP:∀xs:List T,xs.length<=jl xs
 | []=>bn _
 | x :: xs=>by
  have:=UC x;have:=JP xs;simp only[jl,ar];omega
theorem Ex (h:(xs.length:Int) < 1000000):zO (lj zM (vB 0)) [.vl (.tup xs),a,b]= .ok (rng 0 xs.length):=by
 unfold zO;rw[Z5,w0,kj,Zw,kj];dsimp only;rw[if_pos ⟨by omega,by omega⟩,a_]
theorem Qq (t:T)(a:List (List Nat))(y:Sl):zh (zo (vE 1) [.vl t,.ow (a.map lG),y])= .ok (.lst (a.map lG)):=rfl
theorem Xu (t:T):zh (og c (lm 3 [t]))=zh (match (nJ (.bl (mH "tuple" t))).s λk=>if k=true then j5 (zO (lj zM (vB 0))) (zq 2) (Xt c) [.vl t,.ow [.tup []],.un] else lq [.vl t,.ow [.tup []],.un] with | .nx ρ=>zo (vE 1) ρ | r=>r):=by
 rw[og,zz];rfl
theorem Yq (xs:List T)(r:jl xs+1<=lim)(H:∀x∈xs,Yp c x):Yp (λts=>zh (og c (lm 3 ts))) (.tup xs):=by
 have q:=UD;have v:=KM;have H:∀x∈xs,∃a:List _,c [x]= .ok _/\a.length<=lL x/\∀p∈a,∃u,uq x p=some u:=λx o=>by
  obtain⟨a,e,i,f,d⟩:=H x o;exact⟨a,e,f,d⟩
 have g:=JP xs;obtain⟨acc,y,e,i,f,d⟩:=yn H _ (λj k=>aS.mp k) [[]] .un (λp hp=>by
  rw[aH.mp hp];exact⟨_,rfl⟩) (by rw[UB,aC];omega)
 rw[UB,aC]at f;rw[aC]at i;refine⟨acc, ?_,by omega,by simp only[lL];omega,d⟩
 have l:j5 (zO (lj zM (vB 0))) (zq 2) (Xt c) [.vl (.tup xs),.ow [.tup []],.un]= .nx [.vl (.tup xs),.ow (acc.map lG),y]:=by
  unfold j5;rw[Ex (by omega)]
  exact e
 dsimp only;rw[Xu,l];exact Qq _ acc y
theorem Yr (t:T)(a:∀xs,t ≠ .tup xs):Yp (λts=>zh (og c (lm 3 ts))) t:=by
 have e:mH "tuple" t=false:=by
  cases t with
  | tup xs=>exact(a xs rfl).elim
  | _=>rfl
 refine⟨[[]], ?_,by decide,UC t,λp hp=> ?_⟩
 ·dsimp only;rw[Xu,e,Zs,Ze];exact Qq t [[]] .un
 rw[aH.mp hp];exact⟨t,by cases t <;> rfl⟩
theorem UE {c:List T->R T}(t:T)(d:lL t<=lim)(H:∀xs,t= .tup xs->∀x∈xs,Yp c x):Yp (λts=>zh (og c (lm 3 ts))) t:=by
 by_cases a:∃xs,t= .tup xs
 ·obtain⟨xs,rfl⟩:=a;exact Yq xs d (H xs rfl)
 ·exact Yr t λxs z=>a ⟨xs,z⟩
theorem Qr (n:Nat):∀(t:T),lW t<=n->lL t<=lim->Yp (ro n 0) t:=by
 induction n with
 | zero=>intro t h;cases t <;> simp[lW]at h
 | succ n g=>
  intro t h d;exact UE t d λxs e x f=>by
   subst e;simp only[lW,lL]at h d;have a:=Qp f;have b:=WT f;exact g x (by omega) (by omega)
theorem Qs {xs:List T}{j:Nat}{x:T}(h:xs[j]? =some x):li (.tup xs) (.int (j:Int))= .ok x:=by
 show lI xs j=_;unfold lI;rw[Zu h]
theorem wu {r:List Nat}(h:uq (.tup xs) (i :: r)=some u):∃x,xs[i]? =some x/\uq x r=some u:=by
 have h:(match xs[i]? with | some x=>uq x r | none=>none)=some u:=h
 cases a:xs[i]? with
 | none=>rw[a]at h;cases h
 | some x=>rw[a]at h;exact⟨x,rfl,h⟩
theorem WU {r:List Nat}(h:uq t (i :: r)=some u):∃xs,t= .tup xs:=by
 cases t with
 | tup xs=>exact⟨xs,rfl⟩
 | _=>cases h
theorem xa (t:T):uq t []=some t:=by cases t <;> rfl
theorem Qt {X:Sl}:∀(p:List Nat) (t u:T) (y:Sl),uq t p=some u->∃d,Zv (zq 2) (zr 0 (zc li (vE 0) (vE 2))) (p.map λ(i:Nat)=>T.int (i:Int)) [.vl t,X,y]= .nx [.vl u,X,d]
 | [],t,u,y,h=>by
  cases h;exact⟨y,rfl⟩
 | i :: r,t,u,y,h=>by
  obtain⟨xs,rfl⟩:=WU h;obtain⟨x,f,hr⟩:=wu h;obtain⟨d,e⟩:=Qt r x u _ hr;refine⟨d, ?_⟩;have g:Zv (zq 2) (zr 0 (zc li (vE 0) (vE 2))) ((i :: r).map λ(i:Nat)=>T.int (i)) [.vl (.tup xs),X,y]=match zr 0 _ [.vl _,X,.vl _] with
   | .nx a=>Zv _ _ (r.map λ(j:Nat)=>T.int (j)) a
   | .ct a=>Zv _ _ (r.map λ(j:Nat)=>T.int (j)) a
   | .bk a=> .nx a
   | r=>r:=rfl
  rw[g,ZD,ze,v0,kj,v2,kj,Qs f];exact e
theorem Ee {p:List Nat}(h:uq t p=some u):gR [t,lG p]= .ok u:=by
 obtain⟨f,e⟩:=Qt p t u .un h;have a:gR [t,lG p]=zh (rj [.vl t,.vl _,.un]):=rfl;have d:j5 (Zg (vE 1)) _ _ [.vl t,.vl (lG p),.un]= .nx _:=e;rw[a,rj,zz,d];rfl
noncomputable def UF:T->List Nat->T->T
 | _,[],v=>v
 | .tup xs,i :: r,v=>match xs[i]? with
  | some x=> .tup (xs.take i++[UF x r v]++xs.drop (i+1))
  | none=> .tup xs
 | t,_ :: _,_=>t
theorem uX {xs:List T}{i:Nat}(h:i < xs.length):na (.tup xs) none (some (i:Int))= .ok (.tup (xs.take i)):=by
 show R.ok _=_;have:mn xs none (some (i))=xs.take i:=by
  unfold mn;rw[HT.sIx_none,HT.sIx_nat,dj (by omega),iB,cI]
 rw[this]
theorem uY {xs:List T}{i:Nat}(h:i<=xs.length):na (.tup xs) (some (i:Int)) none= .ok (.tup (xs.drop i)):=by
 show R.ok _=_;have:mn xs (some (i)) none=xs.drop i:=by
  unfold mn;rw[HT.sIx_none,HT.sIx_nat,dj h];exact dY (by rw[ce];omega)
 rw[this]
theorem xf {xs:List T}{i j:Nat}(hi:i<=xs.length)(a:j<=xs.length):na (.tup xs) (some (i:Int)) (some (j:Int))= .ok (.tup ((xs.drop i).take (j - i))):=by
 show R.ok _=_;have:mn xs (some (i)) (some (j))=(xs.drop i).take (j - i):=by
  unfold mn;rw[HT.sIx_nat,HT.sIx_nat,dj hi,dj a]
 rw[this]
theorem Jd (h:xs.length+ys.length<=lB):zn (.tup xs) (.tup ys)= .ok (.tup (xs++ys)):=if_pos h
theorem ji (h:f ρ= .ok (.int i)):zJ f ρ= .ok (some i):=by
 unfold zJ;rw[h];rfl
theorem xg {c:List T->R T}{xs:List T}{i:Nat}{r:List Nat}{v x w:T}(a:xs[i]? =some x)(q:xs.length<=lim)(j:c [x,lG r,v]= .ok w):
  zh (oH c (lm 4 [.tup xs,lG (i :: r),v]))= .ok (.tup (xs.take i++[w]++xs.drop (i+1))):=by
 have hi:=(au.mp a).1;have p:=UD;have e:zh (oH c (lm 4 [.tup xs,lG (i :: r),v]))=zh (oH c [.vl _,.vl _,.vl v,.un]):=rfl;have l:zk ll (vB 1) (zQ zd) [.vl (.tup xs),.vl (lG (i :: r)),.vl v,.un]= .ok _:=rfl;have k:zr 3 (zc li (vE 1) (cE (.int 0))) [.vl (.tup xs),.vl (lG (i :: r)),.vl v,.un]= .nx [.vl (.tup xs),.vl (lG (i :: r)),.vl v,.vl (.int (i))]:=by
  rw[ZD,ze,v1,kj,zK,kj,show li (lG (i :: r)) _= .ok _ from mo];rfl
 rw[e,oH,zz,Zk,l,Ze,if_neg aA];unfold lq;dsimp only;rw[zz,k];dsimp only;rw[zN,ZC,ZC,ZC,ZC,j9,ZJ];have d:lK (vE 1) (zJ (cE (.int 1))) lM [.vl (.tup xs),.vl (lG (i :: r)),.vl v,.vl (.int (i))]= .ok (lG r):=by
  exact rc
 have o:za 3 c (z9 (zc li (vE 0) (vE 3)) (z9 (lK (vE 1) (zJ (cE (.int 1))) (lM)) (z9 (vE 2) (zd)))) [.vl (.tup xs),.vl (lG (i :: r)),.vl v,.vl (.int (i))]= .ok w:=by
  rw[Z4,ze,v0,kj,v3,kj,Qs a,kj,d,kj,v2,kj,j]
 have f:zn (.int (i)) (.int 1)= .ok (.int ((i+1:Nat))):=by
  rfl
 have g:zc zn (vE 3) (cE (.int 1)) [.vl (.tup xs),.vl (lG (i :: r)),.vl v,.vl (.int (i))]= .ok (.int ((i+1:Nat))):=by
  rw[ze,v3,kj,zK,kj,f]
 rw[ze,ze,JL,v0,kj,Ql,kj,ji v3,kj,uX hi,kj,AX o,kj,Jd (by rw[bX,aC];omega),kj,JL,v0,kj,ji g,kj,Ql,kj,uY (by omega)]
 exact Jd (by rw[az,bX,aC,ce];omega)
theorem DY (n:Nat):∀(p:List Nat) (t u v:T),p.length < n->lL t<=lim->uq t p=some u->rV n 0 [t,lG p,v]= .ok (UF t p v):=by
 induction n with
 | zero=>omega
 | succ n j=>
  intro p t u v h g d;cases p with
  | nil=>
   rfl
  | cons i r=>
   obtain⟨xs,rfl⟩:=WU d;obtain⟨x,a,hr⟩:=wu d;simp only[lL]at g;have l:=JP xs;have k:=WT (bc a);rw[ar]at h;have f:=j r x u v (by omega) (by omega) hr
   have:=xg a (by omega) f
   have e:UF (.tup xs) (i :: r) v= .tup (xs.take i++[UF x r v]++xs.drop (i+1)):=by
    show (match xs[i]? with | some x=>T.tup _ | none=> .tup xs)=_
    rw[a]
   rw[e];exact this
theorem jB:∀(xs ys:List T),jl (xs++ys)=jl xs+jl ys
 | [],ys=>by simp[jl]
 | x :: xs,ys=>by simp only[cF,jl,jB xs ys];omega
theorem jC:∀(xs ys:List T),jI (xs++ys)=max (jI xs) (jI ys)
 | [],ys=>by simp[jI]
 | x :: xs,ys=>by simp only[cF,jI,jC xs ys];omega
theorem jD:∀{xs ys:List T},jJ (xs++ys)↔jJ xs/\jJ ys
 | [],ys=>by simp[jJ]
 | x :: xs,ys=>by simp only[cF,jJ,jD (xs:=xs) (ys:=ys),and_assoc]
theorem xh (h:xs[i]? =some x):xs=xs.take i++([x]++xs.drop (i+1)):=by
 obtain⟨hi,rfl⟩:=au.mp h;rw[List.singleton_append,← cb,List.take_append_drop]
theorem wv {xs:List T}{i:Nat}{x:T}(h:xs[i]? =some x):(jJ xs->jJ (xs.take i)/\sOk x/\jJ (xs.drop (i+1)))/\jI (xs.take i)<=jI xs/\lW x<=jI xs/\jI (xs.drop (i+1))<=jI xs/\jl (xs.take i)+lL x+jl (xs.drop (i+1))=jl xs:=by
 have e:=xh h;have f:jJ xs↔jJ (xs.take i)/\jJ [x]/\jJ (xs.drop (i+1)):=by
  conv=>lhs;rw[e,jD,jD]
 have d:jI xs=max (jI (xs.take i)) (max (jI [x]) (jI (xs.drop (i+1)))):=by
  conv=>lhs;rw[e,jC,jC]
 have a:jl xs=jl (xs.take i)+(jl [x]+jl (xs.drop (i+1))):=by
  conv=>lhs;rw[e,jB,jB]
 simp only[jI,jl,d_,Nat.max_zero]at d a;refine⟨λq=> ?_,by omega,by omega,by omega,by omega⟩
 have:=f.mp q;simp only[jJ,and_true]at this;exact this
theorem Qu:∀(p:List Nat) (t v:T),sOk t->sOk v->sOk (UF t p v)/\lW (UF t p v)<=lW t+lW v/\lL (UF t p v)<=lL t+lL v
 | [],t,v,d,f=>by
  have:UF t [] v=v:=by cases t <;> rfl
  rw[this];exact⟨f,by omega,by omega⟩
 | i :: r,t,v,d,f=>by
  by_cases a:∃xs x,t= .tup xs/\xs[i]? =some x
  ·obtain⟨xs,x,rfl,a⟩:=a;have e:UF (.tup xs) (i :: r) v= .tup (xs.take i++[UF x r v]++xs.drop (i+1)):=by
    show (match xs[i]? with | some x=>T.tup (xs.take i++[UF x r v]++xs.drop (i+1)) | none=> .tup xs)=_
    rw[a]
   obtain⟨k,q,B,u,q5⟩:=wv a;obtain⟨o,j,l⟩:=k (ZS d);obtain⟨g,w,y⟩:=Qu r x v j f;rw[e];refine⟨?_, ?_, ?_⟩
   ·simp only[sOk,jD,jJ,and_true];exact⟨⟨o,g⟩,l⟩
   ·simp only[lW,jC,jI,Nat.max_zero];omega
   ·simp only[lL,jB,jl,d_];omega
  ·have:UF t (i :: r) v=t:=by
    cases t with
    | tup xs=>
     show (match xs[i]? with | some x=>T.tup (xs.take i++[UF x r v]++xs.drop (i+1)) | none=> .tup xs)=_
     cases hi:xs[i]? with
     | none=>rfl
     | some x=>exact(a ⟨xs,x,rfl,hi⟩).elim
    | _=>rfl
   rw[this];exact⟨d,by omega,by omega⟩
theorem Qv:∀(p:List Nat) (t u:T),uq t p=some u->(sOk t->sOk u)/\lW u+p.length<=lW t/\lL u<=lL t
 | [],t,u,h=>by
  rw[xa]at h;cases h;exact⟨id,ao _,ao _⟩
 | i :: r,t,u,h=>by
  obtain⟨xs,rfl⟩:=WU h;obtain⟨x,e,hr⟩:=wu h;obtain⟨d,f,l,g,q5⟩:=wv e;obtain⟨a,j,k⟩:=Qv r x u hr;refine⟨λq=>a (d (ZS q)).2.1, ?_, ?_⟩
  ·simp only[lW,ar];omega
  ·simp only[lL];omega
theorem KN (t:T):1<=lW t:=by cases t <;> simp[lW]
theorem Qw {xs:List T}{j:Nat}{x:T}(h:xs[j]? =some x):li (.lst xs) (.int (j:Int))= .ok x:=by
 show lI xs j=_;unfold lI;rw[Zu h]
theorem su {xs:List T}{i:Int}(d:0<=i)(f:i < (xs.length:Int)):∃x,li (.lst xs) (.int i)= .ok x/\x∈xs:=by
 have a:i.toNat < xs.length:=by omega
 have e:i=((i.toNat:Nat):Int):=by omega
 have q:=Qw (ak a);rw[← e]at q;exact⟨xs[i.toNat],q,iR a⟩
noncomputable def ww (u:T):List T:=[.int 0,.int 1,.int (-21),.int 21,.int 3,.int 4,.bl true,.non,.str "a",.str "abcd",.str "A",.str "",.str "many",.str "row",.tup [],.tup [u],.lst [u],.tup [.str "whole",.int 1,.int 0]]
theorem Ys (h:lZ D S u):∀v∈ww u,lZ (D+2) (2*S+4) v:=by
 obtain⟨d,g,f⟩:=h;have e:∀n:Nat,n<=10->n<=lB:=λn h=>ay h (by decide)
 intro v a;unfold ww at a;simp only[aq,bG,or_false]at a;rcases a with rfl | rfl | rfl | rfl | rfl | rfl | rfl | rfl | rfl | rfl | rfl | rfl | rfl | rfl | rfl | rfl | rfl | rfl
 all_goals first
  | exact⟨by simp only[sOk,jJ,and_true];first | decide | exact d,by simp only[lW,jI];omega,by simp only[lL,jl];omega⟩
  | exact⟨by simp only[sOk,jJ],by simp only[lW,jI];omega,by simp only[lL,jl];omega⟩
  | exact⟨e _ (by decide),by simp only[lW,jI];omega,by simp only[lL,jl];omega⟩
theorem WV {a b t d p e g h i:T}{j:Sl}{f:En->R T}{v w:T}(l:W3 j=j)(q:f [.vl a,.vl b,.vl t,.vl d,.vl p,.vl e,.vl g,.vl h,j]= .ok v)(o:mB 40 [t,p,v]= .ok w):
  zh (zo (za 3 (mB 40) (z9 (vE 2) (z9 (vE 4) (z9 f zd)))) [.vl a,.vl b,.vl t,.vl d,.vl p,.vl e,.vl g,.vl h,j])= .ok w:=by
 have k:frz [.vl a,.vl b,.vl t,.vl d,.vl p,.vl e,.vl g,.vl h,j]=[.vl a,.vl b,.vl t,.vl d,.vl p,.vl e,.vl g,.vl h,j]:=by
  show [Sl.vl a,.vl b,.vl t,.vl d,.vl p,.vl e,.vl g,.vl h,W3 j]=_;rw[l]
 rw[zN,k,ZJ,Z4,q];exact o
abbrev KO:En->R T:=zc zn (lK (vE 5) (lM) (zJ (vE 8))) (lK (vE 5) (zJ (zc zn (vE 8) (cE (.int 1)))) (lM))
abbrev KP:En->R T:=zc zn (zc zn (lK (vE 5) (lM) (zJ (vE 8))) (lK (vE 5) (zJ (vE 8)) (zJ (zc zn (vE 8) (cE (.int 1)))))) (lK (vE 5) (zJ (vE 8)) (lM))
abbrev mi (a:T)(k:Int)(t d p e:T)(g:List T)(w:Int)(j:Sl):En:=[.vl a,.vl (.int k),.vl t,.vl d,.vl p,.vl e,.vl (.lst g),.vl (.int w),j]
theorem uZ {xs:List T}{i:Nat}{x:T}(h:xs[i]? =some x):xs.drop i=x :: xs.drop (i+1):=by
 obtain⟨hi,rfl⟩:=au.mp h;exact cb hi
theorem KQ {a t d p:T}{g xs:List T}{k w:Int}{i:Nat}{x:T}(j:xs[i]? =some x)(u:xs.length<=lim):
  KO (mi a k t d p (.tup xs) g w (.vl (.int (i:Int))))= .ok (.tup (xs.take i++xs.drop (i+1)))/\
  KP (mi a k t d p (.tup xs) g w (.vl (.int (i:Int))))= .ok (.tup (xs.take i++[x]++(x :: xs.drop (i+1)))):=by
 have hi:=(au.mp j).1;have r:=UD;have e:vE 5 (mi a k t d p (.tup xs) g w (.vl (.int (i))))= .ok _:=rfl;have f:vE 8 (mi a k t d p (.tup xs) g w (.vl (.int (i))))= .ok _:=rfl;have o:zn (.int (i)) (.int 1)= .ok (.int ((i+1:Nat))):=by
  rfl
 have l:zc zn (vE 8) (cE (.int 1)) (mi a k t d p (.tup xs) g w (.vl (.int (i))))= .ok (.int ((i+1:Nat))):=by
  rw[ze,f,kj,zK,kj,o]
 have q:(xs.drop i).take (i+1 - i)=[x]:=by
  rw[uZ j,show i+1 - i=1 from by omega];rfl
 constructor
 ·unfold KO;rw[ze,JL,e,kj,Ql,kj,ji f,kj,uX hi,kj,JL,e,kj,ji l,kj,Ql,kj,uY (by omega)]
  exact Jd (by rw[bX,ce];omega)
 ·unfold KP;rw[ze,ze,JL,e,kj,Ql,kj,ji f,kj,uX hi,kj,JL,e,kj,ji f,kj,ji l,kj,xf (by omega) (by omega),kj,q,Jd (by rw[bX,aC];omega),kj,JL,e,kj,ji f,kj,Ql,kj,uY (by omega),← uZ j]
  exact Jd (by rw[az,bX,aC,ce];omega)
theorem KR {D S:Nat}{xs:List T}{i:Nat}{x:T}(l:xs[i]? =some x)(h:lZ D S (.tup xs)):lZ (D+2) (2*S+4) (.tup (xs.take i++xs.drop (i+1)))/\lZ (D+2) (2*S+4) (.tup (xs.take i++[x]++(x :: xs.drop (i+1)))):=by
 obtain⟨f,j,g⟩:=h;obtain⟨k,o,q,p,q5⟩:=wv l;obtain⟨e,a,d⟩:=k (ZS f);simp only[lW,lL]at j g;refine⟨⟨?_, ?_, ?_⟩,⟨?_, ?_, ?_⟩⟩
 ·simp only[sOk,jD];exact⟨e,d⟩
 ·simp only[lW,jC];omega
 ·simp only[lL,jB];omega
 ·simp only[sOk,jD,jJ,and_true];exact⟨⟨e,a⟩,a,d⟩
 ·simp only[lW,jC,jI];omega
 ·simp only[lL,jB,jl];omega
abbrev wU (cp:List T->R T)(cput:List T->R T):En->RS:=
  (zi (lu (JZ (Z8 (lj (j4 "tuple") (vB 5))) (zk lJ (vB 5) (zQ (zd)))) (zi (zr 8 (za 3 cp (z9 (vE 0) (z9 (zc zn (vE 1) (cE (.int 2))) (z9 (lj zM (vB 5)) (zd))))))
  (zo (za 3 cput (z9 (vE 2) (z9 (vE 4) (z9 (zc li (Z7 (z9 KO (z9 KP (zd)))) (zc jH (vE 7) (cE (.int 2)))) (zd))))))) (lq))
  (zi (lu (Z8 (lj (j4 "int") (vB 5))) (zo (za 3 cput (z9 (vE 2) (z9 (vE 4) (z9 (zc jg (zc zn (vE 5) (cE (.int 1))) (zc zY (cE (.int 2)) (zc jH (vE 7) (cE (.int 2))))) (zd)))))) (lq))
  (zo (za 3 cput (z9 (vE 2) (z9 (vE 4) (z9 (zQ (z9 (cE (.str "row")) (z9 (zQ (z9 (vE 5) (z9 (vE 5) (zd)))) (zd)))) (zd))))))))
theorem Ba {f g:En->R T}{ρ:En}{x y:T}(a:f ρ= .ok x)(d:g ρ= .ok y):Z7 (z9 f (z9 g zd)) ρ= .ok (.lst [x,y]):=by
 unfold Z7 z9 zd;rw[a,d];rfl
theorem xi (ns:List Int){t d p:T}{g xs:List T}{k w:Int}(h0:0<=k){D S:Nat}(hl:S<=lim)(J:lZ D S (.tup xs))(l:xs ≠ [])(H:∀v,lZ (D+2) (2*S+4) v->∃r,mB 40 [t,p,v]= .ok r):
  ∃v r,lZ (D+2) (2*S+4) v/\mB 40 [t,p,v]= .ok r/\zh (wU lT (mB 40) (mi (lx ns) k t d p (.tup xs) g w .un))= .ok r:=by
 have O:=JP xs;have N:=J.sz;simp only[lL]at N;have K:0 < xs.length:=List.length_pos_iff.mpr l;obtain⟨q,M,q0,q1⟩:=zI ns (k+2) (xs.length:Int) (by omega) (by omega)
 have f:q=((q.toNat:Nat)):=by omega
 have e:xs[q.toNat]? =some (xs[q.toNat]'(by omega)):=ak (by omega)
 generalize xs[q.toNat]'(by omega)=x at e
 generalize q.toNat=i at f e;subst f;obtain⟨B,G⟩:=KQ (a:=lx ns) (t:=t) (d:=d) (p:=p) (g:=g) (k:=k) (w:=w) e (by omega)
 obtain⟨Z,Q⟩:=KR e J;have P:JZ (Z8 (lj (j4 "tuple") (vB 5))) (zk lJ (vB 5) (zQ (zd))) (mi (lx ns) k t d p (.tup xs) g w .un)= .ok true:=by
  cases xs with
  | nil=>exact(l rfl).elim
  | cons _ _=>rfl
 have X:zr 8 (za 3 lT (z9 (vE 0) (z9 (zc zn (vE 1) (cE (.int 2))) (z9 (lj zM (vB 5)) (zd))))) (mi (lx ns) k t d p (.tup xs) g w .un)= .nx (mi (lx ns) k t d p (.tup xs) g w (.vl (.int (i)))):=by
  rw[ZD,Z4,v0,kj,ze,v1,kj,zK,kj,Z6,kj,Z5,show vB 5 _= .ok _ from rfl,kj,Zw,kj,M];rfl
 have I:zc jH (vE 7) (cE (.int 2)) (mi (lx ns) k t d p (.tup xs) g w (.vl (.int (i:Int))))= .ok _:=rfl;have o:w % 2=0\/w % 2=1:=by omega
 have go:∀v,zc li _ (zc _ _ _) (mi (lx ns) k t d p _ g w (.vl (.int _)))= .ok v->lZ (D+2) (2*S+4) v->∃v r,lZ (D+2) (2*S+4) v/\mB 40 [t,p,v]= .ok r/\zh (wU _ _ (mi (lx ns) k t d p (.tup xs) g w .un))= .ok r:=λv U y=>by
  obtain⟨r,hr⟩:=H v y;refine⟨v,r,y,hr, ?_⟩;have u:=WV (i:= .non) (j:= .vl _) rfl U hr;unfold wU;rw[zz,Zk,P,Ze,if_pos rfl,zz,X];dsimp only;rw[zN]at u ⊢;rw[ZJ]at u;rw[u];rfl
 rcases o with o | o
 ·exact go _ (by rw[ze,Ba B G,kj,I,o];rfl) Z
 ·exact go _ (by rw[ze,Ba B G,I,o];rfl) Q
abbrev Ag:En->R T:=zc jg (zc zn (vE 5) (cE (.int 1))) (zc zY (cE (.int 2)) (zc jH (vE 7) (cE (.int 2))))
abbrev tO:En->R T:=zQ (z9 (cE (.str "row")) (z9 (zQ (z9 (vE 5) (z9 (vE 5) (zd)))) (zd)))
theorem Qx (i:Int):lZ (D+2) (2*S+4) (.int i):=⟨by simp only[sOk],by simp only[lW];omega,by simp only[lL];omega⟩
theorem Qy (h:lZ D S u):lZ (D+2) (2*S+4) (.tup [.str "row",.tup [u,u]]):=by
 obtain⟨a,e,d⟩:=h;refine⟨?_, ?_, ?_⟩
 ·simp only[sOk,jJ,and_true];exact⟨by decide,a,a⟩
 ·simp only[lW,jI];omega
 ·simp only[lL,jl];omega
theorem xj (l:JZ (Z8 (lj (j4 "tuple") (vB 5))) (zk lJ (vB 5) (zQ (zd))) (mi a k t d p u g w .un)= .ok false)(hi:mH "int" u=false)
  (hr:mB 40 [t,p,.tup [.str "row",.tup [u,u]]]= .ok r):zh (wU cp (mB 40) (mi a k t d p u g w .un))= .ok r:=by
 have e:=WV (f:=tO) (a:=a) (b:= .int k) (d:=d) (g:= .lst g) (h:= .int w) (i:= .non) (j:= .un) rfl (Ym zK (Ym rfl rfl)) hr;have o:Z8 (lj (j4 "int") (vB 5)) (mi a k t d p u g w .un)= .ok false:=by
  show nJ (.bl _)=_;rw[hi];rfl
 unfold wU;rw[zz,Zk,l,Ze,if_neg aA];unfold lq;dsimp only;rw[zz,Zk,o,Ze];exact e
theorem xk (j:mH "tuple" u=false)(hi:mH "int" u=true)(q:zn u (.int 1)= .ok (.int i))
  (hr:mB 40 [t,p,.int (i - 2*(w % 2))]= .ok r):zh (wU cp (mB 40) (mi a k t d p u g w .un))= .ok r:=by
 have o:Ag (mi a k t d p u g w .un)= .ok (.int (i - 2*(w % 2))):=by
  show ((zn u _).bind λx=>(zY (.int 2) (.int _)).bind λy=>jg x y)=_;rw[q];rfl
 have e:=WV (i:= .non) rfl o hr;have f:JZ (Z8 (lj (j4 "tuple") (vB 5))) (zk lJ (vB 5) (zQ (zd))) (mi a k t d p u g w .un)= .ok false:=by
  show (nJ (.bl _)).bind (λx=>if x=true then _ else R.ok _)=_
  rw[j];rfl
 have l:Z8 (lj (j4 "int") (vB 5)) (mi a k t d p u g w .un)= .ok true:=by
  show nJ (.bl _)=_;rw[hi];rfl
 unfold wU;rw[zz,Zk,f,Ze,if_neg aA];unfold lq;dsimp only;rw[zz,Zk,l,Ze];rw[zN]at e ⊢;rw[ZJ]at e;rw[e];rfl
theorem KS (ns:List Int)(y:0<=k)(B:S<=lim)(f:lZ D S u)(H:∀v,lZ (D+2) (2*S+4) v->∃r,mB 40 [t,p,v]= .ok r):
  ∃v r,lZ (D+2) (2*S+4) v/\mB 40 [t,p,v]= .ok r/\zh (wU lT (mB 40) (mi (lx ns) k t d p u g w .un))= .ok r:=by
 have a:JZ _ _ (mi (lx ns) k t d p u g w .un)= .ok _->mH _ u=false->∃v r,lZ _ _ v/\mB 40 [t,p,v]= .ok r/\zh (wU lT _ _)= .ok r:=λl j=>by
  obtain⟨r,hr⟩:=H _ (Qy f);exact⟨_,r,Qy f,hr,xj l j hr⟩
 have e:∀i,mH _ u=false->mH _ u=true->zn u _= .ok (.int i)->∃v r,lZ (D+2) (2*S+4) v/\mB 40 [t,p,v]= .ok r/\zh (wU lT _ (mi (lx ns) k t d p u g w .un))= .ok r:=λi l j q=>by
  obtain⟨r,hr⟩:=H _ (Qx _);exact⟨_,r,Qx _,hr,xk l j q hr⟩
 cases u with
 | tup xs=>
  by_cases o:xs=[]
  ·subst o;exact a rfl rfl
  ·exact xi ns y B f o H
 | int i=>exact e _ rfl rfl rfl
 | bl b=>exact e _ rfl rfl rfl
 | non=>exact a rfl rfl
 | str x=>exact a rfl rfl
 | lst x=>exact a rfl rfl
 | fz x=>exact a rfl rfl
theorem U0 (ns:List Int)(k:Int)(U:0<=k)(hD:D<=40)(hS:S<=lim)(hF:lZ D S t):
  ∃r,gS [lx ns,.int k,t]= .ok r/\lZ (2*D+2) (3*S+4) r:=by
 obtain⟨Q,hd,hs⟩:=hF;have J :=ay hs hS;obtain⟨g,hp,hp0,Z,O⟩:=Qr 40 t (ay hd hD) J;have hp:o7 40 [t]= .ok (.lst (g.map lG)):=hp;obtain⟨q,hq,q0,q1⟩:=zI ns k (g.length:Int) U (by omega)
 obtain⟨x,ex,hx⟩:=su (xs:=g.map lG) q0 (by rw[ah];exact q1)
 obtain⟨p,N,rfl⟩:=aE.mp hx;obtain⟨u,K⟩:=O p N;obtain⟨g1,g2,g3⟩:=Qv p t u K;have hdu:=KN u;have B:lZ D S u:=⟨g1 Q,by omega,by omega⟩
 have l:∀v,mB 40 [t,lG p,v]= .ok (UF t p v):=λv=>DY 40 p t u v (by omega) J K
 have I:∀v,lZ (D+2) (2*S+4) v->lZ (2*D+2) (3*S+4) (UF t p v):=λv G=>by
  obtain⟨a,b,c⟩:=Qu p t v Q G.so;have:=G.dp;have:=G.sz;exact⟨a,by omega,by omega⟩
 obtain⟨w,hw,M,w1⟩:=zI ns (k+1) 23 (by omega) (by omega)
 have e:gS [lx ns,.int k,t]=zh (rO lT (o7 40) gR (mB 40) [.vl (lx ns),.vl (.int k),.vl t,.un,.un,.un,.un,.un,.un]):=rfl;have e1:zr 3 (za 1 (o7 40) (z9 (vE 2) (zd))) [.vl (lx ns),.vl (.int k),.vl t,.un,.un,.un,.un,.un,.un]= .nx [.vl (lx ns),.vl (.int k),.vl t,.vl (.lst (g.map lG)),.un,.un,.un,.un,.un]:=by
  rw[ZD,zF,v2,kj,hp,Ze];rfl
 have e2:zr 4 (zc li (vE 3) (za 3 lT (z9 (vE 0) (z9 (vE 1) (z9 (lj zM (vB 3)) (zd)))))) [.vl (lx ns),.vl (.int k),.vl t,.vl (.lst (g.map lG)),.un,.un,.un,.un,.un]= .nx [.vl (lx ns),.vl (.int k),.vl t,.vl (.lst (g.map lG)),.vl (lG p),.un,.un,.un,.un]:=by
  rw[ZD,ze,v3,kj,Z4,v0,kj,v1,kj,Z5,w3,kj,VZ,kj,ah,hq,kj,ex,Ze];rfl
 have e3:zr 5 (za 2 gR (z9 (vE 2) (z9 (vE 4) (zd)))) [.vl (lx ns),.vl (.int k),.vl t,.vl (.lst (g.map lG)),.vl (lG p),.un,.un,.un,.un]= .nx [.vl (lx ns),.vl (.int k),.vl t,.vl (.lst (g.map lG)),.vl (lG p),.vl u,.un,.un,.un]:=by
  rw[ZD,zx,v2,kj,v4,kj,Ee K,Ze];rfl
 rw[e,rO,zz,e1];dsimp only;rw[zz,e2];dsimp only;rw[zz,e3];dsimp only;rw[zz];have e4:zr 6 (Z7 (z9 (cE (.int 0)) (z9 (cE (.int 1)) (z9 (Wv (cE (.int 21))) (z9 (cE (.int 21)) (z9 (cE (.int 3)) (z9 (cE (.int 4)) (z9 (cE (.bl true)) (z9 (cE .non) (z9 (cE (.str "a")) (z9 (cE (.str "abcd")) (z9 (cE (.str "A")) (z9 (cE (.str "")) (z9 (cE (.str "many")) (z9 (cE (.str "row")) (z9 (zQ (zd)) (z9 (zQ (z9 (vE 5) (zd))) (z9 (Z7 (z9 (vE 5) (zd))) (z9 (zQ (z9 (cE (.str "whole")) (z9 (cE (.int 1)) (z9 (cE (.int 0)) (zd))))) (zd)))))))))))))))))))) [.vl (lx ns),.vl (.int k),.vl t,.vl (.lst (g.map lG)),.vl (lG p),.vl u,.un,.un,.un]= .nx [.vl _,.vl _,.vl t,.vl (.lst _),.vl _,.vl u,.vl (.lst (ww u)),.un,.un]:=rfl;rw[e4];dsimp only;have e5:zr 7 (za 3 lT (z9 (vE 0) (z9 (zc zn (vE 1) (cE (.int 1))) (z9 (zc zn (lj zM (vB 6)) (cE (.int 5))) (zd))))) [.vl (lx ns),.vl (.int k),.vl t,.vl (.lst (g.map lG)),.vl (lG p),.vl u,.vl (.lst (ww u)),.un,.un]= .nx (mi (lx ns) k t (.lst (g.map lG)) (lG p) u (ww u) w .un):=by
  rw[ZD,Z4,v0,kj,ze,v1,kj,zK,kj,Z6,kj];rw[show zc _ _ _ _= .ok (.int 23) from rfl,kj,hw];rfl
 rw[zz,e5];dsimp only;rw[zz,Zk];have X:zk mG (vB 7) (lj zM (vB 6)) (mi (lx ns) k t (.lst (g.map lG)) (lG p) u (ww u) w .un)= .ok (decide (w < 18)):=rfl;rw[X]
 by_cases o:w < 18
 ·rw[decide_eq_true o];obtain⟨v,ev,G⟩:=su (xs:=ww u) M (by exact o)
  have y:=Ys B v G;have P:=WV (f:=zc li (vE 6) (vE 7)) (a:=lx ns) (b:= .int k) (d:= .lst (g.map lG)) (e:=u) (i:= .non) (j:= .un) rfl (show li _ _= .ok v from ev) (l v);refine⟨_, ?_,I v y⟩;rw[zN]at P ⊢;rw[ZJ]at P;rw[P];rfl
 ·rw[decide_eq_false o];obtain⟨v,r,y,hr,et⟩:=KS ns U hS B λv _=>⟨_,l v⟩;rw[l v]at hr;cases hr;exact⟨_,et,I v y⟩
theorem Wd (ρ:En):lq ρ= .nx ρ:=rfl
inductive Kd where
 | whole (lo hi:Int)
 | pick (cs:List (Str×Int))
 | row (ks:List Kd)
 | many (k:Kd) (lo hi:Nat)
noncomputable def wV (c:Str×Int):T:= .tup [.str c.1,.int c.2]
mutual
noncomputable def Kd.t:Kd->T
 | .whole lo hi=> .tup [.str "whole",.int lo,.int hi]
 | .pick d=> .tup [.str "pick",.tup (d.map wV)]
 | .row a=> .tup [.str "row",.tup (Kd.ts a)]
 | .many k lo hi=> .tup [.str "many",k.t,.int (lo:Int),.int (hi:Int)]
noncomputable def Kd.ts:List Kd->List T
 | []=>[]
 | k :: a=>k.t :: Kd.ts a
end
theorem Kd.ts_map:∀a:List Kd,Kd.ts a=a.map Kd.t
 | []=>by simp only[Kd.ts,ci]
 | k :: a=>by simp only[Kd.ts,aF,Kd.ts_map a]
def Kd.Ok:Nat->Kd->Prop
 | 0,_=>False
 | _+1,.whole lo hi=> -20<=lo/\lo<=hi/\hi<=20
 | _+1,.pick a=>1<=a.length/\a.length<=4/\(∀c∈a,Z0 (.str c.1)=true/\1<=c.2/\c.2<=20)/\Dst (a.map (·.1))
 | d+1,.row e=>1<=e.length/\e.length<=3/\∀k∈e,Kd.Ok d k
 | d+1,.many k lo hi=>lo<=hi/\hi<=3/\Kd.Ok d k
theorem Qz (h:zt c=true):∃p:Str×Int,c=wV p/\Z0 (.str p.1)=true/\1<=p.2/\p.2<=20:=by
 unfold zt at h;split at h
 ·rename_i w i;rw[ae,ae,decide_eq_true_eq,decide_eq_true_eq]at h;cases w with
  | str x=>exact⟨(x,i),rfl,h.1.1,h.1.2,h.2⟩
  | _=>cases h.1.1
 ·cases h
theorem UG {e:Type}{P:T->Prop}{Q:e->Prop}{f:e->T}(H:∀t,P t->∃a,t=f a/\Q a):∀(ts:List T),(∀t∈ts,P t)->∃d:List e,ts=d.map f/\∀a∈d,Q a
 | [],_=>⟨[],rfl,λ_ h=>nomatch h⟩
 | t :: ts,h=>by
  obtain⟨a,rfl,j⟩:=H t (h t ag);obtain⟨d,rfl,has⟩:=UG H ts λu i=>h u (ac _ i);exact⟨a :: d,rfl,λb g=>by
   rcases aq.mp g with rfl | g
   ·exact j
   ·exact has b g⟩
theorem UH:∀(d:Nat) (t:T),md d t=true->∃k:Kd,t=k.t/\k.Ok d
 | 0,_,h=>by cases h
 | d+1,t,h=>by
  have h:WO _ t=true:=h;unfold WO at h;split at h
  ·rename_i hd r;split at h
   ·rename_i e;rw[JC e];unfold JB at h;split at h
    ·obtain⟨i,j,rfl,rfl⟩:=JO h;have h:(decide _ && decide _ && decide _)=true:=h;rw[ae,ae,decide_eq_true_eq,decide_eq_true_eq,decide_eq_true_eq]at h;exact⟨.whole i j,by simp only[Kd.t],h.1.1,h.1.2,h.2⟩
    ·cases h
   ·split at h
    ·rename_i e;rw[JC e];unfold uS at h;split at h
     ·unfold uR at h;split at h
      ·rename_i q;rw[ae,ae,ae,decide_eq_true_eq,decide_eq_true_eq,decide_eq_true_eq]at h;obtain⟨⟨⟨f,g⟩,J⟩,v⟩:=h;obtain⟨l,rfl,has⟩:=UG (λt o=>Qz o) q λc p=>aO.mp J c p;rw[ah]at f g;refine⟨.pick l,by simp only[Kd.t],f,g,has, ?_⟩
       have D:(l.map wV).map Zj=l.map (·.1):=by rw[bi];rfl
       rw[D]at v;have:=(wo _ []).mp (by rw[v,ah];simp)
       exact λk w G K=>this k w G (by simpa using K)
      ·cases h
     ·cases h
    ·split at h
     ·rename_i e;rw[JC e];unfold Xq at h;split at h
      ·unfold wm at h;split at h
       ·rename_i q;rw[ae,ae,decide_eq_true_eq,decide_eq_true_eq]at h;obtain⟨y,rfl,u⟩:=UG (λt o=>UH d t o) q λc p=>aO.mp h.2 c p;rw[ah]at h;exact⟨.row y,by simp only[Kd.t,Kd.ts_map],h.1.1,h.1.2,u⟩
       ·cases h
      ·cases h
     ·split at h
      ·rename_i e;rw[JC e];unfold uT at h;split at h
       ·rename_i c a b;rw[ae]at h;obtain⟨f,g⟩:=h;obtain⟨i,j,rfl,rfl⟩:=JO f;obtain⟨k,rfl,I⟩:=UH d c g;have f:(decide _ && decide _ && decide _)=true:=f;rw[ae,ae,decide_eq_true_eq,decide_eq_true_eq,decide_eq_true_eq]at f;obtain⟨⟨x,B⟩,M⟩:=f;obtain⟨m,rfl⟩:=d0 x;obtain⟨n,rfl⟩:=d0 (Int.le_trans x B);exact⟨.many k m n,by simp only[Kd.t],by omega,by omega,I⟩
       ·cases h
      ·cases h
  ·cases h
noncomputable def ZN (made:List (List T)):List (List T)->List (List T)
 | []=>made
 | d :: r=>ZN (made.flatMap λa=>d.map λx=>a++[x]) r
abbrev YC (ls:List (List T)):List T:=(ZN [[]] ls).map T.tup
mutual
noncomputable def Kd.all:Kd->List T
 | .whole lo hi=>(aU (hi+1 - lo).toNat).map λ(i:Nat)=>T.int (lo+(i:Int))
 | .pick d=>d.map λc=>T.str c.1
 | .row a=>YC (Kd.alls a)
 | .many k lo hi=>(aU (hi+1 - lo)).flatMap λi=>YC (ai (lo+i) k.all)
noncomputable def Kd.alls:List Kd->List (List T)
 | []=>[]
 | k :: a=>k.all :: Kd.alls a
end
theorem Kd.alls_map:∀a:List Kd,Kd.alls a=a.map Kd.all
 | []=>by simp only[Kd.alls,ci]
 | k :: a=>by simp only[Kd.alls,aF,Kd.alls_map a]
noncomputable def lN:List Nat->Nat
 | []=>1
 | n :: r=>n*lN r
theorem wx:∀{ns:List Nat},(∀n∈ns,1<=n)->1<=lN ns
 | [],_=>ao _
 | n :: ns,h=>f8 (h n ag) (wx λm a=>h m (ac _ a))
theorem JQ {e i:Type}(f:e->List i)(n:Nat):∀d:List e,(∀a∈d,(f a).length=n)->(d.flatMap f).length=d.length*n
 | [],_=>by simp
 | a :: d,h=>by
  rw[bP,az,h a ag,JQ f n d λb g=>h b (ac _ g),ar,iW,cQ,dR]
theorem wA:∀(d:List (List T)) (made:List (List T)),(ZN made d).length=made.length*lN (d.map (·.length))
 | [],made=>by simp[ZN,lN]
 | l :: d,made=>by
  rw[ZN,wA d,JQ _ _ _ λa _=>ah ..,aF,lN,dm]
abbrev rh:En->RS:=Y5 3 (zv (Zg (vE 2)) (zq 0) (Z9) (zc zn (vE 1) (zQ (z9 (vE 0) (zd)))) 1 [4])
theorem yo (j:l.length<=lB):∀(f:List (List T)) (acc:List T) (x:Sl),(∀a∈f,a.length<=1000)->acc.length+f.length*l.length<=lB->
  ∃y,Zv (zq 4) rh (f.map T.tup) [.vl L,.vl M,.vl (.lst l),.ow acc,x]= .nx [.vl L,.vl M,.vl (.lst l),.ow (acc++(f.flatMap λa=>l.map λx=>a++[x]).map T.tup),y]
 | [],acc,x,_,_=>⟨x,by simp[Zv]⟩
 | a :: f,acc,x,i,g=>by
  have o:=i a ag;have p:lB=16777216:=rfl;rw[ar,iW]at g;have u:zp _ _ (zc zn (vE 1) (zQ (z9 (vE 0) (zd)))) 1 [4] [.vl L,.vl M,.vl (.lst l),.ow acc,.vl (.tup a)] l= .ok (l.map λx=>T.tup _):=
   zP l j λx v=>by
    exact Jd (by rw[aC];omega)
  have k:rh [.vl L,.vl M,.vl (.lst l),.ow acc,.vl (.tup a)]= .nx [.vl L,.vl M,.vl (.lst l),.ow (acc++l.map λx=>T.tup (a++[x])),.vl (.tup a)]:=by
   show (((zp _ _ _ _ _ _ l).bind _).s _)=_;rw[u,kj];show (if _ then _ else _)=_
   rw[if_pos (by rw[ah];omega)]
   rfl
  obtain⟨y,q⟩:=yo j f (acc++l.map λx=>T.tup _) _ (λb g=>i b (ac _ g)) (by rw[az,ah];omega)
  refine⟨y, ?_⟩;have e:Zv (zq 4) _ ((a :: f).map T.tup) [.vl L,.vl M,.vl (.lst l),.ow acc,x]=match rh [.vl L,.vl M,.vl _,.ow acc,.vl _] with
   | .nx d=>Zv _ _ _ d
   | .ct d=>Zv _ _ _ d
   | .bk d=> .nx d
   | r=>r:=rfl
  rw[e,k];dsimp only;rw[q,bP,di,bi,bg];rfl
abbrev xl:En->RS:=(zi (wR 3 (zd))
  (zi (j5 (Zg (vE 1)) (zq 4) rh)
  (rL 1 3)))
theorem U1 (m:Nat):∀(g:List (List T)) (made:List (List T)) (k:Nat) (x y z:Sl),(∀a∈made,a.length<=k)->k+g.length<=1000->(∀l∈g,1<=l.length)->made.length*lN (g.map (·.length))<=lB->1<=made.length->
  ∃B J D,Zv (zq 2) xl (g.map T.lst) [.vl L,.vl (.lst (made.map T.tup)),x,y,z]= .nx [.vl L,.vl (.lst ((ZN made g).map T.tup)),B,J,D]
 | [],made,k,x,y,z,_,_,_,_,_=>⟨x,y,z,by simp[Zv,ZN]⟩
 | l :: g,made,k,x,y,z,K,p,f,j,M=>by
  have o:=wx λn hn=>by
   obtain⟨G,i,rfl⟩:=aE.mp hn;exact f G (ac _ i)
  rw[aF,lN,← dm]at j;have v:=ay (d3 _ o) j;have I:=ay (Nat.le_mul_of_pos_left _ M) v;rw[ar]at p;obtain⟨w,Q⟩:=yo I _ [] z (λa q=>ay (K a q) (by omega)) (by rw[bw];omega)
  have S:xl [.vl L,.vl (.lst (made.map T.tup)),.vl (.lst l),y,z]= .nx [.vl L,.vl (.lst ((made.flatMap λa=>l.map λx=>a++[x]).map T.tup)),.vl (.lst l),.vl (.lst ((made.flatMap λa=>l.map λx=>a++[x]).map T.tup)),w]:=by
   have U:wR 3 (zd) [.vl L,.vl (.lst (made.map T.tup)),.vl (.lst l),y,z]= .nx [.vl L,.vl _,.vl _,.ow [],z]:=rfl;have O:j5 (Zg (vE 1)) _ _ [.vl L,.vl (.lst _),.vl _,.ow [],z]= .nx [.vl L,.vl _,.vl _,.ow ((made.flatMap λa=>l.map λx=>a++[x]).map _),w]:=Q;unfold xl;rw[zz,U];dsimp only;rw[zz,O];rfl
  obtain⟨B,J,D,P⟩:=U1 m g (made.flatMap λa=>l.map λx=>a++[x]) (k+1) _ (.vl (.lst ((made.flatMap λa=>l.map λx=>a++[x]).map _))) w (λa q=>by
   obtain⟨b,j,N⟩:=d4.mp q;obtain⟨u,_,rfl⟩:=aE.mp N;have:=K b j;rw[az,aC];omega) (by omega) (λG i =>f G (ac _ i)) (by
    rw[JQ _ _ _ λa _=>ah ..];exact j) (by
    rw[JQ _ _ _ λa _=>ah ..];exact f8 M (f l ag))
  refine⟨B,J,D, ?_⟩;have e:Zv (zq 2) _ ((l :: g).map T.lst) [.vl L,.vl (.lst (made.map T.tup)),x,y,z]=match xl [.vl L,.vl _,.vl _,y,z] with
   | .nx d=>Zv _ _ _ d
   | .ct d=>Zv _ _ _ d
   | .bk d=> .nx d
   | r=>r:=rfl
  rw[e,S];exact P
theorem QA (d:List (List T))(r:d.length<=1000)(f:∀l∈d,1<=l.length)(j:lN (d.map (·.length))<=lB):me [.lst (d.map T.lst)]= .ok (.lst (YC d)):=by
 obtain⟨p,u,q,g⟩:=U1 0 d [[]] 0 .un .un .un (λa o=>by rw[aH.mp o];exact ao _) (by omega) f (by rw[aC,cQ];exact j) (ao _)
 have e:me [.lst (d.map T.lst)]=zh (sW [.vl _,.un,.un,.un,.un]):=rfl;have i:zr 1 (Z7 (z9 (zQ (zd)) (zd))) [.vl (.lst (d.map T.lst)),.un,.un,.un,.un]= .nx [.vl _,.vl _,.un,.un,.un]:=rfl;have k:j5 (Zg (vE 0)) _ _ [.vl (.lst _),.vl (.lst [.tup []]),.un,.un,.un]= .nx _:=g;rw[e,sW,zz,i];dsimp only;rw[zz,k];rfl
theorem jv (n:Nat):∀m:Nat,lN (ai m n)=n ^ m
 | 0=>rfl
 | m+1=>by rw[bH,lN,jv n m,fR,dz]
theorem JR (a:List (List T)):(YC a).length=lN (a.map (·.length)):=by
 rw[ah,wA,aC,cQ]
noncomputable def pw (n lo hi:Nat):Nat:=((aU (hi+1 - lo)).map λi=>n ^ (lo+i)).sum
theorem jE (k:Kd)(lo hi:Nat):(Kd.many k lo hi).all.length=pw k.all.length lo hi:=by
 rw[Kd.all,List.length_flatMap,pw];congr 1
 refine bO λi _=> ?_;rw[JR,aX,jv]
theorem Ju (a:List Kd):(Kd.row a).all.length=lN (a.map λk=>k.all.length):=by
 rw[Kd.all,JR,Kd.alls_map,bi];rfl
theorem Je (lo hi:Int):(Kd.whole lo hi).all.length=(hi+1 - lo).toNat:=by
 rw[Kd.all,ah,bE]
theorem WW (a:List (Str×Int)):(Kd.pick a).all.length=a.length:=by
 rw[Kd.all,ah]
theorem KT (h:lo<=hi)(a:hi<=3):(lo=0/\hi=0)\/(lo=0/\hi=1)\/(lo=0/\hi=2)\/(lo=0/\hi=3)\/(lo=1/\hi=1)\/(lo=1/\hi=2)\/(lo=1/\hi=3)\/(lo=2/\hi=2)\/(lo=2/\hi=3)\/(lo=3/\hi=3):=(by decide:∀hi lo:Fin 4,lo.1<=hi.1->(lo.1=0/\hi.1=0)\/(lo.1=0/\hi.1=1)\/(lo.1=0/\hi.1=2)\/(lo.1=0/\hi.1=3)\/(lo.1=1/\hi.1=1)\/(lo.1=1/\hi.1=2)\/(lo.1=1/\hi.1=3)\/(lo.1=2/\hi.1=2)\/(lo.1=2/\hi.1=3)\/(lo.1=3/\hi.1=3)) ⟨hi,iC a⟩ ⟨lo,iC (ay h a)⟩ h
noncomputable def iv (b:Bool):Nat:=if b then 1 else 0
theorem KU (n:Nat)(h:lo<=hi)(a:hi<=3):pw n lo hi=iv (lo == 0)+n*iv (decide (lo<=1) && decide (1<=hi))+n*n*iv (decide (lo<=2) && decide (2<=hi))+n*n*n*iv (hi == 3):=by
 rcases KT h a with ⟨rfl,rfl⟩ | ⟨rfl,rfl⟩ | ⟨rfl,rfl⟩ | ⟨rfl,rfl⟩ | ⟨rfl,rfl⟩ | ⟨rfl,rfl⟩ | ⟨rfl,rfl⟩ | ⟨rfl,rfl⟩ | ⟨rfl,rfl⟩ | ⟨rfl,rfl⟩ <;>
  simp[pw,l7,iv,fR]
 all_goals omega
theorem F8 (hn:1<=n)(h:lo<=hi)(a:hi<=3):1<=pw n lo hi:=by
 have d:=f8 hn hn;have e:=f8 d hn;rw[KU n h a];rcases KT h a with ⟨rfl,rfl⟩ | ⟨rfl,rfl⟩ | ⟨rfl,rfl⟩ | ⟨rfl,rfl⟩ | ⟨rfl,rfl⟩ | ⟨rfl,rfl⟩ | ⟨rfl,rfl⟩ | ⟨rfl,rfl⟩ | ⟨rfl,rfl⟩ | ⟨rfl,rfl⟩ <;>
  simp[iv] <;> omega
theorem F0 (hn:n<=N)(h:lo<=hi)(a:hi<=3):pw n lo hi<=1+N+N*N+N*N*N:=by
 have d:=d5 hn hn;have e:=d5 d hn;rw[KU n h a];rcases KT h a with ⟨rfl,rfl⟩ | ⟨rfl,rfl⟩ | ⟨rfl,rfl⟩ | ⟨rfl,rfl⟩ | ⟨rfl,rfl⟩ | ⟨rfl,rfl⟩ | ⟨rfl,rfl⟩ | ⟨rfl,rfl⟩ | ⟨rfl,rfl⟩ | ⟨rfl,rfl⟩ <;>
  simp[iv] <;> omega
theorem Xv (d:1<=N):∀(ns:List Nat),(∀n∈ns,n<=N)->lN ns<=N ^ ns.length
 | [],_=>ao _
 | n :: ns,h=>by
  rw[lN,dz];exact d5 (Xv d ns λm a=>h m (ac _ a)) (h n ag)
theorem ZH:∀(d:Nat) (k:Kd),k.Ok d->1<=k.all.length
 | 0,_,h=>h.elim
 | d+1,.whole lo hi,h=>by
  obtain⟨_,e,_⟩:=h;rw[Je];omega
 | d+1,.pick g,h=>by
  rw[WW];exact h.1
 | d+1,.row f,h=>by
  rw[Ju];refine wx λn hn=> ?_;obtain⟨k,a,rfl⟩:=aE.mp hn;exact ZH d k (h.2.2 k a)
 | d+1,.many k lo hi,h=>by
  rw[jE];exact F8 (ZH d k h.2.2) h.1 h.2.1
noncomputable def mx:Nat->Nat
 | 0=>0
 | 1=>41
 | d+1=>1+mx d+mx d*mx d+mx d*mx d*mx d
theorem Xw (d:Nat):41<=mx (d+1):=by
 induction d with
 | zero=>exact ao _
 | succ d a=>
  show 41<=1+mx _+mx _*mx _+mx _*mx _*mx _;omega
theorem QB (d:Nat)(n:Nat)(h:n<=41):n<=mx (d+1):=ay h (Xw d)
theorem KW (a:1<=N)(h:m<=3):N ^ m<=1+N+N*N+N*N*N:=by
 have:m=0\/m=1\/m=2\/m=3:=by omega
 rcases this with rfl | rfl | rfl | rfl <;> simp[fR] <;> omega
theorem jK:∀(d:Nat) (k:Kd),k.Ok d->k.all.length<=mx d
 | 0,_,h=>h.elim
 | d+1,.whole lo hi,h=>by
  obtain⟨f,g,a⟩:=h;rw[Je];exact QB d _ (by omega)
 | d+1,.pick j,h=>by
  rw[WW];exact QB d _ (ay h.2.1 (by omega))
 | 1,.row e,h=>by
  obtain⟨f,g,a⟩:=h
  match e,f,a with
  | k :: _,_,a=>exact(a k ag).elim
 | d+2,.row e,h=>by
  obtain⟨f,g,a⟩:=h;rw[Ju];have hp:=ay (by omega:1<=41) (Xw d)
  have:=Xv hp (e.map λk=>k.all.length) λn hn=>by
   obtain⟨k,i,rfl⟩:=aE.mp hn;exact jK _ k (a k i)
  rw[ah]at this;exact ay this (KW hp g)
 | 1,.many k lo hi,h=>h.2.2.elim
 | d+2,.many k lo hi,h=>by
  rw[jE];exact F0 (jK _ k h.2.2) h.1 h.2.1
theorem zb (h:f ρ= .nx ρ'):zi f g ρ=g ρ' :=by rw[zz,h]
theorem mY:zk ll (zc li (vE 0) (cE (.int 0))) (cE (.str w)) (.vl (.tup (.str x :: r)) :: ρ)= .ok (x == w):=by
 rw[zA,ze,v0,kj,zK,kj,mo,zK,kj];rfl
theorem Jf:zc li (vE 0) (cE (.int 1)) (.vl (.tup (a :: b :: r)) :: ρ)= .ok b:=by
 rw[ze,v0,kj,zK,kj,nn]
theorem WX:zc li (vE 0) (cE (.int 2)) (.vl (.tup (a :: b :: c :: r)) :: ρ)= .ok c:=by
 rw[ze,v0,kj,zK,kj,rN]
theorem gT:zc li (vE 0) (cE (.int 3)) (.vl (.tup (a :: b :: c :: d :: r)) :: ρ)= .ok d:=by
 rw[ze,v0,kj,zK,kj,Cn]
theorem UI (h:f ρ= .ok (.int i)):zc zn f (cE (.int 1)) ρ= .ok (.int (i+1)):=by
 rw[ze,h,kj,zK,kj,Z6]
theorem UJ (a:f ρ= .ok (.int i))(d:g ρ= .ok (.int j))(h: -1000000 < i/\i < 1000000/\ -1000000 < j/\j < 1000000):JI f g ρ= .ok (rng i (j - i).toNat):=by
 unfold JI;rw[a,d];exact if_pos h
theorem QC:∀(a:List (Str×Int)) (x y:Sl),zy (zX 0 1) Z9 (vE 0) (a.map wV) [x,y]= .ok (a.map λc=>T.str c.1)
 | [],_,_=>rfl
 | c :: a,x,y=>by
  have e:zy (zX 0 1) Z9 (vE 0) ((c :: a).map wV) [x,y]=(zy _ _ _ _ [.vl _,.vl _]).bind λd=> .ok _:=rfl;rw[e,QC a];rfl
theorem We {x:T}{m:Nat}(h:m<=3):zY (.lst [x]) (.int (m:Int))= .ok (.lst (ai m [x]).flatten):=by
 unfold zY;dsimp only;have c:0<=(m:Int)/\(m:Int) < 1000000/\[x].length*(m:Int).toNat<=lB:=by
  have a:3<=lB:=by decide
  refine⟨by omega,by omega, ?_⟩
  rw[aC,cQ];exact ay h a
 rw[if_pos c,a_]
theorem jc {a:Type}(x:a):∀m:Nat,(ai m [x]).flatten=ai m x
 | 0=>rfl
 | m+1=>by rw[bH,e_,jc x m];rfl
abbrev UK (ca cr:List T->R T):En->RS:=Y5 1 (za 1 cr (z9 (zc zY (Z7 (z9 (za 1 ca (z9 (zc li (vE 0) (cE (.int 1))) (zd))) (zd))) (vE 2)) (zd)))
theorem KY (a:f ρ= .ok x):Z7 (z9 f zd) ρ= .ok (.lst [x]):=by
 unfold Z7 z9 zd;rw[a];rfl
theorem U2 {ca:List T->R T}{k:Kd}{t:T}{lo:Nat}{d:List T}(q:ca [t]= .ok (.lst d))(g:1<=d.length){a b c:T}:∀(js:List Nat) (acc:List T) (x:Sl),(∀j∈js,lo+j<=3)->acc.length+(js.map λj=>d.length ^ (lo+j)).sum<=lB->
  ∃y,Zv (zq 2) (UK ca me) (js.map λ(j:Nat)=>T.int ((lo:Int)+(j:Int))) [.vl (.tup [a,t,b,c]),.ow acc,x]= .nx [.vl (.tup [a,t,b,c]),.ow (acc++js.flatMap λj=>YC (ai (lo+j) d)),y]
 | [],acc,x,_,_=>⟨x,by simp[Zv]⟩
 | j :: js,acc,x,u,K=>by
  have B:=u j ag;rw[aF,cD]at K;have G:me [.lst ((ai (lo+j) d).map _)]= .ok _:=QA _ (by rw[aT];omega) (λl D=>by rw[bT D];exact g) (by rw[aX,jv];omega)
  have p:(YC (ai (lo+j) d)).length=d.length ^ (lo+j):=by rw[JR,aX,jv]
  have v:zY (.lst [.lst d]) (.int ((lo)+(j)))= .ok (.lst ((ai (lo+j) d).map T.lst)):=by
   have o:(lo:Int)+(j)=((lo+j:Nat)):=by omega
   rw[o,We (by omega),jc,aX]
  have I:UK ca me [.vl (.tup [a,t,b,c]),.ow acc,.vl (.int ((lo)+(j)))]= .nx [.vl (.tup [a,t,b,c]),.ow (acc++YC (ai (lo+j) d)),.vl (.int ((lo)+(j)))]:=by
   have o:za 1 me (z9 (zc zY (Z7 (z9 (za 1 ca (z9 (zc li (vE 0) (cE (.int 1))) (zd))) (zd))) (vE 2)) (zd)) [.vl (.tup [a,t,b,c]),.ow acc,.vl (.int ((lo)+(j)))]= .ok (.lst (YC (ai (lo+j) d))):=by
    have M:za 1 ca (z9 (zc li (vE 0) (cE (.int 1))) (zd)) [.vl (.tup [a,t,b,c]),.ow acc,.vl (.int ((lo)+(j)))]= .ok (.lst d):=by
     rw[zF,Jf,kj,q]
    rw[zF,ze,KY M,kj,v2,kj,v,kj,G]
   show ((za 1 _ _ _).s λt=>match t with | .lst J=>if acc.length+J.length<=lB then RS.nx _ else .bad | _=> .bad)=_
   rw[o];show (if _ then _ else _)=_
   rw[if_pos (by omega)]
   rfl
  obtain⟨y,w⟩:=U2 (k:=k) q g js (acc++YC (ai (lo+j) d)) _ (λi hi=>u i (ac _ hi)) (by rw[az];omega)
  refine⟨y, ?_⟩;have e:Zv (zq 2) (UK ca me) ((j :: js).map λ(j:Nat)=>T.int ((lo)+(j))) [.vl (.tup [a,t,b,c]),.ow acc,x]=match UK ca _ [.vl _,.ow acc,.vl _] with
   | .nx f=>Zv _ _ (js.map λ(j)=>T.int _) f
   | .ct f=>Zv _ _ (js.map λ(j)=>T.int _) f
   | .bk f=> .nx f
   | r=>r:=rfl
  rw[e,I];dsimp only;rw[w,bP,bg]
theorem xm (i:lo<=hi)(g:hi<=3){r:RS}
  (d:Zv (zq 2) (UK ca me) ((aU (hi+1 - lo)).map λ(j:Nat)=>T.int ((lo:Int)+(j:Int))) [.vl (.tup [a,t,.int (lo:Int),.int (hi:Int)]),.ow acc,x]=r):
  j5 (JI (zc li (vE 0) (cE (.int 2))) (zc zn (zc li (vE 0) (cE (.int 3))) (cE (.int 1)))) (zq 2) (UK ca me) [.vl (.tup [a,t,.int (lo:Int),.int (hi:Int)]),.ow acc,x]=r:=by
 have hn:((hi:Int)+1 - (lo)).toNat=hi+1 - lo:=by omega
 have f: -1000000 < (lo:Int)/\(lo:Int) < 1000000/\ -1000000 < (hi:Int)+1/\(hi:Int)+1 < 1000000:=by omega
 have e:j5 (JI (zc li (vE 0) (cE (.int 2))) (zc zn (zc li (vE 0) (cE (.int 3))) (cE (.int 1)))) (zq 2) (UK ca me) [.vl (.tup [a,t,.int (lo),.int (hi)]),.ow acc,x]=(JI _ _ _).s λts=>Zv _ _ ts _:=rfl;rw[e,UJ WX (UI gT) f,hn];exact d
theorem Fi (e:L=pw n lo hi)(h:L<=1000000):([]:List T).length+((aU (hi+1 - lo)).map λj=>n ^ (lo+j)).sum<=lB:=by
 have h' :pw n lo hi<=lB:=ay (e ▸ h) (by decide)
 rw[bw,eA];exact h'
theorem QD (d:Nat)(lo hi:Int)(h:(Kd.whole lo hi).Ok (d+1))(j:(Kd.whole lo hi).all.length<=1000000)(H:∀a :Kd,a.Ok d->ca [a.t]= .ok (.lst a.all)):zh (mr ca me (lm 3 [(Kd.whole lo hi).t]))= .ok (.lst (Kd.whole lo hi).all):=by
 have e:zh (mr ca me (lm 3 [(Kd.whole lo hi).t]))=zh (mr ca _ [.vl _,.un,.un]):=rfl;rw[e,mr,zz,Zk];obtain⟨i,g,f⟩:=h;simp only[Kd.t];rw[zN,ZC,JK];unfold tF;rw[UJ Jf (UI WX) ⟨by omega,by omega,by omega,by omega⟩]
 rfl
theorem xn (d:Nat)(a:List (Str×Int))(h:(Kd.pick a).Ok (d+1))(l:(Kd.pick a).all.length<=1000000)(H:∀f :Kd,f.Ok d->ca [f.t]= .ok (.lst f.all)):zh (mr ca me (lm 3 [(Kd.pick a).t]))= .ok (.lst (Kd.pick a).all):=by
 have g:lB=16777216:=rfl;have e:zh (mr ca me (lm 3 [(Kd.pick a).t]))=zh (mr ca _ [.vl _,.un,.un]):=rfl;rw[e,mr,zz,Zk];simp only[Kd.t];rw[mY,Ze,show (("pick":Str) == "whole")=false from rfl,if_neg aA,Wd];dsimp only;rw[zz,Zk,zN,ZC,JK,JK,j9,zE,Zt,Jf];have o:=h.2.1;have j:zp (zX 0 1) Z9 (vE 0) 2 [] [.vl (.tup [.str "pick",.tup (a.map wV)]),.un,.un] (a.map wV)= .ok (a.map λc=>T.str c.1):=by
  unfold zp;rw[if_pos (by rw[ah];omega)]
  show quiet (zy _ _ _ _ [.un,.un])=_;rw[QC];rfl
 show zh (match ((((R.ok _).bind λts=>(zp _ _ _ 2 [] _ ts).bind λk=> .ok _)).s λt=> .rt t) with | .nx i =>_ | r=>r)=_
 rw[kj,j];rfl
theorem KZ (d:Nat)(a:List Kd)(h:(Kd.row a).Ok (d+1))(p:(Kd.row a).all.length<=1000000)(H:∀f :Kd,f.Ok d->ca [f.t]= .ok (.lst f.all)):zh (mr ca me (lm 3 [(Kd.row a).t]))= .ok (.lst (Kd.row a).all):=by
 have u:lB=16777216:=rfl;have e:zh (mr ca me (lm 3 [(Kd.row a).t]))=zh (mr ca _ [.vl _,.un,.un]):=rfl;rw[e,mr,zz,Zk];obtain⟨I,J,j⟩:=h;simp only[Kd.t];rw[mY,Ze,show (("row":Str) == "whole")=false from rfl,if_neg aA,Wd];dsimp only;rw[zz,Zk,mY,Ze,show (("row":Str) == "pick")=false from rfl,if_neg aA,Wd];dsimp only;rw[zz,Zk,zN,ZC,JK,JK,j9,zF,Kd.ts_map];have G:zp (zq 0) Z9 (za 1 ca (z9 (vE 0) (zd))) 1 [] [.vl (.tup [.str "row",.tup (a.map Kd.t)]),.un,.un] (a.map Kd.t)= .ok ((a.map Kd.all).map T.lst):=by
  unfold zp;rw[if_pos (by rw[ah];omega)]
  show quiet (zy _ _ _ _ [.un])=_;have:∀(a:List Kd) (x:Sl),(∀k∈a,k.Ok d)->zy (zq 0) Z9 (za 1 ca (z9 (vE 0) (zd))) (a.map Kd.t) [x]= .ok ((a.map Kd.all).map T.lst):=by
   intro a
   induction a with
   | nil=>intro _ _;rfl
   | cons k a D=>
    intro x g;have B:zy (zq 0) Z9 (za 1 ca (z9 (vE 0) (zd))) ((k :: a).map _) [x]=(za 1 ca _ [.vl k.t]).bind λv=>(zy _ _ _ _ [.vl k.t]).bind λy=> .ok _:=rfl;rw[B,zF,v0,kj,H k (g k ag),D _ λf i =>g f (ac _ i)];rfl
  rw[this a .un j];rfl
 have o:=Ju a;have q:me [.lst ((a.map Kd.all).map _)]= .ok _:=QA _ (by rw[ah];omega) (λl p=>by
  obtain⟨k,g,rfl⟩:=aE.mp p;exact ZH d k (j k g)) (by
  rw[bi];show lN (a.map λk=>k.all.length)<=lB;omega)
 show zh (match ((((R.ok _).bind λts=>(zp _ _ _ 1 [] _ ts).bind λy=> .ok _).bind λx=>me [x]).s λt=> .rt t) with | .nx w =>_ | r=>r)=_
 rw[kj,G,kj,kj,q,Kd.all,Kd.alls_map];rfl
theorem xo {ca:List T->R T}(d:Nat)(k:Kd)(lo hi:Nat)(h:(Kd.many k lo hi).Ok (d+1))(p:(Kd.many k lo hi).all.length<=1000000)(H:∀g :Kd,g.Ok d->ca [g.t]= .ok (.lst g.all)):zh (mr ca me (lm 3 [(Kd.many k lo hi).t]))= .ok (.lst (Kd.many k lo hi).all):=by
 have u:lB=16777216:=rfl;have e:zh (mr ca me (lm 3 [(Kd.many k lo hi).t]))=zh (mr ca me [.vl (Kd.many k lo hi).t,.un,.un]):=rfl;rw[e,mr,zz,Zk];obtain⟨o,q,i⟩:=h;have f:=jE k lo hi;simp only[Kd.t];rw[mY,Ze,show (("many":Str) == "whole")=false from rfl,if_neg aA,Wd];dsimp only;rw[zz,Zk,mY,Ze,show (("many":Str) == "pick")=false from rfl,if_neg aA,Wd];dsimp only;rw[zz,Zk,mY,Ze,show (("many":Str) == "row")=false from rfl,if_neg aA,Wd];dsimp only;have v:wR 1 (zd) [.vl (.tup [.str "many",k.t,.int (lo:Int),.int (hi:Int)]),.un,.un]= .nx [.vl (.tup [.str "many",k.t,.int (lo:Int),.int (hi:Int)]),.ow [],.un]:=rfl;rw[zz,v];dsimp only;obtain⟨y,w⟩:=U2 (k:=k) (lo:=lo) (H k i) (ZH d k i) (a:= .str "many") (b:= .int (lo:Int)) (c:= .int (hi:Int)) (aU (hi+1 - lo)) [] .un (λj r=>by have:=aS.mp r;omega) (Fi f p)
 have l:=xm (ca:=ca) (t:=k.t) o q w;rw[bN]at l;rw[zb l,Kd.all];rfl
theorem xp (d:Nat)(k:Kd)(h:k.Ok (d+1))(a:k.all.length<=1000000)(H:∀e :Kd,e.Ok d->ca [e.t]= .ok (.lst e.all)):zh (mr ca me (lm 3 [k.t]))= .ok (.lst k.all):=by
 cases k with
 | whole lo hi=>exact QD d lo hi h a H
 | pick g=>exact xn d g h a H
 | row f=>exact KZ d f h a H
 | many k lo hi=>exact xo d k lo hi h a H
theorem QE:∀(d n:Nat),d<=n->d<=3->∀k:Kd,k.Ok d->k.all.length<=1000000->ou n 0 [k.t]= .ok (.lst k.all)
 | 0,_,_,_,_,h,_=>h.elim
 | d+1,0,hn,_,_,_,_=>by omega
 | d+1,n+1,hn,hd,k,h,g=>by
  have e:ou (n+1) 0 [k.t]=zh (mr (ou n 0) me (lm 3 [k.t])):=rfl;rw[e];refine xp d k h g λf a =>QE d n (by omega) (by omega) f a ?_
  have i:=jK d f a;have:mx d<=1000000:=by
   have:d=0\/d=1\/d=2:=by omega
   rcases this with rfl | rfl | rfl <;> decide
  omega
theorem Fm:zk lQ (zc li (vE 0) (cE (.int 0))) (zQ (z9 (cE (.str a)) (z9 (cE (.str b)) (zd)))) (.vl (.tup (.str x :: r)) :: ρ)=lQ (.str x) (.tup [.str a,.str b]):=by
 rw[zA,ze,v0,kj,zK,kj,mo,kj,Ym zK zK,kj]
theorem jV (h:g ρ= .ok true):lu g f1 f2 ρ=f1 ρ:=by rw[Zk,h,Ze,if_pos rfl]
theorem pj (h:g ρ= .ok false):lu g f1 f2 ρ=f2 ρ:=by rw[Zk,h,Ze,if_neg aA]
theorem zj (h:g ρ= .ok false):lu g f1 lq ρ= .nx ρ:=by rw[pj h];rfl
theorem zC (h:f ρ= .ok t):zr i f ρ= .nx (ρ.set i (.vl t)):=by rw[ZD,h,Ze]
theorem zg (h:f (frz ρ)= .ok t):zo f ρ= .rt t:=by rw[zN,h,Ze]
theorem jL {g:T->En->R En}(d:g t ρ= .ok ρ1)(a:fb ρ1= .nx ρ2):Zv g fb (t :: ts) ρ=Zv g fb ts ρ2:=by
 rw[Zv,d];dsimp only;rw[a]
theorem zu (h:f ρ= .rt t):zi f g ρ= .rt t:=by rw[zz,h]
theorem QF {i j:Nat}(h:i < 2 ^ 60):zY (.int (i:Int)) (.int (j:Int))= .ok (.int ((i*j:Nat):Int)):=by
 rw[Qo _ _ (.inl ⟨by omega,by omega⟩),i_]
theorem Cq (h:n<=mx d)(hd:d<=3):n < 2 ^ 60:=by
 have:d=0\/d=1\/d=2\/d=3:=by omega
 have a:mx 3 < 2 ^ 60:=by decide
 have e:mx 2 < 2 ^ 60:=by decide
 have g:mx 1 < 2 ^ 60:=by decide
 have f:mx 0 < 2 ^ 60:=by decide
 rcases this with rfl | rfl | rfl | rfl <;> omega
theorem yq {a b:Sl}:∀(ns:List Nat) (m:Nat) (x y:Sl),(∀n∈ns,1<=n)->m*lN ns < 2 ^ 60->∃j,Zv (zq 3) (zr 2 (zc zY (vE 2) (vE 3))) (ns.map λ(n:Nat)=>T.int (n:Int)) [a,b,.vl (.int (m:Int)),x,y]= .nx [a,b,.vl (.int ((m*lN ns:Nat):Int)),j,y]
 | [],m,x,y,_,_=>⟨x,by simp[Zv,lN]⟩
 | n :: ns,m,x,y,hp,g=>by
  have d:=wx λk e=>hp k (ac _ e);have hn:=hp n ag;have i:m<=m*lN (n :: ns):=d3 _ (f8 hn d);have f:=bW i g;rw[lN,← dm]at g;obtain⟨j,p⟩:=yq ns _ _ y (λk e=>hp k (ac _ e)) g;refine⟨j, ?_⟩;have l:zr 2 (zc zY (vE 2) (vE 3)) [a,b,.vl (.int (m)),.vl (.int (n)),y]= .nx [a,b,.vl (.int ((m*n):Int)),.vl (.int (n)),y]:=by
   rw[ZD,ze,v2,kj,v3,kj,QF f];rfl
  have o:zq 3 (T.int (n)) [a,b,.vl (.int (m)),x,y]= .ok _:=rfl;rw[aF,jL o l,lN,← dm];exact p
theorem xr:∀(d:Nat) (lo hi:Int),(Kd.whole lo hi).Ok (d+1)->(Kd.whole lo hi).Ok 1
 | _,_,_,h=>h
theorem xt:∀(d:Nat) (a:List (Str×Int)),(Kd.pick a).Ok (d+1)->(Kd.pick a).Ok 1
 | _,_,h=>h
theorem U3 (k:Kd)(h:k.Ok 1)(a:k.t= .tup (.str x :: r))(f:lQ (.str x) (.tup [.str "whole",.str "pick"])= .ok true):zh (mQ (m8 8) cs (lm 5 [k.t]))= .ok (.int (k.all.length:Int)):=by
 have i:m8 8 _= .ok _:=QE 1 8 (by omega) (by omega) k h (ay (jK 1 k h) (by decide))
 have e:zh (mQ (m8 8) cs (lm 5 [k.t]))=zh (mQ _ cs [.vl k.t,.un,.un,.un,.un]):=rfl;have g:zk lQ (zc li (vE 0) (cE (.int 0))) (zQ (z9 (cE (.str "whole")) (z9 (cE (.str "pick")) (zd)))) [.vl k.t,.un,.un,.un,.un]= .ok true:=by
  rw[a,Fm,f]
 have d:zo (lj zM (za 1 (m8 8) (z9 (vE 0) (zd)))) [.vl k.t,.un,.un,.un,.un]= .rt (.int (k.all.length)):=by
  refine zg ?_;rw[ZC,Z5,zF,v0,kj,i,kj,VZ]
 rw[e,mQ,zu (by rw[jV g,d])]
 rfl
theorem Ft (b:Bool):b2 b=(iv b:Int):=by cases b <;> rfl
theorem xu (hd:d+1<=3)(f:List Kd)(h:(Kd.row f).Ok (d+1))(H:∀k:Kd,k.Ok d->cs [k.t]= .ok (.int (k.all.length:Int))):zh (mQ (m8 8) cs (lm 5 [(Kd.row f).t]))= .ok (.int ((Kd.row f).all.length:Int)):=by
 have g:=Cq (jK _ _ h) hd;rw[Ju]at g ⊢;obtain⟨I,w,o⟩:=h;simp only[Kd.t,Kd.ts_map];have e:zh (mQ (m8 8) cs (lm 5 [.tup [.str "row",.tup (f.map Kd.t)]]))=zh (mQ _ cs [.vl _,.un,.un,.un,.un]):=rfl;have j:zk lQ (zc li (vE 0) (cE (.int 0))) (zQ (z9 (cE (.str "whole")) (z9 (cE (.str "pick")) (zd)))) [.vl (.tup [.str "row",.tup (f.map Kd.t)]),.un,.un,.un,.un]= .ok false:=by
  rfl
 have G:zp (zq 0) Z9 (za 1 cs (z9 (vE 0) (zd))) 1 [] [.vl (.tup [.str "row",.tup (f.map Kd.t)]),.un,.un,.un,.un] (f.map Kd.t)= .ok ((f.map λk=>k.all.length).map λ(n:Nat)=>T.int (n)):=by
  unfold zp;rw[if_pos (by rw[ah];exact ay w (by decide))]
  have:∀(f:List Kd) (x:Sl),(∀k∈f,k.Ok d)->zy (zq 0) Z9 (za 1 cs (z9 (vE 0) (zd))) (f.map Kd.t) [x]= .ok ((f.map λk=>k.all.length).map λ(n:Nat)=>T.int (n)):=by
   intro f
   induction f with
   | nil=>intro _ _;rfl
   | cons k f B=>
    intro x i;have j:zy (zq 0) Z9 (za 1 cs (z9 (vE 0) (zd))) ((k :: f).map _) [x]=(za 1 cs _ [.vl k.t]).bind λv=>(zy _ _ _ _ [.vl k.t]).bind λK=> .ok _:=rfl;rw[j,zF,v0,kj,H k (i k ag),B _ λq l =>i q (ac _ l)];rfl
  show quiet (zy _ _ _ _ [.un])=_;rw[this f .un o];rfl
 have y:lP (zk ll (zc li (vE 0) (cE (.int 0))) (cE (.str "row"))) (zv (Zg (zc li (vE 0) (cE (.int 1)))) (zq 0) (Z9) (za 1 cs (z9 (vE 0) (zd))) 1 []) (Z7 (zd)) [.vl (.tup [.str "row",.tup (f.map Kd.t)]),.un,.un,.un,.un]= .ok (.lst ((f.map λk=>k.all.length).map λ(n:Nat)=>T.int (n))):=by
  unfold lP;rw[mY,kj,show (("row":Str) == "row")=true from rfl,if_pos rfl,zE,Zt,Jf];show ((R.ok _).bind _)=_;rw[kj,G,kj]
 obtain⟨J,p⟩:=yq (a:= .vl _) (f.map λk=>k.all.length) 1 .un .un (λn hn=>by
  obtain⟨k,i,rfl⟩:=aE.mp hn;exact ZH d k (o k i)) (by rw[cQ];exact g)
 rw[cQ]at p;have u:j5 (Zg (vE 1)) _ _ [.vl _,.vl (.lst ((f.map λk=>k.all.length).map λ(n:Nat)=>T.int (n))),.vl (.int 1),.un,.un]=_:=p;rw[e,mQ,zb (zj j),zb (zC y)];have D:([.vl (.tup [.str "row",.tup (f.map Kd.t)]),.un,.un,.un,.un]:En).set 1 (.vl (.lst ((f.map λk=>k.all.length).map λ(n:Nat)=>T.int (n))))=[.vl _,.vl (.lst ((f.map λk=>k.all.length).map λ(n:Nat)=>T.int (n))),.un,.un,.un]:=rfl;rw[D,zb (zC zK)];have r:([.vl (.tup [.str "row",.tup (f.map Kd.t)]),.vl (.lst ((f.map λk=>k.all.length).map λ(n:Nat)=>T.int (n))),.un,.un,.un]:En).set 2 (.vl (.int 1))=[.vl _,.vl (.lst ((f.map λk=>k.all.length).map λ(n)=>T.int _)),.vl _,.un,.un]:=rfl;rw[r,zb u];rfl
theorem Cd (a:f ρ= .ok (.int i))(d:g ρ= .ok (.int j)):mm lA lA f (cE (.int c)) g ρ= .ok (.bl (decide (i<=c) && decide (c<=j))):=by
 rw[Yh,a,kj,zK,kj,Js,d];cases decide (i<=c) <;> rfl
theorem Wf (a b:Nat):decide ((a:Int)<=(b:Int))=decide (a<=b):=by
 by_cases h:a<=b
 ·rw[decide_eq_true h];exact decide_eq_true (by omega)
 ·rw[decide_eq_false h];exact decide_eq_false (by omega)
theorem yr (a b:Nat):((a:Int) == (b:Int))=(a == b):=by
 by_cases h:a=b
 ·subst h;simp
 ·rw[beq_eq_false_iff_ne.mpr h,beq_eq_false_iff_ne];omega
theorem sf (h:f ρ= .ok (.bl b)):lj qI f ρ= .ok (.int ((iv b:Nat):Int)):=by
 rw[Z5,h];show R.ok _=_;rw[Ft]
theorem QG (a:f ρ= .ok (.int (i:Int)))(d:g ρ= .ok (.int (j:Int))):zc zn f g ρ= .ok (.int ((i+j:Nat):Int)):=by
 rw[ze,a,kj,d,kj,Z6,Int.natCast_add]
theorem Jv (h:i < 2 ^ 60)(d:f ρ= .ok (.int (i:Int)))(a:g ρ= .ok (.int (j:Int))):zc zY f g ρ= .ok (.int ((i*j:Nat):Int)):=by
 rw[ze,d,kj,a,kj,QF h]
theorem g6 (h:n<=mx d)(hd:d+1<=3)(k:1<=d):n*n*n < 2 ^ 60/\n*n < 2 ^ 60/\n < 2 ^ 60:=by
 have a:n<=70644:=by
  have:d=1\/d=2:=by omega
  have e:mx 2=70644:=by decide
  have a:mx 1=41:=by decide
  rcases this with rfl | rfl <;> omega
 have e:=d5 a a;have f:=d5 e a;have g:70644*70644*70644 < 2 ^ 60:=by decide
 have j:70644*70644 < 2 ^ 60:=by decide
 have i:70644 < 2 ^ 60:=by decide
 exact⟨bW f g,bW e j,bW a i⟩
noncomputable abbrev mt (t:T)(lo hi:Nat):T:= .tup [.str "many",t,.int (lo:Int),.int (hi:Int)]
theorem oG :vE 4 (a :: b :: c :: d :: .vl t :: ρ)= .ok t:=rfl
theorem QH {t:T}{a x:Sl}{lo hi n:Nat}(u:n*n*n < 2 ^ 60)(l:n*n < 2 ^ 60)(d:n < 2 ^ 60):
  zi (zr 2 (zc zn (lj qI (ZQ ll (zc li (vE 0) (cE (.int 2))) (cE (.int 0)))) (zc zY (vE 4) (lj qI (mm lA lA (zc li (vE 0) (cE (.int 2))) (cE (.int 1)) (zc li (vE 0) (cE (.int 3))))))))
  (zi (zr 2 (zc zn (vE 2) (zc zY (zc zY (vE 4) (vE 4)) (lj qI (mm lA lA (zc li (vE 0) (cE (.int 2))) (cE (.int 2)) (zc li (vE 0) (cE (.int 3))))))))
  (zr 2 (zc zn (vE 2) (zc zY (zc zY (zc zY (vE 4) (vE 4)) (vE 4)) (lj qI (ZQ ll (zc li (vE 0) (cE (.int 3))) (cE (.int 3))))))))
  [.vl (mt t lo hi),a,.vl (.int 1),x,.vl (.int (n:Int))]= .nx [.vl (mt t lo hi),a,.vl (.int ((iv (lo == 0)+n*iv (decide (lo<=1) && decide (1<=hi))+n*n*iv (decide (lo<=2) && decide (2<=hi))+n*n*n*iv (hi == 3):Nat):Int)),x,.vl (.int (n:Int))]:=by
 have j:∀{p q r s:Sl},lj _ (mm lA lA _ _ _) [.vl (mt t lo hi),p,q,r,s]= .ok (.int ((iv (decide (lo<=1) && decide (1<=hi))):Int)):=λ{p q r s}=>sf (by
  rw[Cd WX gT];rw[show decide ((lo:Int)<=1)=decide _ from Wf lo 1,show decide ((1:Int)<=(hi))=decide _ from Wf 1 hi])
 have f:∀{p q r s:Sl},lj _ (mm lA lA _ _ _) [.vl (mt t lo hi),p,q,r,s]= .ok (.int ((iv (decide (lo<=2) && decide (2<=hi))):Int)):=λ{p q r s}=>sf (by
  rw[Cd WX gT];rw[show decide ((lo:Int)<=2)=decide _ from Wf lo 2,show decide ((2:Int)<=(hi))=decide _ from Wf 2 hi])
 have k:∀{p q r s:Sl},lj _ (ZQ ll (zc li _ _) (cE _)) [.vl (mt t lo hi),p,q,r,s]= .ok _:=λ{p q r s}=>sf (by
  rw[Za,WX,kj,zK,kj,mD,kj,show ((lo:Int) == 0)=(lo == 0) from yr lo 0])
 have e:∀{p q r s:Sl},lj _ (ZQ ll (zc li _ _) (cE _)) [.vl (mt t lo hi),p,q,r,s]= .ok _:=λ{p q r s}=>sf (by
  rw[Za,gT,kj,zK,kj,mD,kj,show ((hi:Int) == 3)=(hi == 3) from yr hi 3])
 have g:=zC (i:=2) (QG (k (p:=a) (q:= .vl (.int 1)) (r:=x)) (Jv d oG j));have g:zr 2 _ _= .nx [.vl _,a,.vl _,x,.vl _]:=g;rw[zb g];generalize iv _+n*iv _=m1;have o:=zC (i:=2) (QG (v2 (t:= .int (m1)) (b:=a) (ρ:=[x,.vl _])) (Jv l (Jv d oG oG) f));rw[zb o];generalize m1+n*n*iv _=m2;have v:=zC (i:=2) (QG (v2 (t:= .int (m2)) (b:=a) (ρ:=[x,.vl _])) (Jv u (Jv l (Jv d oG oG) oG) e));exact v
theorem QI {f:List T->R T}{d:Nat}(hd:d+1<=3)(k:Kd)(lo hi:Nat)(h:(Kd.many k lo hi).Ok (d+1))(H:∀k:Kd,k.Ok d->f [k.t]= .ok (.int (k.all.length:Int))):zh (mQ (m8 8) f (lm 5 [(Kd.many k lo hi).t]))= .ok (.int ((Kd.many k lo hi).all.length:Int)):=by
 obtain⟨r,w,g⟩:=h;have i:1<=d:=by
  cases d with
  | zero=>exact g.elim
  | succ d=>omega
 obtain⟨I,u,p⟩:=g6 (jK d k g) hd i;rw[jE,KU _ r w];simp only[Kd.t];have j:=H k g;generalize k.all.length=n at*;generalize k.t=t at*;have e:zh (mQ (m8 8) f (lm 5 [mt t lo hi]))=zh (mQ _ f [.vl _,.un,.un,.un,.un]):=rfl;have D:zk lQ (zc li (vE 0) (cE (.int 0))) (zQ (z9 (cE (.str "whole")) (z9 (cE (.str "pick")) (zd)))) [.vl (mt t lo hi),.un,.un,.un,.un]= .ok false:=by
  rfl
 have B:lP (zk ll (zc li (vE 0) (cE (.int 0))) (cE (.str "row"))) (zv (Zg (zc li (vE 0) (cE (.int 1)))) (zq 0) (Z9) (za 1 f (z9 (vE 0) (zd))) 1 []) (Z7 (zd)) [.vl (mt t lo hi),.un,.un,.un,.un]= .ok (.lst []):=by
  rfl
 have J:([.vl (mt t lo hi),.un,.un,.un,.un]:En).set 1 (.vl (.lst []))=[.vl _,.vl _,.un,.un,.un]:=rfl;have q:([.vl (mt t lo hi),.vl (.lst []),.un,.un,.un]:En).set 2 (.vl (.int 1))=[.vl _,.vl _,.vl _,.un,.un]:=rfl;have v:j5 (Zg (vE 1)) (zq 3) (zr 2 (zc zY (vE 2) (vE 3))) [.vl (mt t lo hi),.vl (.lst []),.vl (.int 1),.un,.un]= .nx _:=rfl;have y:zk ll (zc li (vE 0) (cE (.int 0))) (cE (.str "many")) [.vl (mt t lo hi),.vl (.lst []),.vl (.int 1),.un,.un]= .ok true:=by
  rfl
 have G:za 1 f (z9 (zc li (vE 0) (cE (.int 1))) (zd)) [.vl (mt t lo hi),.vl (.lst []),.vl (.int 1),.un,.un]= .ok (.int (n)):=by
  rw[zF,Jf,kj,j]
 have o:([.vl (mt t lo hi),.vl (.lst []),.vl (.int 1),.un,.un]:En).set 4 (.vl (.int (n)))=[.vl _,.vl _,.vl _,.un,.vl _]:=rfl;have l:=QH (t:=t) (a:= .vl (.lst [])) (x:= .un) (lo:=lo) (hi:=hi) I u p;rw[e,mQ,zb (zj D),zb (zC B),J,zb (zC zK),q,zb v];have e7:∀(P:En->RS),lu _ (zi _ P) lq _=P _:=λP=>by
  rw[jV y,zb (zC G),o]
 rw[zb (Eq.trans (e7 _) l)];rfl
theorem QJ:∀(d n:Nat),d<=n->d<=3->∀k:Kd,k.Ok d->sK n 0 [k.t]= .ok (.int (k.all.length:Int))
 | 0,_,_,_,_,h=>h.elim
 | d+1,0,hn,_,_,_=>by omega
 | d+1,n+1,hn,hd,k,h=>by
  have H:=λg a =>QJ d n (by omega) (by omega) g a
  cases k with
  | whole lo hi=>exact U3 _ (xr d lo hi h) (x:="whole") (r:=[.int lo,.int hi]) (by simp only[Kd.t]) rfl
  | pick e=>exact U3 _ (xt d e h) (x:="pick") (r:=[.tup (e.map wV)]) (by simp only[Kd.t]) rfl
  | row f=>exact xu (by omega) f h H
  | many k lo hi=>exact QI (by omega) k lo hi h H
theorem Ok.mono:∀(d:Nat) (k:Kd),k.Ok d->k.Ok (d+1)
 | 0,_,h=>h.elim
 | d+1,.whole _ _,h=>h
 | d+1,.pick _,h=>h
 | d+1,.row e,h=>⟨h.1,h.2.1,λk a=>Ok.mono d k (h.2.2 k a)⟩
 | d+1,.many k _ _,h=>⟨h.1,h.2.1,Ok.mono d k h.2.2⟩
theorem g9 (j:Int):zY (.int 700) (.int j)= .ok (.int (700*j)):=Qo _ _ (.inl ⟨by decide,by decide⟩)
theorem Cf (ns:List Int)(d:Nat)(i:1<=d)(g:d<=8)(k:Int)(e:0<=k):∃q:Kd,nS 8 [lx ns,.int k,.int (d:Int)]= .ok q.t/\q.Ok d:=by
 obtain⟨t,a,hi⟩:=UA ns d 8 g i k e;obtain⟨q,rfl,f⟩:=UH d t hi;exact⟨q,a,f⟩
abbrev oq:En->RS:=zi (lu (zk lA (za 1 (pO 8) (z9 (vE 3) (zd))) (vB 2)) (zo (vE 3)) (lq))
  (zr 3 (za 3 (nS 8) (z9 (vE 0) (z9 (zc zn (zc zn (vE 1) (cE (.int 500))) (zc zY (cE (.int 700)) (vE 4))) (z9 (cE (.int 2)) (zd))))))
abbrev ng (ns:List Int)(a:Int)(m:Nat)(k:Kd)(x:Sl):En:=[.vl (lx ns),.vl (.int a),.vl (.int (m:Int)),.vl k.t,x]
theorem QK (d:k.Ok 3):zk lA (za 1 (pO 8) (z9 (vE 3) (zd))) (vB 2) (ng ns a m k x)= .ok (decide (k.all.length<=m)):=by
 have e:pO 8 _= .ok _:=QJ 3 8 (by omega) (by omega) k d
 rw[zA,zF,v3,kj,e,kj,w2,kj,Js,Wf]
theorem gc (ns:List Int)(l:0<=a)(f:k.Ok 3)(j:Nat):(k.all.length<=m/\oq (ng ns a m k (.vl (.int (0+(j:Int)))))= .rt k.t)\/∃g :Kd,g.Ok 3/\oq (ng ns a m k (.vl (.int (0+(j:Int)))))= .nx (ng ns a m g (.vl (.int (0+(j:Int))))):=by
 by_cases h:k.all.length<=m
 ·refine .inl ⟨h, ?_⟩;refine zu ?_;rw[jV (by rw[QK f,decide_eq_true h])]
  exact zg rfl
 ·obtain⟨q,d,i⟩:=Cf ns 2 (by omega) (by omega) (a+500+700*(0+(j))) (by omega)
  refine .inr ⟨q,Ok.mono 2 q i, ?_⟩;unfold oq;rw[zb (zj (by rw[QK f,decide_eq_false h]))]
  have d:nS 8 [lx ns,.int _,.int 2]= .ok q.t:=d;have e:za 3 (nS 8) (z9 (vE 0) (z9 (zc zn (zc zn (vE 1) (cE (.int 500))) (zc zY (cE (.int 700)) (vE 4))) (z9 (cE (.int 2)) (zd)))) (ng ns a m k (.vl (.int (0+(j)))))= .ok q.t:=by
   rw[Z4,v0,kj,ze,ze,v1,kj,zK,kj,Z6,kj,ze,zK,kj,v4,kj,g9,kj,Z6,kj,zK,kj,d]
  rw[zC e];rfl
theorem DB {g:T->En->R En}(d:g t ρ= .ok ρ1)(a:fb ρ1= .rt r):Zv g fb (t :: ts) ρ= .rt r:=by
 rw[Zv,d];dsimp only;rw[a]
theorem QL (ns:List Int)(l:0<=a):∀(js:List Nat) (k:Kd) (x:Sl),k.Ok 3->(∃d :Kd,d.Ok 3/\d.all.length<=m/\Zv (zq 4) oq (js.map λ(j:Nat)=>T.int (0+(j:Int))) (ng ns a m k x)= .rt d.t)\/
  ∃(d :Kd) (o :Sl),d.Ok 3/\Zv (zq 4) oq (js.map λ(j:Nat)=>T.int (0+(j:Int))) (ng ns a m k x)= .nx (ng ns a m d o)
 | [],k,x,e=> .inr ⟨k,x,e,rfl⟩
 | j :: js,k,x,e=>by
  have i:zq 4 (T.int (0+(j))) (ng ns a m k x)= .ok _:=rfl;rw[aF];rcases gc ns l e j with ⟨g,f⟩ | ⟨d,g,f⟩
  ·exact .inl ⟨k,e,g,DB i f⟩
  ·rw[jL i f];exact QL ns l js d _ g
theorem xv (ns:List Int)(a:Int)(j:0<=a)(m:Nat)(v:4<=m):∃k:Kd,k.Ok 3/\k.all.length<=m/\pQ [lx ns,.int a,.int (m:Int)]= .ok k.t:=by
 obtain⟨q,f,p⟩:=Cf ns 3 (by omega) (by omega) a j
 have f:nS 8 [lx ns,.int a,.int 3]= .ok q.t:=f;have e:pQ [lx ns,.int a,.int (m)]=zh (si _ _ [.vl _,.vl _,.vl _,.un,.un]):=rfl;have r:za 3 (nS 8) (z9 (vE 0) (z9 (vE 1) (z9 (cE (.int 3)) (zd)))) [.vl (lx ns),.vl (.int a),.vl (.int (m)),.un,.un]= .ok q.t:=by
  rw[Z4,v0,kj,v1,kj,zK,kj,f]
 have u:([.vl _,.vl _,.vl _,.un,.un]:En).set 3 _=ng ns a m q .un:=rfl;rw[e,si,zb (zC r),u];rcases QL ns j _ q .un p with ⟨k,d,o,g⟩ | ⟨k,x,d,g⟩
 ·refine⟨k,d,o, ?_⟩;have i:j5 (zO (cE (.int 3))) (zq 4) oq _= .rt k.t:=g;rw[zu i];rfl
 ·have i:j5 (zO (cE (.int 3))) (zq 4) oq _= .nx _:=g;rw[zb i];have l:zk lA _ _ (frz (ng ns a m k x))= .ok _:=QK d
  by_cases h:k.all.length<=m
  ·refine⟨k,d,h, ?_⟩;rw[zg]
   ·rfl
   ·unfold lP;rw[l,decide_eq_true h];rfl
  ·refine⟨.whole (-1) 2,⟨by omega,by omega,by omega⟩,by exact v, ?_⟩
   rw[zg]
   ·rfl
   ·unfold lP;rw[l,kj,decide_eq_false h,if_neg aA];rfl
mutual
noncomputable def Kd.has:Kd->T->Bool
 | .whole lo hi=>λt=>mW lo hi t
 | .pick d=>λt=>match t with | .str x=>d.any λc=>c.1 == x | _=>false
 | .row a=>λt=>match t with | .tup xs=>xs.length == a.length && Kd.hass a xs | _=>false
 | .many k lo hi=>λt=>match t with | .tup xs=>decide (lo<=xs.length) && decide (xs.length<=hi) && xs.all k.has | _=>false
noncomputable def Kd.hass:List Kd->List T->Bool
 | []=>λ_=>true
 | k :: a=>λxs=>match xs with | []=>true | x :: xs=>k.has x && Kd.hass a xs
end
theorem WY:∀(a:List Kd) (xs:List T),Kd.hass a xs=(a.zip xs).all λq=>q.1.has q.2
 | [],_=>by simp[Kd.hass]
 | k :: a,[]=>by simp[Kd.hass]
 | k :: a,x :: xs=>by simp[Kd.hass,WY a xs]
noncomputable def Yt:List (List T)->List T->Prop
 | [],[]=>True
 | l :: a,x :: xs=>x∈l/\Yt a xs
 | _,_=>False
theorem wB:∀(g made:List (List T)) (xs:List T),xs∈ZN made g↔∃a∈made,∃b,Yt g b/\xs=a++b
 | [],made,xs=>by
  rw[ZN];constructor
  ·exact λh=>⟨xs,h,[],trivial,by simp⟩
  ·rintro⟨a,f,b,d,rfl⟩
   cases b with
   | nil=>simpa using f
   | cons=>exact d.elim
 | l :: g,made,xs=>by
  rw[ZN,wB g];constructor
  ·rintro⟨o,i,b,d,rfl⟩
   obtain⟨a,f,j⟩:=d4.mp i;obtain⟨x,k,e⟩:=aE.mp j;exact⟨a,f,x :: b,⟨k,d⟩,by rw[← e];simp⟩
  ·rintro⟨a,f,b,d,rfl⟩
   cases b with
   | nil=>exact d.elim
   | cons x b=>exact⟨a++[x],d4.mpr ⟨a,f,aE.mpr ⟨x,d.1,rfl⟩⟩,b,d.2,by simp⟩
theorem WZ (d:List (List T))(t:T):t∈YC d↔∃xs,Yt d xs/\t= .tup xs:=by
 rw[aE];constructor
 ·rintro⟨xs,h,rfl⟩
  obtain⟨a,f,b,e,rfl⟩:=(wB d _ xs).mp h;rw[aH.mp f];exact⟨b,e,rfl⟩
 ·rintro⟨xs,h,rfl⟩
  exact⟨xs,(wB d _ xs).mpr ⟨[],aH.mpr rfl,xs,h,rfl⟩,rfl⟩
theorem u3 (l:List T):∀(m:Nat) (xs:List T),Yt (ai m l) xs↔xs.length=m/\∀x∈xs,x∈l
 | 0,[]=>by simp[Yt]
 | 0,x :: xs=>by simp[Yt]
 | m+1,[]=>by simp[Yt,bH]
 | m+1,x :: xs=>by
  show x∈l/\Yt _ xs↔_;rw[u3 l m xs];simp;constructor
  ·rintro⟨a,b,c⟩;exact⟨b,a,c⟩
  ·rintro⟨a,b,c⟩;exact⟨b,a,c⟩
theorem U4:∀(d:List Kd),(∀k∈d,∀x,x∈k.all↔k.has x=true)->∀xs,Yt (d.map Kd.all) xs↔(xs.length == d.length && Kd.hass d xs)=true
 | [],_,[]=>by simp[Yt,Kd.hass]
 | [],_,x :: xs=>by simp[Yt]
 | k :: d,h,[]=>by simp[Yt]
 | k :: d,h,x :: xs=>by
  show x∈k.all/\Yt _ xs↔_;rw[U4 d (λf e =>h f (ac _ e)) xs,h k ag x];simp[Kd.hass];constructor
  ·rintro⟨a,b,c⟩;exact⟨b,a,c⟩
  ·rintro⟨a,b,c⟩;exact⟨b,a,c⟩
mutual
theorem ZT:∀(k:Kd) (x:T),x∈k.all↔k.has x=true
 | .whole lo hi,x=>by
  rw[Kd.all,Kd.has,aE];constructor
  ·rintro⟨i,a,rfl⟩
   rw[aS]at a;simp[mW];omega
  ·intro h;obtain⟨i,rfl⟩:=WS h;simp[mW]at h;exact⟨(i - lo).toNat,by rw[aS];omega,by congr 1;omega⟩
 | .pick g,x=>by
  rw[Kd.all,Kd.has,aE];constructor
  ·rintro⟨c,d,rfl⟩
   simp only[eH];exact⟨c,d,by simp⟩
  ·intro h;dsimp only at h;split at h
   ·rw[eH]at h;obtain⟨c,d,e⟩:=h;exact⟨c,d,by rw[eq_of_beq e]⟩
   ·cases h
 | .row f,x=>by
  rw[Kd.all,Kd.has,WZ,Kd.alls_map];have:=U4 f (yt f);constructor
  ·rintro⟨xs,h,rfl⟩
   exact(this xs).mp h
  ·intro h;dsimp only at h;split at h
   ·rename_i xs;exact⟨xs,(this xs).mpr h,rfl⟩
   ·cases h
 | .many k lo hi,x=>by
  rw[Kd.all,Kd.has,d4];constructor
  ·rintro⟨i,a,h⟩
   rw[WZ]at h;obtain⟨xs,h,rfl⟩:=h;rw[u3]at h;rw[aS]at a;simp only[ae,decide_eq_true_eq,aO];exact⟨⟨by omega,by omega⟩,λy hy=>(ZT k y).mp (h.2 y hy)⟩
  ·intro h;dsimp only at h;split at h
   ·rename_i xs;simp only[ae,decide_eq_true_eq,aO]at h;refine⟨xs.length - lo,by rw[aS];omega, ?_⟩
    rw[WZ];exact⟨xs,(u3 _ _ _).mpr ⟨by omega,λy hy=>(ZT k y).mpr (h.2 y hy)⟩,rfl⟩
   ·cases h
theorem yt:∀(a:List Kd),∀k∈a,∀x,x∈k.all↔k.has x=true
 | [],_,h=>nomatch h
 | k :: a,d,h=>by
  rcases aq.mp h with e | h
  ·intro x;rw[e];exact ZT k x
  ·exact yt a d h
end
theorem Wg:∀(a:List (Kd×T)) (x y:Sl),(∀q∈a,c [q.1.t,q.2]= .ok (.bl (q.1.has q.2)))->zy (zX 0 1) Z9 (za 2 c (z9 (vE 0) (z9 (vE 1) (zd)))) (a.map λq=>T.tup [q.1.t,q.2]) [x,y]= .ok (a.map λq=>T.bl (q.1.has q.2))
 | [],_,_,_=>rfl
 | q :: a,x,y,h=>by
  have e:za 2 c (z9 (vE 0) (z9 (vE 1) (zd))) [.vl q.1.t,.vl q.2]= .ok (.bl (q.1.has q.2)):=by
   rw[zx,v0,kj,v1,kj,h q ag]
  have f:=Wg a (.vl q.1.t) (.vl q.2) λr hr=>h r (ac _ hr);have d:zy (zX 0 1) Z9 (za 2 c (z9 (vE 0) (z9 (vE 1) (zd)))) ((q :: a).map λq=>T.tup [q.1.t,q.2]) [x,y]=
   (za 2 c _ [.vl _,.vl q.2]).bind λv=>(zy _ _ _ (a.map λq=>T.tup _) [.vl _,.vl q.2]).bind λg=> .ok _:=rfl
  rw[d,e,kj,f,kj,aF]
theorem u6 {d:Type}(p:d->Bool):∀a:List d,uF (a.map λq=>T.bl (p q))=some (a.all p)
 | []=>rfl
 | q :: a=>by
  have e:uF ((q :: a).map λq=>T.bl (p q))=match uF (a.map λq=>T.bl _) with | some j=>some _ | none=>none:=rfl
  rw[e,u6 p a];rfl
theorem B8 (a:List Kd)(xs:List T):V3 (a.map Kd.t) xs=(a.zip xs).map λq=>T.tup [q.1.t,q.2]:=by
 unfold V3;rw[List.zip_map_left,bi];rfl
theorem yu (a:List Kd)(xs:List T)(d:Jo s= .ok (a.map Kd.t))(e:a.length<=3)(H:∀q∈a.zip xs,c [q.1.t,q.2]= .ok (.bl (q.1.has q.2))):
  zh (rP c (lm 2 [s,.tup xs]))= .ok (.bl ((a.zip xs).all λq=>q.1.has q.2)):=by
 have g:Kg (vE 0) (vE 1) [.vl s,.vl (.tup xs)]= .ok ((a.zip xs).map λq=>T.tup [q.1.t,q.2]):=by
  show (Jo s).bind _=_;rw[d,← B8];rfl
 have f:((a.zip xs).map λq=>T.tup [q.1.t,q.2]).length<=lB:=by
  rw[ah,fU];exact ay (l8 _ _) (ay e (by decide))
 have i:zp (zX 0 1) Z9 (za 2 c (z9 (vE 0) (z9 (vE 1) (zd)))) 2 [] [.vl s,.vl (.tup xs)] ((a.zip xs).map λq=>T.tup [q.1.t,q.2])= .ok ((a.zip xs).map λq=>T.bl (q.1.has q.2)):=by
  unfold zp;rw[if_pos f];show quiet (zy _ _ _ _ [.un,.un])=_;rw[Wg _ _ _ H];rfl
 rw[rP,zg]
 ·rfl
 ·show lj _ _ [.vl s,.vl _]=_;rw[Z5,zE,g,kj,i,kj];show (match uF ((a.zip xs).map λq=>T.bl _) with | some k=>_ | none=>_)=_
  rw[u6]
theorem JS (a:List (Str×Int))(h:a.length<=4):mJ [(Kd.pick a).t]= .ok (.lst (a.map λc=>T.str c.1)):=by
 have e:mJ [(Kd.pick a).t]=zh (sF [.vl (.tup [.str "pick",.tup (a.map wV)])]):=by rfl
 have f:(a.map wV).length<=lB:=by rw[ah];exact ay h (by decide)
 have g:zp _ _ (zc li (vE 0) (cE (.int 0))) 1 [] [.vl (.tup [.str "pick",.tup (a.map wV)])] _= .ok ((a.map wV).map λc=>match c with | .tup (w :: _)=>w | _=>c):=
  zP _ f λt d=>by
   obtain⟨c,_,rfl⟩:=aE.mp d;rfl
 rw[e,sF,zg]
 ·rfl
 ·show zv _ _ _ _ _ _ [.vl _]=_;show ((zp _ _ _ _ _ _ _).bind _)=_;rw[g,bi];rfl
theorem yv (t:T):∀a:List (Str×Int),Ji (λy=>lw 30 y t) (a.map λc=>T.str c.1)=some ((Kd.pick a).has t)
 | []=>by cases t <;> rfl
 | c :: a=>by
  have f:=yv t a;have e:Ji (λy=>lw 30 y t) ((c :: a).map λc=>T.str c.1)=match lw 30 _ t with
   | none=>none
   | some b=>match Ji (λy=>lw 30 y t) (a.map λc=>T.str c.1) with
    | none=>none
    | some d=>some _:=rfl
  rw[e,f];cases t <;> rfl
abbrev ly (a b:T):En:=[.vl a,.vl b]
theorem JT (h:(x == w)=false):lu (zk ll (zc li (vE 0) (cE (.int 0))) (cE (.str w))) f lq (ly (.tup (.str x :: r)) b)= .nx (ly (.tup (.str x :: r)) b):=
 zj (by rw[mY,h])
theorem QM:lu (zk ll (zc li (vE 0) (cE (.int 0))) (cE (.str x))) f lq (ly (.tup (.str x :: r)) b)=f (ly (.tup (.str x :: r)) b):=
 jV (by rw[mY,beq_self_eq_true])
theorem QN (lo hi:Int)(x:T):zh (nc mS mP mJ cp (lm 2 [(Kd.whole lo hi).t,x]))= .ok (.bl ((Kd.whole lo hi).has x)):=by
 have e:lm 2 [(Kd.whole lo hi).t,x]=ly (.tup [.str "whole",.int lo,.int hi]) x:=by rfl
 rw[e,nc,zu]
 ·rfl
 ·rw[QM,zg];show ZV _ _ (ly _ x)=_;rw[jh,zF,v1,kj,WN];cases x with
  | int i=>
   rw[Yh,Jf,kj,w1,kj,Js,kj,WX,kj,Js];show _=R.ok (T.bl (decide _ && decide _));cases decide (lo<=i) <;> rfl
  | _=>rfl
theorem xw (a:List (Str×Int))(f:a.length<=4)(x:T):zh (nc mS mP mJ cp (lm 2 [(Kd.pick a).t,x]))= .ok (.bl ((Kd.pick a).has x)):=by
 have e:lm 2 [(Kd.pick a).t,x]=ly (.tup [.str "pick",.tup (a.map wV)]) x:=by rfl
 have d:=JS a f;rw[Kd.t]at d;rw[e,nc,zb (JT (by decide)),zu]
 ·rfl
 ·rw[QM,zg];show ZQ _ _ _ (ly _ x)=_;rw[Za,w1,kj,zF,v0,kj,d];show ((match Ji (λy=>lw 30 y x) (a.map λ(c:Str×Int)=>T.str c.1) with | some b=>R.ok b | none=> .bad).bind _)=_
  rw[yv];rfl
theorem gf (a:List Kd)(f:a.length<=3)(x:T)(H:∀xs,x= .tup xs->cp [.tup (a.map Kd.t),x]= .ok (.bl ((a.zip xs).all λq=>q.1.has q.2))):zh (nc mS mP mJ cp (lm 2 [(Kd.row a).t,x]))= .ok (.bl ((Kd.row a).has x)):=by
 have e:lm 2 [(Kd.row a).t,x]=ly (.tup [.str "row",.tup (a.map Kd.t)]) x:=by rw[Kd.t,Kd.ts_map];rfl
 rw[e,nc,zb (JT (by decide)),zb (JT (by decide)),zu]
 ·rfl
 ·rw[QM,zg];show ZV _ _ (ly _ x)=_;have d:lj zM (zc li (vE 0) (cE (.int 1))) (ly (.tup [.str "row",.tup (a.map Kd.t)]) x)= .ok (.int (a.length)):=by
   rw[Z5,Jf,kj,Zw,ah]
  rw[jh,Z4,v1,kj,d,kj,kj,ZR,Zm,zx,Jf,kj,v1,kj];cases x with
  | tup xs=>
   rw[H xs rfl];show (if (decide _ && decide _)=true then _ else _)=R.ok (T.bl (xs.length == a.length && Kd.hass a xs))
   rw[WY]
   by_cases h:xs.length=a.length
   ·simp[h]
   ·rw[if_neg (by simp;omega)]
    simp[h]
  | _=>rfl
theorem QO (k:Kd):∀xs:List T,((ai xs.length k).zip xs).all (λq=>q.1.has q.2)=xs.all k.has
 | []=>rfl
 | x :: xs=>by
  rw[ar,bH,d9,b_,b_,QO k xs]
theorem xx (k:Kd)(lo hi:Nat)(g:hi<=3)(x:T)(H:∀xs,x= .tup xs->xs.length<=3->cp [.lst ((ai xs.length k).map Kd.t),x]= .ok (.bl (((ai xs.length k).zip xs).all λq=>q.1.has q.2))):zh (nc mS mP mJ cp (lm 2 [(Kd.many k lo hi).t,x]))= .ok (.bl ((Kd.many k lo hi).has x)):=by
 have e:lm 2 [(Kd.many k lo hi).t,x]=ly (.tup [.str "many",k.t,.int (lo),.int (hi)]) x:=by rfl
 rw[e,nc,zb (JT (by decide)),zb (JT (by decide)),zb (JT (by decide)),zg]
 ·rfl
 ·show ZV _ _ (ly _ x)=_;rw[jh,Z4,v1,kj,WX,kj,gT,kj,ZR,Zm];cases x with
  | tup xs=>
   show (if (decide _ && decide _)=true then _ else _)=R.ok (T.bl (decide _ && decide _ && xs.all _))
   cases d:(decide (lo<=xs.length) && decide (xs.length<=hi)) with
   | false=>rfl
   | true=>
    rw[ae,decide_eq_true_eq,decide_eq_true_eq]at d;have a:xs.length<=3:=by omega
    have f:zc zY (Z7 (z9 (zc li (vE 0) (cE (.int 1))) (zd))) (lj zM (vB 1)) (ly (.tup [.str "many",k.t,.int (lo),.int (hi)]) (.tup xs))= .ok (.lst ((ai xs.length k).map Kd.t)):=by
     rw[ze,KY Jf,kj,Z5,w1,kj,Zw,kj,We a,jc,aX]
    rw[zx,f,kj,v1,kj,H xs rfl a,QO];rfl
  | _=>rfl
theorem Xx:∀(d n:Nat),2*d<=n->∀(k:Kd) (x:T),k.Ok d->m4 n 0 [k.t,x]= .ok (.bl (k.has x))
 | 0,_,_,_,_,h=>h.elim
 | d+1,n+2,hn,k,x,h=>by
  have j:=Xx d n (by omega)
  have e:m4 (n+2) 0 [k.t,x]=zh (nc mS mP mJ (m4 (n+1) 1) (lm 2 [k.t,x])):=by rw[m4]
  have i:∀s y,m4 (n+1) 1 [s,y]=zh _:=λs y=>by rw[m4];intro h;cases h
  cases k with
  | whole lo hi=>exact QN lo hi x
  | pick l=>exact xw l h.2.1 x
  | row g=>
   refine gf g h.2.1 x λxs f=> ?_;rw[i,f,yu g xs rfl h.2.1 λq a=>j q.1 q.2 (h.2.2 q.1 (cM a).1)]
  | many k lo hi=>
   refine xx k lo hi h.2.1 x λxs f o=> ?_;rw[i,f,yu _ xs rfl (by rw[aT];exact o) λq a=>j q.1 q.2 (by
    rw[bT (cM a).1];exact h.2.2)]
theorem U5:∀(d:Nat) (k:Kd),k.Ok d->md d k.t=true
 | 0,_,h=>h.elim
 | d+1,.whole lo hi,h=>by
  have e:md (d+1) (Kd.whole lo hi).t=(decide (-20<=lo) && decide (lo<=hi) && decide (hi<=20)):=by rfl
  obtain⟨i,j,g⟩:=h;rw[e];simp;omega
 | d+1,.pick f,h=>by
  have e:md (d+1) (Kd.pick f).t=(decide (1<=(f.map wV).length) && decide ((f.map wV).length<=4) && (f.map wV).all zt && decide ((dd [] ((f.map wV).map Zj)).length=(f.map wV).length)):=by rfl
  obtain⟨i,j,g,r⟩:=h;have v:(f.map wV).map Zj=f.map (·.1):=by rw[bi];rfl
  have u:=(wo _ []).mpr λk w x=>by simpa using r k w x
  rw[e,v,u,ah];simp only[ae,decide_eq_true_eq,aO];refine⟨⟨⟨i,j⟩,λc o=> ?_⟩,by simp⟩
  obtain⟨p,hp,rfl⟩:=aE.mp o;obtain⟨a,b,c⟩:=g p hp;show (Z0 _ && decide _ && decide _)=true;rw[a];simp;omega
 | d+1,.row l,h=>by
  have e:md (d+1) (Kd.row l).t=(decide (1<=(l.map Kd.t).length) && decide ((l.map Kd.t).length<=3) && (l.map Kd.t).all (md d)):=by rw[Kd.t,Kd.ts_map];rfl
  obtain⟨i,j,g⟩:=h;rw[e,ah];simp only[ae,decide_eq_true_eq,aO];refine⟨⟨i,j⟩,λc o=> ?_⟩;obtain⟨k,q,rfl⟩:=aE.mp o;exact U5 d k (g k q)
 | d+1,.many k lo hi,h=>by
  have e:md (d+1) (Kd.many k lo hi).t=((decide ((0:Int)<=(lo:Int)) && decide ((lo:Int)<=(hi)) && decide ((hi:Int)<=3)) && md d k.t):=by rfl
  obtain⟨i,j,g⟩:=h;rw[e,U5 d k g];simp;omega
theorem JU:∀(a:List Kd) (xs:List T),xs.length=a.length->Kd.hass a xs=true->∀x∈xs,∃k∈a,k.has x=true
 | [],[],_,_,_,h=>nomatch h
 | k :: a,[],h,_,_,_=>by cases h
 | [],x :: xs,h,_,_,_=>by cases h
 | k :: a,x :: xs,e,h,y,hy=>by
  rw[Kd.hass]at h;rw[ae]at h;rcases aq.mp hy with rfl | hy
  ·exact⟨k,ag,h.1⟩
  ·obtain⟨g,d,f⟩:=JU a xs (by simpa using e) h.2 y hy
   exact⟨g,ac _ d,f⟩
theorem QP (h:∀x∈xs,lZ d (4 ^ d) x)(e:xs.length<=3):lZ (d+1) (4 ^ (d+1)) (.tup xs):=by
 obtain⟨a,b,c⟩:=rS h;have hp:1<=4 ^ d:=hV (by omega)
 have e:4 ^ d*xs.length<=4 ^ d*3:=i6 _ e;refine⟨?_, ?_, ?_⟩
 ·exact a
 ·simp only[lW];omega
 ·simp only[lL,fR];omega
theorem wC:∀(d:Nat) (k:Kd) (x:T),k.Ok d->k.has x=true->lZ d (4 ^ d) x
 | 0,_,_,h,_=>h.elim
 | d+1,.whole lo hi,x,h,a=>by
  obtain⟨i,rfl⟩:=WS a;have hp:1<=4 ^ (d+1):=hV (by omega)
  exact⟨by simp only[sOk],by simp only[lW];omega,by simp only[lL];omega⟩
 | d+1,.pick p,x,h,a=>by
  rw[Kd.has]at a;have hp:1<=4 ^ (d+1):=hV (by omega)
  dsimp only at a;split at a
  ·rw[eH]at a;obtain⟨c,o,e⟩:=a;have f:(decide _ && decide _ && c.1.cps.toList.all _)=true:=(h.2.2.1 c o).1;rw[ae,ae,decide_eq_true_eq,decide_eq_true_eq]at f;rw[← eq_of_beq e];exact⟨by exact ay f.1.2 (by decide),by simp only[lW];omega,by simp only[lL];omega⟩
  ·cases a
 | d+1,.row j,x,h,a=>by
  rw[Kd.has]at a;dsimp only at a;split at a
  ·rename_i xs;rw[ae,beq_iff_eq]at a;refine QP (λy hy=> ?_) (by rw[a.1];exact h.2.1)
   obtain⟨k,g,l⟩:=JU j xs a.1 a.2 y hy;exact wC d k y (h.2.2 k g) l
  ·cases a
 | d+1,.many k lo hi,x,h,a=>by
  rw[Kd.has]at a;dsimp only at a;split at a
  ·rw[ae,ae,decide_eq_true_eq,decide_eq_true_eq,aO]at a;exact QP (λy hy=>wC d k y h.2.2 (a.2 y hy)) (ay a.1.2 h.2.1)
  ·cases a
theorem j1 (t:T)(d:sOk t):nC [t]=if md 3 t=true then .ok .non else .ex 0:=by
 have e:nC [t]=zh (rK _ [.vl t]):=rfl;have a:ZW (Z8 (za 1 oJ (z9 (vE 0) (zd)))) [.vl t]= .ok (!md 3 t):=by
  rw[jt,ZK,zF,v0,kj,Yj t d,kj,Zs,kj]
 rw[e,rK,Zk,a];cases md 3 t <;> rfl
theorem UL (k:Kd)(a:k.Ok 3)(x:T):Xm [k.t,x]= .ok (.bl (k.has x)):=by
 have hi:=U5 3 k a;have e:Xm [k.t,x]=zh (gO _ _ (ly k.t x)):=rfl;have d:jP (za 1 nC (z9 (vE 0) (zd))) (ly k.t x)= .nx (ly k.t x):=by
  show (za 1 _ _ _).s _=_;rw[zF,v0,kj,j1 _ (Jc 3 _ hi).so,hi,if_pos rfl,Ze]
 have f:Aa 20 _= .ok _:=Xx 3 20 (by omega) k x a
 rw[e,gO,zb d,zg]
 ·rfl
 ·show za 2 _ _ (ly k.t x)=_;rw[zx,v0,kj,v1,kj,f]
theorem JD (h:f ρ= .ex c):zi f g ρ= .ex c:=by rw[zz,h]
theorem UM (t:T)(d:sOk t)(hi:md 3 t=false)(x:T):Xm [t,x]= .ex 0:=by
 have e:Xm [t,x]=zh (gO _ _ (ly t x)):=rfl;have a:jP (za 1 nC (z9 (vE 0) (zd))) (ly t x)= .ex 0:=by
  show (za 1 _ _ _).s _=_;rw[zF,v0,kj,j1 _ d,hi];rfl
 rw[e,gO,JD a];rfl
theorem yw {k p:Type}(f:k->List p)(m:Nat):∀(d:List k) (i j:Nat),(∀a∈d,(f a).length=m)->j < m->(d.flatMap f)[i*m+j]? =(d[i]?).bind λa=>(f a)[j]?
 | [],i,j,_,_=>by simp
 | a :: d,0,j,h,g=>by
  have l:=h a ag;rw[bP,Nat.zero_mul,eA,aV (by omega)]
  rfl
 | a :: d,i+1,j,h,g=>by
  have l:=h a ag;have e:(i+1)*m=i*m+m:=by rw[iW,cQ]
  rw[bP,aQ (by omega),l,e,show i*m+m+j - m=i*m+j by omega,yw f m d i j (λb o=>h b (ac _ o)) g]
  rfl
theorem U6 {i k:Type}(f:i->List k):∀(d:List i) (q j:Nat) (a:i),d[q]? =some a->j < (f a).length->(d.flatMap f)[((d.take q).map λb=>(f b).length).sum+j]? =(f a)[j]?
 | [],q,j,a,h,_=>by simp at h
 | b :: d,0,j,a,h,g=>by
  have e:=by simpa using h
  subst e;rw[bP,List.take_zero,ci,List.sum_nil,eA,aV g]
 | b :: d,q+1,j,a,h,g=>by
  rw[bP,i7,aF,cD,Nat.add_assoc,aQ (by omega),Nat.add_sub_cancel_left]
  exact U6 f d q j a (by simpa using h) g
theorem Wh:∀(d made:List (List T)) (l:List T),ZN made (d++[l])=(ZN made d).flatMap λa=>l.map λx=>a++[x]
 | [],made,l=>rfl
 | _ :: d,made,l=>by
  rw[cF,ZN,ZN,Wh d]
theorem xy {d:List (List T)}(h:(ZN [[]] d)[i]? =some xs)(e:l[j]? =some x):(ZN [[]] (d++[l]))[i*l.length+j]? =some (xs++[x]):=by
 have f:=(au.mp e).1;rw[Wh,yw _ _ _ i j (λa _=>ah ..) f,h];show (l.map λx=>xs++[x])[j]? =_;rw[av,e];rfl
theorem yx:∀(ns:List Nat) (n:Nat),lN (ns++[n])=lN ns*n
 | [],n=>by simp[lN]
 | m :: ns,n=>by rw[cF,lN,lN,yx ns n,dm]
theorem Wi (a:List (List T)):(ZN [[]] a).length=lN (a.map (·.length)):=by rw[wA,aC,cQ]
theorem jM {a:Type}{xs:List a}(h:i < xs.length):∃x,xs[i]? =some x:=⟨_,ak h⟩
theorem F1 {xs:List T}{j:Nat}{v:T}(h:xs[j]? =some v):lI xs (j:Int)= .ok v:=by unfold lI;rw[Zu h]
noncomputable def mz (c lo q:Nat):Nat:=((aU q).map λi=>c ^ (lo+i)).sum
theorem xz (c lo q:Nat):mz c lo (q+1)=mz c lo q+c ^ (lo+q):=by
 unfold mz;rw[l7,di];simp
theorem gh (a:q < hi+1 - lo)(h:(ZN [[]] (ai (lo+q) k.all))[j]? =some xs):(Kd.many k lo hi).all[mz k.all.length lo q+j]? =some (.tup xs):=by
 have d:=(au.mp h).1;have e:=U6 (λi=>YC (ai _ _)) _ q j q (by rw[cW a]) (by rw[ah];exact d)
 have f:(((aU (hi+1 - lo)).take q).map λb=>(YC (ai (lo+b) k.all)).length).sum=mz k.all.length lo q:=by
  rw[List.take_range,dj (fL a),mz];congr 1
  refine bO λi _=> ?_;rw[JR,aX,jv]
 rw[f]at e;rw[Kd.all,e];rw[av,h];rfl
abbrev tq (c:List T->R T):En->RS:=zr 1 (zc zY (vE 1) (za 1 c (z9 (vE 2) (zd))))
theorem QR:∀(a:List Kd) (m:Nat) (x:Sl),(∀k∈a,c [k.t]= .ok (.int (k.all.length:Int))/\1<=k.all.length)->m*lN (a.map λk=>k.all.length) < 2 ^ 60->
  ∃y,Zv (zq 2) (tq c) (a.map Kd.t) [S,.vl (.int (m:Int)),x]= .nx [S,.vl (.int ((m*lN (a.map λk=>k.all.length):Nat):Int)),y]
 | [],m,x,_,_=>⟨x,by simp[Zv,lN]⟩
 | k :: a,m,x,H,f=>by
  obtain⟨j,i⟩:=H k ag;have hp:=wx λn hn=>by
   obtain⟨e,d,rfl⟩:=aE.mp hn;exact(H e (ac _ d)).2
  rw[aF,lN,← dm]at f;have o:m < 2 ^ 60:=by
   have p:m<=m*k.all.length:=d3 _ i;have q:m*k.all.length<=m*k.all.length*lN (a.map λk=>k.all.length):=d3 _ hp;omega
  have g:tq c [S,.vl (.int (m)),.vl k.t]= .nx [S,.vl (.int ((m*k.all.length:Nat))),.vl k.t]:=by
   rw[tq,zC]
   ·rfl
   ·rw[ze,v1,kj,zF,v2,kj,j,kj,QF o]
  obtain⟨y,l⟩:=QR (S:=S) a _ _ (λe d =>H e (ac _ d)) f;refine⟨y, ?_⟩;rw[aF,jL rfl g,l,aF,lN,dm]
theorem wD (a:List Kd)(d:Jb s= .ok (a.map Kd.t))(H:∀k∈a,c [k.t]= .ok (.int (k.all.length:Int))/\1<=k.all.length)(g:lN (a.map λk=>k.all.length) < 2 ^ 60):
  zh (oY c (lm 3 [s]))= .ok (.int ((lN (a.map λk=>k.all.length):Nat):Int)):=by
 obtain⟨y,e⟩:=QR a 1 .un H (by rw[cQ];exact g)
 rw[cQ]at e;have f:zr 1 (cE (.int 1)) [.vl s,.un,.un]= .nx [.vl s,.vl _,.un]:=rfl;have i:j5 (Zg (vE 0)) (zq 2) (tq c) [.vl s,.vl (.int 1),.un]= .nx [.vl s,.vl (.int ((lN (a.map λk=>k.all.length)):Int)),y]:=by
  show ((Jb s).s λts=>Zv _ _ ts _)=_;rw[d];exact e
 show zh (oY c [.vl s,.un,.un])=_;rw[oY,zb f,zb i];rfl
theorem QS {d:Type}(g:d->Nat):∀l:List d,Zc (l.map λa=>T.int ((g a:Nat):Int))=some (l.map λa=>((g a:Nat):Int))
 | []=>rfl
 | a :: l=>by
  show (match Zc (l.map λa=>T.int _) with | some l=>some _ | none=>none)=_
  rw[QS g l];rfl
theorem yy {d:Type}(g:d->Nat):∀l:List d,(l.map λa=>((g a:Nat):Int)).sum=(((l.map g).sum:Nat):Int)
 | []=>rfl
 | a :: l=>by rw[aF,cD,aF,cD,yy g l];omega
theorem DM {d:Type}(g:d->Nat)(l:List d):VI (.lst (l.map λa=>T.int ((g a:Nat):Int)))= .ok (.int (((l.map g).sum:Nat):Int)):=by
 unfold VI;dsimp only;rw[QS,← yy]
theorem Jk (k:Kd)(m:Nat):((ai m k).map λk=>k.all.length)=ai m k.all.length:=by rw[aX]
theorem QT (o:lo+q<=4)(H:∀m,m<=3->c [.lst (ai m t)]= .ok (.int ((n ^ m:Nat):Int))):
  zh (pL c (lm 2 [mt t lo hi,.int ((lo+q:Nat):Int)]))= .ok (.int ((mz n lo q:Nat):Int)):=by
 have d:JI (zc li (vE 0) (cE (.int 2))) (vE 1) [.vl (mt t lo hi),.vl (.int ((lo+q:Nat)))]= .ok (rng (lo) q):=by
  rw[UJ rfl rfl ⟨by omega,by omega,by omega,by omega⟩]
  congr 2;omega
 have l:zp _ _ (za 1 c (z9 (zc _ _ _) _)) 1 [0] [.vl _,.vl (.int ((lo+q:Nat)))] _= .ok ((rng (lo) q).map λx=>match x with | .int i=>T.int ((n ^ i.toNat:Nat)) | y=>y):=
  zP _ (by unfold rng;rw[ah,bE];have:lB=16777216:=rfl;omega) λx g=>by
   obtain⟨i,a,rfl⟩:=aE.mp g;have e:=aS.mp a;show za 1 c _ [.vl _,.vl _]=_;have j:zc zY (Z7 (z9 (zc li (vE 1) (cE (.int 1))) (zd))) (vE 0) [.vl (.int ((lo)+(i))),.vl (mt t lo hi)]= .ok (.lst (ai (lo+i) t)):=by
    have f:zc li (vE 1) (cE (.int 1)) [.vl (.int ((lo)+(i))),.vl (mt t lo hi)]= .ok t:=rfl;rw[ze,KY f,kj,v0,kj,show (lo:Int)+(i)=((lo+i:Nat)) by omega,We (by omega),jc]
   rw[zF,j,kj,H _ (by omega)]
   show _=R.ok (T.int _);rw[show ((lo:Int)+(i)).toNat=lo+i by omega]
 rw[pL,zg]
 ·rfl
 ·show lj _ _ [.vl _,.vl _]=_;rw[Z5,zE,d,kj,l,kj,kj];have k:((rng (lo) q).map λx=>match x with | .int i=>T.int ((n ^ i.toNat:Nat)) | y=>y)=(aU q).map λi=>T.int ((n ^ (lo+i):Nat)):=by
   unfold rng;rw[bi];refine bO λi _=> ?_;show T.int _=_;rw[show ((lo:Int)+(i)).toNat=lo+i by omega]
  rw[k,DM (λi=>n ^ (lo+i))];rfl
theorem Xy (h:n<=mx d)(hd:d<=2)(e:m<=3):n ^ m < 2 ^ 60:=by
 have a:mx d<=70644:=by
  have:d=0\/d=1\/d=2:=by omega
  rcases this with rfl | rfl | rfl <;> decide
 have f:=ay (Nat.pow_le_pow_left (ay h a) m) (cR (by omega) e)
 omega
theorem yz:∀(d n:Nat),3*d<=n->d<=3->∀k:Kd,k.Ok d->mV n 0 [k.t]= .ok (.int (k.all.length:Int))
 | 0,_,_,_,_,h=>h.elim
 | d+1,n+3,hn,hd,k,h=>by
  have r:=yz d n (by omega) (by omega)
  have g:=yz d (n+1) (by omega) (by omega)
  have e:mV (n+3) 0 [k.t]=zh (tE _ _ [.vl k.t]):=rfl;have q:∀s u,mV (n+2) 2 [s,u]=zh _:=λs u=>rfl;rw[e,tE];cases k with
  | whole lo hi=>
   obtain⟨f,i,a⟩:=h;rw[Je];simp only[Kd.t];rw[zu (t:= .int _)]
   ·rfl
   ·rw[jV (by rw[mY,beq_self_eq_true]),zg]
    show R.ok _=_;congr 2;omega
  | pick x=>
   rw[WW];simp only[Kd.t];rw[zb (zj (by rfl)),zu]
   ·rfl
   ·rw[jV (by rw[mY,beq_self_eq_true]),zg]
    show R.ok _=_;rw[ah]
  | row o=>
   obtain⟨f,i,a⟩:=h;rw[Ju];simp only[Kd.t];rw[Kd.ts_map,zb (zj (by rfl)),zb (zj (by rfl)),zu]
   ·rfl
   ·rw[jV (by rw[mY,beq_self_eq_true]),zg]
    have p:=jK (d+1) (.row o) ⟨f,i,a⟩;rw[Ju]at p;exact wD o rfl (λk l=>⟨g k (a k l),ZH d k (a k l)⟩) (Cq p hd)
  | many k lo hi=>
   obtain⟨f,i,a⟩:=h;rw[jE];simp only[Kd.t];rw[zb (zj (by rfl)),zb (zj (by rfl)),zb (zj (by rfl)),zg]
   ·rfl
   ·show za 2 _ _ [.vl _]=_;rw[zx,v0,kj,UI gT,kj,q,show (hi:Int)+1=((lo+(hi+1 - lo):Nat)) by omega]
    refine QT (by omega) λm v=> ?_
    have hp:lN ((ai m k).map λk=>k.all.length)=k.all.length ^ m:=by rw[Jk,jv]
    rw[← hp];refine wD _ (by rw[aX];rfl) (λw j => ?_) (by rw[hp];exact Xy (jK d k a) (by omega) v)
    rw[bT j];exact⟨r k a,ZH d k a⟩
theorem jA {d:Nat}(hd:d<=3){k:Kd}(h:k.Ok d):ot 20 [k.t]= .ok (.int (k.all.length:Int)):=yz d 20 (by omega) hd k h
theorem yA {d:Nat}(hd:d<=2){k:Kd}(h:k.Ok d){lo hi q:Nat}(f:lo+q<=4):gQ 20 [mt k.t lo hi,.int ((lo+q:Nat):Int)]= .ok (.int ((mz k.all.length lo q:Nat):Int)):=by
 have e:gQ 20 [mt k.t lo hi,.int ((lo+q:Nat))]=zh (pL (mV 19 1) (lm 2 [mt k.t lo hi,.int ((lo+q):Int)])):=rfl;rw[e];refine QT f λm g=> ?_;have hp:lN ((ai m k).map λk=>k.all.length)=k.all.length ^ m:=by rw[Jk,jv]
 rw[← hp];refine wD _ (by rw[aX];rfl) (λi a => ?_) (by rw[hp];exact Xy (jK d k h) hd g)
 rw[bT a];exact⟨yz d 18 (by omega) (by omega) k h,ZH d k h⟩
abbrev sM (cc cw:List T->R T):En->RS:=zi (zr 5 (za 1 cc (z9 (vE 4) (zd))))
  (zi (uG 2 (za 2 cw (z9 (vE 4) (z9 (zc jH (vE 3) (vE 5)) (zd)))))
  (zr 3 (zc Wu (vE 3) (vE 5))))
structure pi (cc cw:List T->R T) (k:Kd):Prop where
 cnt:cc [k.t]= .ok (.int (k.all.length:Int))
 at_:∀(i:Nat) x,k.all[i]? =some x->cw [k.t,.int (i:Int)]= .ok x
 pos:1<=k.all.length
 le:k.all.length < 1000000
theorem CC :vE 5 (a :: b :: c :: d :: e :: .vl t :: ρ)= .ok t:=rfl
theorem Xz {n c:Nat}(h:1<=c):jH (.int (n:Int)) (.int (c:Int))= .ok (.int ((n % c:Nat):Int)):=by
 unfold jH;dsimp only;rw[if_pos (by omega)];rfl
theorem gi {n c:Nat}(h:1<=c)(h' :c < 1000000):Wu (.int (n:Int)) (.int (c:Int))= .ok (.int ((n / c:Nat):Int)):=by
 unfold Wu;dsimp only;rw[if_pos (by omega)];rfl
theorem yB (hi:ρ[i]? =some (.ow ts))(a:ts.length < lB)(h:f ρ= .ok t):uG i f ρ= .nx (ρ.set i (.ow (ts++[t]))):=by
 unfold uG;rw[hi];dsimp only;rw[h,Ze,if_pos a]
theorem QU {g f:List T->R T}{S N:Sl}:∀(a:List Kd) (acc:List T) (n:Nat) (x y:Sl),(∀k∈a,pi g f k)->n < lN (a.map λk=>k.all.length)->acc.length+a.length<=1000->
  ∃xs r l p,(ZN [[]] (a.reverse.map Kd.all))[n]? =some xs/\Zv (zq 4) (sM g f) (a.map Kd.t) [S,N,.ow acc,.vl (.int (n:Int)),x,y]= .nx [S,N,.ow (acc++xs.reverse),r,l,p]
 | [],acc,n,x,y,_,hn,_=>⟨[],.vl (.int (n)),x,y,by
   have:=by simp[lN]at hn;exact hn
   subst this;rfl,by simp[Zv]⟩
 | k :: a,acc,n,x,y,H,hn,M=>by
  obtain⟨w,G,j,o⟩:=H k ag;rw[ar]at M;have O:lB=16777216:=rfl;have e:n % k.all.length < k.all.length:=Nat.mod_lt _ j;obtain⟨v,q⟩:=jM e;have d:=Nat.div_lt_of_lt_mul hn;obtain⟨xs,r,l,p,D,B⟩:=QU a (acc++[v]) _ _ _ (λK i =>H K (ac _ i)) d (by rw[az,aC];omega)
  have J:zr 5 (za 1 g (z9 (vE 4) (zd))) [S,N,.ow acc,.vl (.int (n)),.vl k.t,y]= .nx [S,N,.ow acc,.vl (.int (n)),.vl k.t,.vl (.int (k.all.length))]:=by
   rw[zC]
   ·rfl
   ·rw[zF,v4,kj,w]
  have b2:uG 2 (za 2 f (z9 (vE 4) (z9 (zc jH (vE 3) (vE 5)) (zd)))) [S,N,.ow acc,.vl (.int (n)),.vl k.t,.vl (.int (k.all.length))]= .nx [S,N,.ow (acc++[v]),.vl (.int (n)),.vl k.t,.vl (.int (k.all.length))]:=by
   rw[yB rfl (by omega)]
   ·rfl
   ·rw[zx,v4,kj,ze,v3,kj,CC,kj,Xz j,kj,G _ v q]
  have u:zr 3 (zc Wu (vE 3) (vE 5)) [S,N,.ow (acc++[v]),.vl (.int (n)),.vl k.t,.vl (.int (k.all.length))]= .nx [S,N,.ow (acc++[v]),.vl (.int ((n / k.all.length:Nat))),.vl k.t,.vl (.int (k.all.length))]:=by
   rw[zC]
   ·rfl
   ·rw[ze,v3,kj,CC,kj,gi j o]
  have I:sM g f [S,N,.ow acc,.vl (.int (n)),.vl k.t,y]= .nx [S,N,.ow (acc++[v]),.vl (.int ((n / k.all.length:Nat))),.vl k.t,.vl (.int (k.all.length))]:=by
   rw[sM,zb J,zb b2,u]
  refine⟨xs++[v],r,l,p, ?_, ?_⟩
  ·have:=xy D q;rw[dz,Nat.div_add_mod]at this;rw[cP,di];exact this
  ·rw[aF,jL rfl I,B];simp
theorem QV:∀ns:List Nat,lN ns.reverse=lN ns
 | []=>rfl
 | n :: ns=>by rw[cP,yx,QV ns,lN,dz]
theorem wE {o i:List T->R T}{s:T}(d:List Kd)(w:Jo s= .ok (d.map Kd.t))(N:d.length<=3)(H:∀k∈d,pi o i k){n:Nat}{xs:List T}(p:(ZN [[]] (d.map Kd.all))[n]? =some xs):
  zh (oN o i (lm 6 [s,.int (n:Int)]))= .ok (.tup xs):=by
 have hn:=(au.mp p).1;rw[Wi,bi]at hn;have hr:(d.reverse.map λk=>k.all.length)=(d.map λk=>k.all.length).reverse:=by rw[iS]
 obtain⟨ys,r,y,I,q,B⟩:=QU _ [] n .un .un (λk G=>H k (List.mem_reverse.mp G)) (by rw[hr,QV];exact hn) (by rw[cy,bw];omega)
 rw[hW,p]at q;cases q;have M:wR 2 (zd) [.vl s,.vl (.int (n)),.un,.un,.un,.un]= .nx [.vl s,.vl _,.ow [],.un,.un,.un]:=rfl;have J:zr 3 (vE 1) [.vl s,.vl (.int (n)),.ow [],.un,.un,.un]= .nx [.vl s,.vl _,.ow [],.vl _,.un,.un]:=rfl;have K:j5 (BA (vE 0)) (zq 4) (sM o i) [.vl s,.vl (.int (n)),.ow [],.vl (.int (n)),.un,.un]= .nx [.vl s,.vl (.int (n)),.ow xs.reverse,r,y,I]:=by
  show (((Jo s).bind λxs=>R.ok _).s λts=>Zv _ _ ts _)=_;rw[w,kj,← iS];exact B
 have g:xs.reverse.length<=lB:=by
  have:∀(f made:List _) (m:Nat),(∀a∈made,a.length<=m)->∀a∈ZN made f,a.length<=m+f.length:=by
   intro f
   induction f with
   | nil=>intro made m h a e;exact h a e
   | cons l f D=>
    intro made m h a e;have:=D (made.flatMap λa=>l.map λx=>a++[x]) (m+1) (λb j=>by
     obtain⟨c,v,j⟩:=d4.mp j;obtain⟨z,_,rfl⟩:=aE.mp j;have:=h c v;rw[az,aC];omega) a e
    rw[ar];omega
  have u:=this _ _ 0 (λa e=>by rw[aH.mp e];exact ao _) xs (bc p)
  rw[ah]at u;rw[cy];have j:lB=16777216:=rfl;omega
 show zh (oN o i [.vl s,.vl _,.un,.un,.un,.un])=_;rw[oN,zb M,zb J,zb K,zg]
 ·rfl
 ·show VQ (.lst _)=_;unfold VQ;dsimp only;rw[if_pos g,hW]
abbrev oj:En->R Bool:=zk lA (za 2 (gQ 20) (z9 (vE 0) (z9 (zc zn (vE 2) (cE (.int 1))) (zd)))) (vB 1)
abbrev om:En->RS:=zr 2 (zc zn (vE 2) (cE (.int 1)))
theorem Fy:vB 1 (a :: .vl t :: ρ)= .ok t:=rfl
theorem QW {d:Nat}(hd:d<=2){k:Kd}(h:k.Ok d){lo hi n:Nat}(o:lo<=hi)(u:hi<=3)(hn:n < mz k.all.length lo (hi+1 - lo)):∀(f q:Nat),q<=hi - lo->hi - lo - q < f->mz k.all.length lo q<=n->
  ∃e,e <=hi - lo/\mz k.all.length lo e <=n/\n < mz k.all.length lo (e +1)/\Zr oj om f [.vl (mt k.t lo hi),.vl (.int (n:Int)),.vl (.int ((lo+q:Nat):Int))]= .nx [.vl (mt k.t lo hi),.vl (.int (n:Int)),.vl (.int ((lo+e :Nat):Int))]
 | 0,q,_,x,_=>by omega
 | f+1,q,j,x,v=>by
  have p:oj [.vl (mt k.t lo hi),.vl (.int (n)),.vl (.int ((lo+q:Nat)))]= .ok (decide (mz k.all.length lo (q+1)<=n)):=by
   rw[oj,zA,zx,v0,kj,UI v2,kj,show ((lo+q:Nat):Int)+1=((lo+(q+1):Nat)) by omega,yA hd h (by omega),kj,Fy,kj,Js,Wf]
  have w:Zr oj om (f+1) [.vl (mt k.t lo hi),.vl (.int (n)),.vl (.int ((lo+q:Nat)))]=(oj _).s λl =>if l =true then match om [.vl _,.vl _,.vl (.int _)] with
    | .nx a=>Zr oj om f a
    | .ct a=>Zr oj om f a
    | .bk a=> .nx a
    | r=>r
   else .nx _:=rfl
  rw[w,p,Ze]
  by_cases g:mz k.all.length lo (q+1)<=n
  ·rw[if_pos (decide_eq_true g)];have i:q+1<=hi - lo:=by
    rcases Nat.lt_or_ge q _ with z | z
    ·exact z
    ·have:q=hi - lo:=by omega
     rw[this,show hi - lo+1=hi+1 - lo by omega]at g
     omega
   have y:om [.vl (mt k.t lo hi),.vl (.int (n)),.vl (.int ((lo+q:Nat)))]= .nx [.vl (mt k.t lo hi),.vl (.int (n)),.vl (.int ((lo+(q+1):Nat)))]:=by
    rw[om,zC]
    ·rfl
    ·rw[UI v2,show ((lo+q:Nat):Int)+1=((lo+(q+1):Nat)) by omega]
   exact QW hd h o u hn f _ i (by omega) g
  ·rw[if_neg (by simpa using g)]
   exact⟨q,j,v,by omega,rfl⟩
theorem CY {i j:Nat}(h:j<=i):jg (.int (i:Int)) (.int (j:Int))= .ok (.int ((i - j:Nat):Int)):=by
 rw[Zf];congr 2;omega
theorem Yu {d:Nat}(hd:d<=2){k:Kd}(h:k.Ok d){cp:List T->R T}{lo hi n:Nat}(i:lo<=hi)(l:hi<=3)(hn:n < mz k.all.length lo (hi+1 - lo))
  (H:∀(m:Nat),m<=3->∀(j:Nat) (xs:List T),(ZN [[]] (ai m k.all))[j]? =some xs->cp [.lst (ai m k.t),.int (j:Int)]= .ok (.tup xs)):
  ∃x,(Kd.many k lo hi).all[n]? =some x/\zh (oZ (gQ 20) cp (lm 3 [mt k.t lo hi,.int (n:Int)]))= .ok x:=by
 obtain⟨q,v,p,a,e⟩:=QW hd h i l hn 8 0 (by omega) (by omega) (by unfold mz;simp)
 rw[xz]at a;have o:n - mz k.all.length lo q < (ZN [[]] (ai (lo+q) k.all)).length:=by
  rw[Wi,aX,jv];omega
 obtain⟨xs,g⟩:=jM o;have f:=gh (hi:=hi) (by omega) g
 rw[show mz _ lo q+(n - mz _ lo q)=n by omega]at f
 refine⟨_,f, ?_⟩;have u:zr 2 (zc li (vE 0) (cE (.int 2))) [.vl (mt k.t lo hi),.vl (.int (n:Int)),.un]= .nx [.vl _,.vl _,.vl (.int ((lo+0:Nat)))]:=rfl;show zh (oZ _ cp [.vl _,.vl _,.un])=_;rw[oZ,zb u,zb e,zg]
 ·rfl
 ·show za 2 cp _ [.vl _,.vl _,.vl _]=_;have r:zc zY (Z7 (z9 (zc li (vE 0) (cE (.int 1))) (zd))) (vE 2) [.vl (mt k.t lo hi),.vl (.int (n)),.vl (.int ((lo+q:Nat)))]= .ok (.lst (ai (lo+q) k.t)):=by
   rw[ze,KY Jf,kj,v2,kj,We (by omega),jc]
  rw[zx,r,kj,ze,v1,kj,zx,v0,kj,v2,kj,yA hd h (by omega),kj,CY p,kj,H _ (by omega) _ xs g]
theorem QX {d:Nat}(hd:d<=2){k:Kd}(h:k.Ok d):k.all.length < 1000000:=by
 have e:=jK d k h;have a:mx d<=70644:=by
  have:d=0\/d=1\/d=2:=by omega
  rcases this with rfl | rfl | rfl <;> decide
 omega
theorem jW:∀(d n:Nat),3*d<=n->d<=3->∀k:Kd,k.Ok d->∀(i:Nat) (x:T),k.all[i]? =some x->mX n 0 [k.t,.int (i:Int)]= .ok x
 | 0,_,_,_,_,h=>h.elim
 | d+1,n+3,hn,hd,k,h=>by
  intro i x a;have y:=jW d n (by omega) (by omega)
  have q:=jW d (n+1) (by omega) (by omega)
  have e:mX (n+3) 0 [k.t,.int (i:Int)]=zh (tu mJ _ _ (ly k.t (.int (i:Int)))):=rfl;have g :=(au.mp a).1;rw[e,tu];cases k with
  | whole lo hi=>
   rw[Kd.all,av]at a;rw[Je]at g;rw[cW g]at a;cases a;rw[zu]
   ·rfl
   ·rfl
  | pick B=>
   have v:=JS B h.2.1;simp only[Kd.t]at v ⊢;rw[zb (JT (by decide)),zu]
   ·rfl
   ·rw[QM,zg];show zc li _ _ (ly _ _)=_;rw[ze,zF,v0,kj,v,v1];exact F1 a
  | row w=>
   obtain⟨u,p,f⟩:=h;rw[Kd.all,Kd.alls_map,av]at a;cases hr:(ZN _ _)[i]? with
   | none=>rw[hr]at a;cases a
   | some xs=>
    rw[hr]at a;cases a;simp only[Kd.t];rw[Kd.ts_map,zb (JT (by decide)),zb (JT (by decide)),zu]
    ·rfl
    ·rw[QM,zg];refine wE w rfl p (λk o=>⟨jA (by omega) (f k o),q k (f k o),ZH d k (f k o),QX (by omega) (f k o)⟩) hr
  | many k lo hi=>
   obtain⟨u,p,f⟩:=h;rw[jE]at g;obtain⟨I,l,D⟩:=Yu (cp:=mX (n+1) 2) (by omega) f u p g (λm G j xs hr=>by
    refine wE _ (by rw[aX];rfl) (by rw[aT];exact G) (λJ r => ?_) (by rw[aX];exact hr)
    rw[bT r];exact⟨jA (by omega) f,y k f,ZH d k f,QX (by omega) f⟩)
   rw[a]at l;cases l;simp only[Kd.t];rw[zb (JT (by decide)),zb (JT (by decide)),zb (JT (by decide)),zg]
   ·rfl
   ·show za 2 _ _ (ly _ _)=_;rw[zx,v0,kj,v1,kj];exact D
theorem E1 {k:Kd}(h:k.Ok 3){i:Nat}{x:T}(a:k.all[i]? =some x):oR 20 [k.t,.int (i:Int)]= .ok x:=jW 3 20 (by omega) (by omega) k h i x a
theorem QY (x:Str):∀a:List (Str×Int),nh (.str x) (a.map λc=>T.str c.1)=some (a.map λc=>c.1 == x)
 | []=>rfl
 | c :: a=>by
  show (match lw 30 (.str c.1) (.str x) with
   | none=>none
   | some b=>match nh (.str x) (a.map λ(c:Str×Int)=>T.str c.1) with
    | none=>none
    | some bs=>some (b :: bs))=_
  rw[QY x a];rfl
theorem U7:∀(bs:List Bool) (i:Nat),bs[i]? =some true->(∀j,j < i->bs[j]? =some false)->bs.idxOf true=i
 | [],i,h,_=>by simp at h
 | b :: bs,0,h,_=>by
  have:b=true:=by simpa using h
  subst this;rfl
 | b :: bs,i+1,h,a=>by
  have d:b=false:=by simpa using a 0 (by omega)
  subst d;have:=U7 bs i (by simpa using h) λj h' =>by simpa using a (j+1) (by omega)
  rw[List.idxOf_cons,this];rfl
theorem xA {a:List (Str×Int)}(hd:Dst (a.map (·.1))){i:Nat}{c:Str×Int}(h:a[i]? =some c):VE (.str c.1) (a.map λc=>T.str c.1)= .ok (.int (i:Int)):=by
 unfold VE;rw[QY];dsimp only;have hi:=(au.mp h).1;have g:(a.map λd=>d.1 == c.1)[i]? =some true:=by rw[av,h];simp
 rw[if_pos (bc g),U7 _ i g λj k=> ?_];rw[av];cases f:a[j]? with
 | none=>rw[List.getElem?_eq_none_iff]at f;omega
 | some d=>
  have l:=hd i c.1 (by rw[av,h];rfl)
  have:d.1 ≠ c.1:=λe=>l (by
   rw[← e];refine bc (i:=j) ?_;rw[dE k,av,f];rfl)
  show some (d.1 == c.1)=some false;rw[beq_eq_false_iff_ne.mpr this]
noncomputable def Pl:Nat->T->Prop
 | 0,_=>False
 | n+1,.tup xs=>∀x∈xs,Pl n x
 | n+1,.lst xs=>∀x∈xs,Pl n x
 | _+1,.fz _=>False
 | _+1,_=>True
theorem JV {f:T->T->Option Bool}:∀(xs ys:List T),(∀x∈xs,∀y,∃b,f x y=some b)->∃b,mh f xs ys=some b
 | [],[],_=>⟨_,rfl⟩
 | [],_ :: _,_=>⟨_,rfl⟩
 | _ :: _,[],_=>⟨_,rfl⟩
 | x :: xs,y :: ys,h=>by
  obtain⟨b,d⟩:=h x ag y;obtain⟨c,e⟩:=JV xs ys λz a=>h z (ac _ a);exact⟨b && c,by unfold mh;rw[d,e]⟩
theorem Zy {f:T->T->Option Bool}:∀(xs:List T),(∀x∈xs,f x x=some true)->mh f xs xs=some true
 | [],_=>rfl
 | x :: xs,h=>by
  unfold mh;rw[h x ag,Zy xs λz a=>h z (ac _ a)];rfl
theorem Jg:∀(n:Nat) (y x:T),Pl n y->∃b,lw n y x=some b
 | 0,_,_,h=>h.elim
 | n+1,y,x,h=>by
  cases y with
  | tup xs=>
   cases x with
   | tup ys=>exact JV xs ys λz a u=>Jg n z u (h z a)
   | _=>exact⟨false,by rw[lw] <;> intros <;> first | rfl | contradiction | (intro z)⟩
  | lst xs=>
   cases x with
   | lst ys=>exact JV xs ys λz a u=>Jg n z u (h z a)
   | fz ys=>exact JV xs ys λz a u=>Jg n z u (h z a)
   | _=>exact⟨false,by rw[lw] <;> intros <;> first | rfl | contradiction | (intro z)⟩
  | fz xs=>exact h.elim
  | non=>cases x <;> exact⟨_,rfl⟩
  | bl b=>cases x <;> exact⟨_,rfl⟩
  | int i=>cases x <;> exact⟨_,rfl⟩
  | str i=>cases x <;> exact⟨_,rfl⟩
theorem Zb:∀(n:Nat) (y:T),Pl n y->lw n y y=some true
 | 0,_,h=>h.elim
 | n+1,y,h=>by
  cases y with
  | tup xs=>exact Zy xs λz a=>Zb n z ((h) z a)
  | lst xs=>exact Zy xs λz a=>Zb n z ((h) z a)
  | fz xs=>exact h.elim
  | non=>rfl
  | bl b=>show some _=_;simp
  | int i=>show some _=_;simp
  | str i=>show some _=_;simp
theorem Pl.up:∀(n:Nat) (y:T),Pl n y->Pl (n+1) y
 | 0,_,h=>h.elim
 | n+1,y,h=>by
  cases y with
  | tup xs=>exact λz a=>Pl.up n z ((h) z a)
  | lst xs=>exact λz a=>Pl.up n z ((h) z a)
  | fz xs=>exact h.elim
  | _=>exact trivial
theorem Pl.le (d:n<=m)(h:Pl n y):Pl m y:=by
 obtain⟨j,rfl⟩:∃j,m=n+j:=⟨m - n,by omega⟩
 clear d
 induction j with
 | zero=>exact h
 | succ j a=>exact Pl.up _ _ a
theorem Yv:∀(d:Nat) (k:Kd) (x:T),k.Ok d->k.has x=true->Pl d x
 | 0,_,_,h,_=>h.elim
 | d+1,.whole lo hi,x,h,a=>by
  obtain⟨i,rfl⟩:=WS a;trivial
 | d+1,.pick j,x,h,a=>by
  rw[Kd.has]at a;dsimp only at a;split at a
  ·trivial
  ·cases a
 | d+1,.row f,x,h,a=>by
  rw[Kd.has]at a;dsimp only at a;split at a
  ·rename_i xs;rw[ae,beq_iff_eq]at a;intro y hy;obtain⟨k,e,g⟩:=JU f xs a.1 a.2 y hy;exact Yv d k y (h.2.2 k e) g
  ·cases a
 | d+1,.many k lo hi,x,h,a=>by
  rw[Kd.has]at a;dsimp only at a;split at a
  ·rw[ae,aO]at a;exact λy hy=>Yv d k y h.2.2 (a.2 y hy)
  ·cases a
theorem QZ (h:Pl 30 t):lJ t t= .ok false:=by unfold lJ;rw[Zb 30 t h];rfl
theorem wF {f:T->Option Bool}:∀(ts:List T),(∀t∈ts,∃b,f t=some b)->∃b,Ji f ts=some b/\(b=false->∀t∈ts,f t=some false)
 | [],_=>⟨false,rfl,λ_ _ h=>nomatch h⟩
 | t :: ts,h=>by
  obtain⟨b,d⟩:=h t ag;obtain⟨c,g,h'⟩:=wF ts λu a=>h u (ac _ a);refine⟨b || c,by unfold Ji;rw[d,g],λe u a=> ?_⟩
  rw[Bool.or_eq_false_iff]at e;rcases aq.mp a with rfl | a
  ·rw[d,e.1]
  ·exact h' e.2 u a
theorem gj {k:Kd}(a:k.Ok 3)(x:T):∃b,Wx x (.lst k.all)= .ok b/\(b=true->k.has x=false):=by
 obtain⟨b,i,h⟩:=wF _ λy hy=>Jg 30 y x ((Yv 3 k y a ((ZT k y).mp hy)).le (by omega))
 refine⟨!b, ?_,λe=> ?_⟩
 ·show ((match Ji (λy=>lw 30 y x) _ with | some b=>R.ok b | none=> .bad).bind λb=> .ok _)=_
  rw[i];rfl
 ·have j:=by simpa using e
  cases d:k.has x with
  | false=>rfl
  | true=>
   have f:=h j x ((ZT k x).mpr d);have g:=Zb 30 x ((Yv 3 k x a d).le (by omega))
   rw[g]at f;cases f
theorem v6 {k:Kd}(a:k.Ok 3):nC [k.t]= .ok .non:=by
 have hi:=U5 3 k a;rw[j1 _ (Jc 3 _ hi).so,if_pos hi]
theorem ZU (h:f ρ= .ok t):jP f ρ= .nx ρ:=by unfold jP;rw[h,Ze]
theorem u7 (h:f ρ= .ex c):jP f ρ= .ex c:=by unfold jP;rw[h];rfl
theorem gm (a:sOk t)(hi:md 3 t=false):nC [t]= .ex 0:=by
 rw[j1 _ a,hi];rfl
theorem Zn {k:Kd}(d:k.Ok 3)(x:T):nK [k.t,x]=if k.has x=true then .ok .non else .ex 1:=by
 show zh (oD _ (ly k.t x))=_;have a:ZW (Z8 (za 2 Xm (z9 (vE 0) (z9 (vE 1) (zd))))) (ly k.t x)= .ok (!k.has x):=by
  rw[jt,ZK,zx,v0,kj,v1,kj,UL k d x,kj,Zs,kj]
 rw[oD,Zk,a];cases k.has x <;> rfl
theorem u8 (d:sOk t)(hi:md 3 t=false)(x:T):nK [t,x]= .ex 0:=by
 show zh (oD _ (ly t x))=_;have a:ZW (Z8 (za 2 Xm (z9 (vE 0) (z9 (vE 1) (zd))))) (ly t x)= .ex 0:=by
  rw[jt,ZK,zx,v0,kj,v1,kj,UM t d hi x];rfl
 rw[oD,Zk,a];rfl
theorem mR (k:Kd):((rng 0 k.all.length).map λt=>match t with | .int i=>(k.all[i.toNat]?).getD .non | y=>y)=k.all:=by
 unfold rng;rw[bi];refine dW λi=> ?_;rw[av]
 by_cases hi:i < k.all.length
 ·rw[cW hi];show some ((k.all[((0:Int)+(i)).toNat]?).getD _)=_;rw[show ((0:Int)+(i)).toNat=i by omega]
  obtain⟨x,a⟩:=jM hi;rw[a];rfl
 ·rw[aY (by simpa using hi),aY (by omega)];rfl
theorem UN (a:f ρ= .ok (.int j))(h: -1000000 < j/\j < 1000000):zO f ρ= .ok (rng 0 j.toNat):=by
 unfold zO;rw[a];exact if_pos h
theorem xB:ml (.int i) (.int j)= .ok (decide (j < i)):=rfl
theorem u9 {k:Kd}(a:k.Ok 3)(q:k.all.length<=500):KC [k.t]= .ok (.lst k.all):=by
 show zh (Xo _ _ _ [.vl k.t,.un])=_;have l:zr 1 (za 1 (ot 20) (z9 (vE 0) (zd))) [.vl k.t,.un]= .nx (ly k.t (.int (k.all.length))):=by
  rw[zC]
  ·rfl
  ·rw[zF,v0,kj,jA (by omega) a]
 have j:zk ml (vB 1) (cE (.int 500)) (ly k.t (.int (k.all.length)))= .ok false:=by
  rw[zA,w1,kj,zK,kj,xB,decide_eq_false (by omega)]
 have e:zO (vE 1) (ly k.t (.int (k.all.length)))= .ok (rng 0 k.all.length):=by
  rw[UN rfl ⟨by omega,by omega⟩,a_]
 have p:zp _ _ (za 2 (oR 20) (z9 (vE 1) (z9 (vE 0) _))) 1 [0] (ly k.t (.int (k.all.length))) (rng 0 k.all.length)= .ok ((rng 0 _).map λt=>match t with | .int i=>(k.all[i.toNat]?).getD .non | y=>y):=
  zP _ (by unfold rng;rw[ah,bE];have:lB=16777216:=rfl;omega) λt f=>by
   obtain⟨i,hi,rfl⟩:=aE.mp f;obtain⟨x,d⟩:=jM (aS.mp hi);show za 2 _ _ (ly _ k.t)=R.ok ((k.all[((0:Int)+(i)).toNat]?).getD _);rw[show ((0:Int)+(i))=(i) by omega,zx,v1,kj,v0,kj,E1 a d,a_,d]
   rfl
 have g:sA (zO (vE 1)) (zq 0) (Z9) (za 2 (oR 20) (z9 (vE 1) (z9 (vE 0) (zd)))) 1 [0] (ly k.t (.int (k.all.length)))= .rf k.all:=by
  show ((zO _ (ly k.t _)).s λts=>(zp _ _ _ _ _ (ly k.t _) ts).s λo=>RS.rf o)=_;rw[e,Ze,p,Ze,mR]
 rw[Xo,zb (ZU (by rw[zF,v0,kj,v6 a])),zb l,zb (zj j),g]
 rfl
theorem wW {k:Kd}(a:k.Ok 3)(f:500 < k.all.length):KC [k.t]= .ex 3:=by
 show zh (Xo _ _ _ [.vl k.t,.un])=_;have e:zr 1 (za 1 (ot 20) (z9 (vE 0) (zd))) [.vl k.t,.un]= .nx (ly k.t (.int (k.all.length))):=by
  rw[zC]
  ·rfl
  ·rw[zF,v0,kj,jA (by omega) a]
 have d:zk ml (vB 1) (cE (.int 500)) (ly k.t (.int (k.all.length)))= .ok true:=by
  rw[zA,w1,kj,zK,kj,xB,decide_eq_true (by omega)]
 rw[Xo,zb (ZU (by rw[zF,v0,kj,v6 a])),zb e,JD]
 ·rfl
 ·rw[jV d];rfl
theorem ua (a:sOk t)(hi:md 3 t=false):KC [t]= .ex 0:=by
 show zh (Xo _ _ _ [.vl t,.un])=_;rw[Xo,JD (u7 (by rw[zF,v0,kj,gm a hi]))]
 rfl
theorem Cs:nU 0= .ok (.str "no kind"):=by rfl
theorem Cw:nU 1= .ok (.str "no worth"):=by rfl
theorem FF:nU 3= .ok (.str "too many"):=by rfl
theorem XA (h:f ρ= .ex c):zr i f ρ= .ex c:=by rw[ZD,h];rfl
theorem Cv (h:g ρ= .ok true):lP g f f' ρ=f ρ:=by unfold lP;rw[h];rfl
theorem BS (h:g ρ= .ok false):lP g f f' ρ=f' ρ:=by unfold lP;rw[h];rfl
inductive W:Nat->T->Prop where
 | int (d:Nat) (i:Int):W d (.int i)
 | str (d:Nat) (s:Str):W d (.str s)
 | tup {d:Nat} {xs:List T} (h:xs.length<=3) (r:∀x∈xs,W d x):W (d+1) (.tup xs)
theorem xC:∀(d:Nat) (k:Kd) (x:T),k.Ok (d+1)->k.has x=true->W d x
 | d,.whole lo hi,x,_,h=>by
  cases x <;> first | exact .int _ _ | (simp[Kd.has,mW]at h)
 | d,.pick r,x,_,h=>by
  cases x <;> first | exact .str _ _ | (simp[Kd.has]at h)
 | 0,.row e,x,a,h=>by
  obtain⟨g,o,a⟩:=a
  match e,g,a with
  | k :: _,_,a=>exact(a k ag).elim
 | 0,.many k lo hi,x,a,h=>a.2.2.elim
 | d+1,.row e,x,a,h=>by
  obtain⟨g,o,a⟩:=a;cases x with
  | tup xs=>
   rw[Kd.has]at h;simp only[ae,beq_iff_eq]at h;obtain⟨l,f⟩:=h;refine .tup (by omega) λx i=> ?_
   obtain⟨k,q,j⟩:=JU e xs l f x i;exact xC d k x (a k q) j
  | _=>simp[Kd.has]at h
 | d+1,.many k lo hi,x,a,h=>by
  obtain⟨g,o,a⟩:=a;cases x with
  | tup xs=>
   rw[Kd.has]at h;simp only[ae,decide_eq_true_eq,aO]at h;obtain⟨⟨l,p⟩,f⟩:=h;refine .tup (by omega) λx i=> ?_
   exact xC d k x a (f x i)
  | _=>simp[Kd.has]at h
mutual
noncomputable def lv:T->List T
 | .tup xs=>mU xs
 | .non=>[.non]
 | .bl b=>[.bl b]
 | .int b=>[.int b]
 | .str b=>[.str b]
 | .lst b=>[.lst b]
 | .fz b=>[.fz b]
noncomputable def mU:List T->List T
 | []=>[]
 | x :: xs=>lv x++mU xs
end
theorem F7 (xs:List T):lv (.tup xs)=mU xs:=by rw[lv]
theorem ub (x:T)(xs:List T):mU (x :: xs)=lv x++mU xs:=by rw[mU]
theorem v7:mU []=[]:=by rw[mU]
theorem v8:∀xs:List T,(∀x∈xs,(lv x).length<=n)->(mU xs).length<=xs.length*n
 | [],_=>by exact bn _
 | x :: xs,h=>by
  rw[ub,az,ar,eN];have d:=h x ag;have a:=v8 xs λy hy=>h y (ac _ hy);omega
theorem pC (d:Nat):1<=3 ^ d:=Nat.one_le_pow _ _ (by omega)
theorem v9 (h:W d x):(lv x).length<=3 ^ d:=by
 induction h with
 | int d i=>exact pC d
 | str d i=>exact pC d
 | @tup d xs h r a=>
  rw[F7];have:=v8 xs a;have e:=eJ (3 ^ d) h;omega
inductive Lf:T->Prop where
 | int (i:Int):Lf (.int i)
 | str (i:Str):Lf (.str i)
theorem XB:∀(xs:List T),(∀x∈xs,∀y∈lv x,Lf y)->∀y∈mU xs,Lf y
 | [],_,y,hy=>by cases hy
 | x :: xs,h,y,hy=>by
  rcases bF.mp hy with hy | hy
  ·exact h x ag y hy
  ·exact XB xs (λz a=>h z (ac _ a)) y hy
theorem CJ (h:W d x):∀y∈lv x,Lf y:=by
 induction h with
 | int d i=>intro y hy;rw[aH.mp hy];exact .int _
 | str d i=>intro y hy;rw[aH.mp hy];exact .str _
 | @tup d xs h r a=>intro y hy;exact XB xs a y hy
theorem FV (hi:ρ[i]? =some (.ow ts))(h:f ρ= .ok (.lst us))(a:ts.length+us.length<=lB):Y5 i f ρ= .nx (ρ.set i (.ow (ts++us))):=by
 unfold Y5;rw[hi];dsimp only;rw[h,Ze];dsimp only;rw[if_pos a]
abbrev Av (c:List T->R T):En->RS:=Y5 1 (za 1 c (z9 (vE 2) (zd)))
theorem va (hn:n<=1000):∀(xs:List T) (acc:List T) (x:Sl),(∀x∈xs,c [x]= .ok (.lst (lv x))/\(lv x).length<=n)->acc.length+xs.length*n<=1000000->
  ∃d,Zv (zq 2) (Av c) xs [a,.ow acc,x]= .nx [a,.ow (acc++mU xs),d]
 | [],acc,x,_,_=>⟨x,by rw[v7,bo];rfl⟩
 | y :: xs,acc,x,H,g=>by
  obtain⟨e,k⟩:=H y ag;rw[ar,eN]at g;have j:lB=16777216:=rfl;obtain⟨d,h⟩:=va hn xs (acc++lv y) _ (λz f=>H z (ac _ f)) (by rw[az];omega)
  refine⟨d, ?_⟩;have i:zq 2 y [a,.ow acc,x]= .ok _:=rfl;have b2:Av c [a,.ow acc,.vl y]= .nx [a,.ow (acc++lv y),.vl y]:=by
   have z:za 1 c (z9 (vE 2) (zd)) [a,.ow acc,.vl y]= .ok (.lst (lv y)):=by rw[zF,v2,kj,e]
   exact FV rfl z (by omega)
  rw[jL i b2,h,ub,bg]
theorem XF:ZW (Z8 (lj (j4 "tuple") (vB 0))) (.vl x :: r)= .ok (!(match x with | .tup _=>true | _=>false)):=by
 all_goals (cases x <;> rfl)
theorem wG:∀(n d:Nat),d < n->d<=3->∀x:T,W d x->pG n 0 [x]= .ok (.lst (lv x))
 | 0,d,h,_,_,_=>absurd h (fT _)
 | n+1,d,h,l,x,g=>by
  show zh (rZ _ [.vl x,.un,.un])=_;rw[rZ];cases g with
  | int d i=>
   rfl
  | str d i=>
   rfl
  | @tup d xs k r=>
   have hp:3 ^ d<=27:=cR (by omega) (show d<=3 by omega)
   obtain⟨a,f⟩:=va (by omega) xs [] .un (λy hy=>⟨wG n d (by omega) (by omega) y (r y hy),v9 (r y hy)⟩) (by have:=d5 k hp;simp;omega)
   have j:wR 1 zd [.vl (.tup xs),.un,.un]= .nx [.vl _,.ow [],.un]:=rfl;have e:j5 (Zg (vE 0)) (zq 2) (Av (pG n 0)) [.vl (.tup xs),.ow [],.un]= .nx [.vl (.tup xs),.ow ([]++mU xs),a]:=by
    exact f
   rw[zb (zj XF),zb j,zb e,bN];rfl
abbrev Bj (c:List T->R T):En->RS:=zr 1 (zc zn (vE 1) (za 1 c (z9 (vE 2) (zd))))
theorem C5 (h:xs.length+ys.length<=1000000):zn (.lst xs) (.lst ys)= .ok (.lst (xs++ys)):=by
 unfold zn;dsimp only;rw[if_pos (by have a:lB=16777216:=rfl;omega)]
theorem vc (hn:n<=1000):∀(xs:List T) (acc:List T) (x:Sl),(∀x∈xs,c [x]= .ok (.lst (lv x))/\(lv x).length<=n)->acc.length+xs.length*n<=1000000->
  ∃d,Zv (zq 2) (Bj c) xs [a,.vl (.lst acc),x]= .nx [a,.vl (.lst (acc++mU xs)),d]
 | [],acc,x,_,_=>⟨x,by rw[v7,bo];rfl⟩
 | y :: xs,acc,x,H,g=>by
  obtain⟨e,j⟩:=H y ag;rw[ar,eN]at g;obtain⟨d,h⟩:=vc hn xs (acc++lv y) _ (λz f=>H z (ac _ f)) (by rw[az];omega)
  refine⟨d, ?_⟩;have i:zq 2 y [a,.vl (.lst acc),x]= .ok _:=rfl;have b2:Bj c [a,.vl (.lst acc),.vl y]= .nx [a,.vl (.lst (acc++lv y)),.vl y]:=by
   have z:zc zn (vE 1) (za 1 c (z9 (vE 2) (zd))) [a,.vl (.lst acc),.vl y]= .ok (.lst (acc++lv y)):=by rw[ze,v1,kj,zF,v2,kj,e,kj,C5 (by omega)]
   exact zC z
  rw[jL i b2,h,ub,bg]
theorem yC:∀(n d:Nat),d < n->d<=3->∀x:T,W d x->pZ n 0 [x]= .ok (.lst (lv x))
 | 0,d,h,_,_,_=>absurd h (fT _)
 | n+1,d,h,l,x,g=>by
  show zh (rA _ [.vl x,.un,.un])=_;rw[rA];cases g with
  | int d i=>
   rfl
  | str d i=>
   rfl
  | @tup d xs k r=>
   have hp:3 ^ d<=27:=cR (by omega) (show d<=3 by omega)
   obtain⟨a,f⟩:=vc (by omega) xs [] .un (λy hy=>⟨yC n d (by omega) (by omega) y (r y hy),v9 (r y hy)⟩) (by have:=d5 k hp;simp;omega)
   have j:zr 1 (Z7 zd) [.vl (.tup xs),.un,.un]= .nx [.vl _,.vl _,.un]:=rfl;have e:j5 (Zg (vE 0)) (zq 2) (Bj (pZ n 0)) [.vl (.tup xs),.vl (.lst []),.un]= .nx [.vl (.tup xs),.vl (.lst ([]++mU xs)),a]:=by
    exact f
   rw[zb (zj XF),zb j,zb e,bN];rfl
theorem Zx {p:T->Bool}{js:List Nat}(ts:List T)(d:ts.length<=lB)(H:∀t∈ts,ft ((jQ k js ρ).set 0 (.vl t))= .ok (p t)/\fe ((jQ k js ρ).set 0 (.vl t))= .ok t):zp (zq 0) ft fe k js ρ ts= .ok (ts.filter p):=by
 unfold zp;rw[if_pos d,zZ (h:=id) ts _ λt a=>⟨(H t a).1,λ_=>(H t a).2⟩,f7];rfl
noncomputable def j7:List T->List Int
 | []=>[]
 | .int i :: r=>i :: j7 r
 | .non :: r=>j7 r
 | .bl _ :: r=>j7 r
 | .str _ :: r=>j7 r
 | .tup _ :: r=>j7 r
 | .lst _ :: r=>j7 r
 | .fz _ :: r=>j7 r
theorem wH:∀ts:List T,ts.filter By=(j7 ts).map T.int
 | []=>rfl
 | t :: ts=>by
  have a:=wH ts;rw[d6,a];cases t <;> rfl
theorem UO:∀a:List Int,Zc (a.map T.int)=some a
 | []=>rfl
 | i :: a=>by
  have e:Zc ((i :: a).map T.int)=match Zc _ with | some l=>some _ | none=>none:=rfl
  rw[e,UO a]
theorem uc:∀ts:List T,(j7 ts).length<=ts.length
 | []=>ao _
 | t :: ts=>by
  have a:=uc ts;cases t <;> simp only[j7,ar] <;> omega
theorem w9 (hd:d<=2)(h:W d x):(lv x).length<=9:=ay (v9 h) (cR (by omega) hd)
theorem Yw (hd:d<=2)(h:W d x):sw [x]= .ok (.lst ((j7 (lv x)).map T.int)):=by
 show zh _=_;have g:=w9 hd h;have e:zp _ (Z8 (za 1 mS (z9 (vE 0) _))) (vE 0) 1 [] [.vl x] (lv x)= .ok _:=
  Zx _ (by have f:lB=16777216:=rfl;omega) λt _=>⟨by
   show Z8 _ [.vl t]=_;rw[ZK,zF,v0,kj,WN,kj,Zs],rfl⟩
 rw[Bc,zg]
 ·rfl
 ·show zv _ _ _ _ _ _ [.vl x]=_;have a:oB 8 [x]= .ok _:=wG 8 d (by omega) (by omega) x h
  rw[zE,Zt,zF,v0,kj,a];show ((zp _ _ _ _ _ _ _).bind _)=_;rw[e,kj,wH]
noncomputable def m9 (a:List Int):Bool:=(a.zip (a.drop 1)).all λq=>decide (q.1<=q.2)
theorem vd:∀(a:List (Int×Int)) (x y:Sl),zy (zX 0 1) Z9 (ZQ lA (vB 0) (vB 1)) (a.map λq=>T.tup [.int q.1,.int q.2]) [x,y]= .ok (a.map λq=>T.bl (decide (q.1<=q.2)))
 | [],_,_=>rfl
 | q :: a,x,y=>by
  have e:=vd a (.vl (.int q.1)) (.vl (.int q.2));have d:zy (zX 0 1) Z9 (ZQ lA (vB 0) (vB 1)) ((q :: a).map λq=>T.tup [.int q.1,.int q.2]) [x,y]=
   (R.ok (T.bl _)).bind λv=>(zy _ _ _ (a.map λq=>T.tup [.int q.1,.int q.2]) [.vl _,.vl _]).bind λf=> .ok _:=rfl
  rw[d,kj,e,kj,aF]
theorem gp (xs:List T):mn xs (some ((1:Nat):Int)) none=xs.drop 1:=by
 unfold mn;rw[HT.sIx_nat,HT.sIx_none]
 by_cases h:1<=xs.length
 ·rw[dj h,dY (by rw[ce];omega)]
 ·have:xs=[]:=fA.mp (by omega)
  subst this;rfl
theorem ve (a:List Int)(g:a.length<=100):As [.lst (a.map T.int)]= .ok (.bl (m9 a)):=by
 show zh _=_;have d:Kg (vE 0) (lK (vE 0) (zJ (cE (.int 1))) (lM)) [.vl (.lst (a.map T.int))]= .ok ((a.zip (a.drop 1)).map λq=>T.tup [.int q.1,.int q.2]):=by
  show R.ok (V3 _ (mn _ (some ((1:Nat))) _))=_;rw[gp,← List.map_drop];unfold V3;rw[List.zip_map,bi];rfl
 have e:zp (zX 0 1) Z9 (ZQ lA (vB 0) (vB 1)) 2 [] [.vl (.lst (a.map T.int))] ((a.zip (a.drop 1)).map λq=>T.tup [.int q.1,.int q.2])= .ok ((a.zip (a.drop 1)).map λq=>T.bl (decide (q.1<=q.2))):=by
  unfold zp;rw[if_pos (by rw[ah,fU];have f:lB=16777216:=rfl;omega)]
  show quiet (zy _ _ _ _ [.un,.un])=_;rw[vd];rfl
 rw[tK,zg]
 ·rfl
 ·show lj _ _ [.vl _]=_;rw[Z5,zE,d,kj,e,kj];show (match uF _ with | some k=>R.ok _ | none=> .bad)=_
  rw[u6 (λq=>decide _)];rfl
theorem ZE (x y:Int)(r:List Int):m9 (x :: y :: r)=(decide (x<=y) && m9 (y :: r)):=by
 unfold m9;rw[dC,cI,d9,b_,dC,cI]
theorem vf (x:Int):∀l:List Int,m9 l=true->m9 (ye x l)=true/\∀y,(∀z∈l,y<=z)->y<=x->∀z∈ye x l,y<=z
 | [],_=>⟨rfl,λy _ h z d=>by rw[aH.mp d];exact h⟩
 | [a],_=>by
  rw[ye];split
  ·rename_i h;exact⟨by rw[ZE,decide_eq_true h];rfl,λy f g z d=>by
    rcases aq.mp d with rfl | d
    ·exact g
    ·exact f z d⟩
  ·rw[ye];exact⟨by rw[ZE,decide_eq_true (by omega)];rfl,λy f g z d=>by
    rcases aq.mp d with rfl | d
    ·exact f _ ag
    ·rw[aH.mp d];exact g⟩
 | a :: b :: r,h=>by
  rw[ZE,ae,decide_eq_true_eq]at h;obtain⟨e,j⟩:=vf x _ h.2;rw[ye];split
  ·rename_i k;exact⟨by rw[ZE,decide_eq_true k,ZE,decide_eq_true h.1,h.2];rfl,λy f g z d=>by
    rcases aq.mp d with rfl | d
    ·exact g
    ·exact f z d⟩
  ·refine⟨?_,λy f g z d=>by
    rcases aq.mp d with rfl | d
    ·exact f _ ag
    ·exact j y (λw o=>f w (ac _ o)) g z d⟩
   rw[ye]at e ⊢;split
   ·rename_i i;rw[if_pos i]at e;rw[ZE,decide_eq_true (by omega),e];rfl
   ·rename_i i;rw[if_neg i]at e;rw[ZE,decide_eq_true h.1,e];rfl
theorem vg:∀l:List Int,m9 (qW l)=true
 | []=>rfl
 | x :: l=>by rw[qW];exact(vf x _ (vg l)).1
theorem vh:∀l:List Int,m9 l=true->qW l=l
 | [],_=>rfl
 | [x],_=>rfl
 | x :: y :: r,h=>by
  rw[ZE,ae,decide_eq_true_eq]at h;rw[qW,vh _ h.2,ye,if_pos h.1]
theorem yD:∀xs ys:List Int,∃b,mh (lw n) (xs.map T.int) (ys.map T.int)=some b/\(b=true↔xs=ys)
 | [],[]=>⟨true,rfl,by simp⟩
 | [],y :: ys=>⟨false,rfl,by simp⟩
 | x :: xs,[]=>⟨false,rfl,by simp⟩
 | x :: xs,y :: ys=>by
  obtain⟨b,e,h⟩:=yD xs ys;have a:mh _ ((x :: xs).map T.int) ((y :: ys).map T.int)=match lw n _ _ with
   | none=>none
   | some b=>match mh _ _ _ with
    | none=>none
    | some c=>some _:=rfl
  have d:lw n (.int x) (.int y)=some (x == y):=by cases n <;> rfl
  refine⟨(x == y) && b,by rw[a,d,e], ?_⟩
  rw[ae,beq_iff_eq,h,l9]
theorem vi (a:List Int):ll (.lst (a.map T.int)) (.lst ((qW a).map T.int))= .ok (m9 a):=by
 obtain⟨b,e,h⟩:=yD a _;have f:lw 30 (.lst _) (.lst _)=some b:=e;unfold ll;rw[f];show R.ok b=_;congr 1
 cases d:b with
 | true=>
  have:=h.mp d;rw[this];exact(vg a).symm
 | false=>
  cases g:m9 a with
  | false=>rfl
  | true=>rw[d]at h;exact absurd (h.mpr (vh a g).symm) aA
theorem Q3 (a:List Int)(d:a.length<=60):VR (.lst (a.map T.int))= .ok (.lst ((qW a).map T.int)):=by
 unfold VR;dsimp only;rw[UO];dsimp only;rw[if_pos (by rw[ah];omega)]
theorem Er (a:List Int):VI (.lst (a.map T.int))= .ok (.int a.sum):=by
 unfold VI;dsimp only;rw[UO]
def inB (xs:List T)(x:T):Bool:=(Ji (λy=>lw 30 y x) xs).getD false
theorem Ep (x:T)(h:∀y∈xs,Pl 30 y):Ji (λy=>lw 30 y x) xs=some (inB xs x):=by
 obtain⟨b,e,_⟩:=wF xs λt a=>Jg 30 t x (h t a);unfold inB;rw[e];rfl
theorem W.pl (h:W d x):Pl (d+1) x:=by
 induction h with
 | int d i=>exact trivial
 | str d i=>exact trivial
 | @tup d xs h r a=>exact a
theorem W.pl30 (h:W d x)(hd:d<=2):Pl 30 x:=h.pl.le (by omega)
noncomputable def Zh:T->List T
 | .tup xs=>xs
 | .non=>[.non]
 | .bl b=>[.bl b]
 | .int b=>[.int b]
 | .str b=>[.str b]
 | .lst b=>[.lst b]
 | .fz b=>[.fz b]
theorem gq (h:W d x):sN [x]= .ok (.tup (Zh x)):=by cases h <;> rfl
theorem U8 (h:W d x):(Zh x).length<=3:=by
 cases h with
 | int=>exact(by decide:1<=3)
 | str=>exact(by decide:1<=3)
 | tup h _=>exact h
theorem yE (h:W d x)(hd:d<=2):∀y∈Zh x,Pl 30 y:=by
 cases h with
 | int=>intro y hy;rw[aH.mp hy];exact trivial
 | str=>intro y hy;rw[aH.mp hy];exact trivial
 | @tup d xs h r=>intro y hy;exact(r y hy).pl30 (by omega)
def un (a:List T):Bool:= !(a.zipIdx.any λp=>inB (a.take p.2) p.1)
theorem U9 {xs:List T}{k:Nat}:na (.tup xs) none (some (k:Int))= .ok (.tup (xs.take k)):=by
 show R.ok _=_;have:mn xs none (some (k))=xs.take k:=by
  unfold mn;rw[HT.sIx_none,HT.sIx_nat];simp only[cI,iB];rw[fX];omega
 rw[this]
theorem vj {a:List T}(h:∀y∈a,Pl 30 y)(k:Nat)(x:T):lQ x (.tup (a.take k))= .ok (inB (a.take k) x):=by
 show (match Ji (λy=>lw 30 y x) _ with | some b=>R.ok b | none=> .bad)=_
 rw[Ep x λy hy=>h y (hZ hy)]
abbrev nr:En->R T:=ZQ lQ (vB 1) (lK (vE 2) (lM) (zJ (vE 0)))
theorem vk {a:List T}(h:∀y∈a,Pl 30 y):∀(d:List (T×Nat)) (x y:Sl),zy (zX 0 1) Z9 nr (d.map λp=>T.tup [.int (p.2:Nat),p.1]) [x,y,.vl (.tup a)]= .ok (d.map λp=>T.bl (inB (a.take p.2) p.1))
 | [],_,_=>rfl
 | q :: d,x,y=>by
  have i:=vk h d (.vl (.int (q.2))) (.vl q.1);have e:nr [.vl (.int (q.2)),.vl q.1,.vl (.tup a)]= .ok (.bl (inB (a.take q.2) q.1)):=by
   have f:lK (vE 2) lM (zJ (vE 0)) [.vl (.int (q.2)),.vl q.1,.vl (.tup a)]=na (.tup a) _ _:=rfl;unfold nr;rw[Za,w1,kj,f,U9,kj,vj h,kj]
  have g:zy (zX 0 1) Z9 nr ((q :: d).map λp=>T.tup [.int (p.2),p.1]) [x,y,.vl (.tup a)]=
   (nr [.vl _,.vl q.1,.vl _]).bind λv=>(zy _ _ nr (d.map λp=>T.tup _) [.vl _,.vl q.1,.vl _]).bind λj=> .ok _:=rfl
  rw[g,e,kj,i,kj,aF]
theorem Ua {d:Type}(p:d->Bool):∀a:List d,wS (a.map λq=>T.bl (p q))=some (a.any p)
 | []=>rfl
 | q :: a=>by
  have e:wS ((q :: a).map λq=>T.bl (p q))=match wS (a.map λq=>T.bl _) with | some j=>some _ | none=>none:=rfl
  rw[e,Ua p a];rfl
theorem vm (h:∀y∈ps,Pl 30 y)(g:ps.length<=100):AQ [.tup ps]= .ok (.bl (un ps)):=by
 show zh _=_;have e:zp (zX 0 1) Z9 nr 2 [0] [.vl (.tup ps)] (jb ps)= .ok (ps.zipIdx.map λp=>T.bl (inB (ps.take p.2) p.1)):=by
  unfold zp;rw[if_pos (by unfold jb;rw[ah,eY];have f:lB=16777216:=rfl;omega)]
  show quiet (zy _ _ _ _ [.un,.un,.vl _])=_;unfold jb;rw[vk h];rfl
 rw[BH,zg]
 ·rfl
 ·have d:zv (wg (vE 0)) (zX 0 1) Z9 nr 2 [0] [.vl (.tup ps)]= .ok (.lst (ps.zipIdx.map λp=>T.bl (inB (ps.take p.2) p.1))):=by
   show ((R.ok _).bind _)=_;rw[kj,e,kj]
  have a:lj Aq (zv (wg (vE 0)) (zX 0 1) Z9 nr 2 [0]) [.vl (.tup ps)]= .ok (.bl (ps.zipIdx.any λp=>inB (ps.take p.2) p.1)):=by
   rw[Z5,d];show (match wS _ with | some k=>R.ok _ | none=> .bad)=_
   rw[Ua (λp:T×Nat=>inB _ p.1)]
  show qr _ [.vl _]=_;unfold qr;rw[a];rfl
theorem xD {d:List T}(h:∀y∈d,Pl 30 y)(B:d.length<=100){a b c:Sl}{ρ:En}:∃r,zp (zq 0) (zk lQ (zc li (vE 1) (vE 0)) (lK (vE 1) (lM) (zJ (vE 0)))) (vE 0) 1 [3] (a :: b :: c :: .vl (.tup d) :: ρ) (rng 0 d.length)= .ok r/\r.isEmpty=un d:=by
 let p:T->Bool:=λt=>match t with
  | .int i=>match d[i.toNat]? with | some w=>inB (d.take i.toNat) w | none=>false
  | _=>false
 refine⟨(rng 0 _).filter p,Zx _ (by unfold rng;rw[ah,bE];have v:lB=16777216:=rfl;omega) λt j=> ?_, ?_⟩
 ·obtain⟨k,f,rfl⟩:=aE.mp j;have e :=aS.mp f;refine⟨?_,rfl⟩;show zk lQ _ _ [.vl _,.vl _]=_;rw[show (0:Int)+(k)=(k) by omega]
  have u:li (.tup d) (.int k)= .ok d[k]:=by
   show lI d k=_;unfold lI;rw[Zu (ak e)]
  have o:lK (vE 1) lM (zJ (vE 0)) [.vl (.int (k)),.vl (.tup d)]=na (.tup d) _ _:=rfl;rw[zA,ze,v1,kj,v0,kj,u,kj,o,U9,kj,vj h];show _=R.ok (match d[((k:Int)).toNat]? with | some w=>inB _ w | none=>false)
  rw[a_,ak e]
 ·rw[fV,iP,fQ];unfold un;rw[iD,il];constructor
  ·intro H q l;obtain⟨x,k⟩:=q;have f:=List.mem_zipIdx' l;have:=H _ (by exact aE.mpr ⟨k,aS.mpr f.1,rfl⟩)
   intro g;apply this
   show (match d[((0:Int)+(k)).toNat]? with | some w=>inB _ w | none=>false)=true
   rw[show ((0:Int)+(k)).toNat=k by omega,ak f.1,← f.2]
   exact g
  ·intro H t j g;obtain⟨k,f,rfl⟩:=aE.mp j;have e :=aS.mp f;have g:(match d[((0:Int)+(k)).toNat]? with | some w=>inB _ w | none=>false)=true:=g
   rw[show ((0:Int)+(k)).toNat=k by omega,ak e]at g
   exact H _ (List.mk_mem_zipIdx_iff_getElem?.mpr (ak e)) g
noncomputable def V7 (w:Str):T->Bool
 | .str x=>x == w
 | _=>false
theorem B9 (w:Str)(n:Nat):∀t:T,lw n t (.str w)=some (V7 w t)
 | .str x=>by cases n <;> rfl
 | .non=>by cases n <;> rfl
 | .bl _=>by cases n <;> rfl
 | .int _=>by cases n <;> rfl
 | .tup _=>by cases n <;> rfl
 | .lst _=>by cases n <;> rfl
 | .fz _=>by cases n <;> rfl
theorem vn (w:Str):∀ts:List T,Ji (λy=>lw 30 y (.str w)) ts=some (ts.any (V7 w))
 | []=>rfl
 | t :: ts=>by
  have e:Ji (λy=>lw 30 y (.str w)) (t :: ts)=match lw 30 t _ with
   | none=>none
   | some b=>match Ji (λy=>lw 30 y _) ts with
    | none=>none
    | some d=>some _:=rfl
  rw[e,B9,vn w ts];rfl
theorem gr (w:Str)(ts:List T):(ts.filter (V7 w)).isEmpty= !(ts.any (V7 w)):=by
 induction ts with
 | nil=>rfl
 | cons t ts a=>
  rw[d6,i9];cases V7 w t with
  | true=>rfl
  | false=>rw[if_neg aA,a,Bool.false_or]
inductive Ru where
 | sum (a b:Int) | size (a b:Int) | word (w:Str) | rising | unlike | no (r:Ru) | all (r s:Ru) | some (r s:Ru)
def Ru.t:Ru->T
 | .sum a b=> .tup [.str "sum",.int a,.int b]
 | .size a b=> .tup [.str "size",.int a,.int b]
 | .word w=> .tup [.str "word",.str w]
 | .rising=> .tup [.str "rising"]
 | .unlike=> .tup [.str "unlike"]
 | .no r=> .tup [.str "no",r.t]
 | .all r s=> .tup [.str "all",r.t,s.t]
 | .some r s=> .tup [.str "some",r.t,s.t]
inductive jk:Nat->Ru->Prop where
 | sum {d:Nat} {a b:Int} (ha: -50<=a/\a<=50) (hb: -50<=b/\b<=50):jk (d+1) (.sum a b)
 | size {d:Nat} {a b:Int} (ha: -50<=a/\a<=50) (hb: -50<=b/\b<=50):jk (d+1) (.size a b)
 | word {d:Nat} {w:Str} (h:Z0 (.str w)=true):jk (d+1) (.word w)
 | rising {d:Nat}:jk (d+1) .rising
 | unlike {d:Nat}:jk (d+1) .unlike
 | no {d:Nat} {r:Ru} (h:jk d r):jk (d+1) (.no r)
 | all {d:Nat} {r s:Ru} (h:jk d r) (h' :jk d s):jk (d+1) (.all r s)
 | some {d:Nat} {r s:Ru} (h:jk d r) (h' :jk d s):jk (d+1) (.some r s)
def kp:Ru->T->Bool
 | .sum a b,x=>decide (a<=(j7 (lv x)).sum) && decide ((j7 (lv x)).sum<=b)
 | .size a b,x=>decide (a<=((Zh x).length:Int)) && decide (((Zh x).length:Int)<=b)
 | .word w,x=>(lv x).any (V7 w)
 | .rising,x=>m9 (j7 (lv x))
 | .unlike,x=>un (Zh x)
 | .no r,x=> !kp r x
 | .all r s,x=>kp r x && kp s x
 | .some r s,x=>kp r x || kp s x
theorem JW (h: -50<=i/\i<=50):tj [.int i]= .ok (.bl true):=by
 show zh _=_;rw[Bm,zg]
 ·rfl
 ·show ZV _ _ [.vl _]=_;rw[jh,zF,v0,kj,Yh,Qj,zK,kj];rw[kj,w0,kj,Js,decide_eq_true h.1,kj,kj,Js,decide_eq_true h.2];rfl
theorem ZI (b:Bool)(h:(x == w)=b):zk ll (zc li (vE 0) (cE (.int 0))) (cE (.str w)) (.vl (.tup (.str x :: r)) :: ρ)= .ok b:=by rw[mY,h]
theorem YD (h:f ρ= .ok false)(h' :g ρ= .ok b):lY f g ρ= .ok b:=by rw[Ux,h,kj,if_neg aA,h']
theorem tQ (h:f ρ= .ok true):lY f g ρ= .ok true:=by rw[Ux,h,kj,if_pos rfl]
theorem wX (h:f ρ= .ok (.bl true))(h' :g ρ=r):ZV f g ρ=r:=by rw[jh,h,Zm,if_pos rfl,h']
theorem XG (h:((xs.length:Int) == n)=true):ZQ ll (lj zM (vB 0)) (cE (.int n)) (.vl (.tup xs) :: ρ)= .ok (.bl true):=by
 rw[Za,Z5,w0,kj,Zw,kj,zK,kj,mD,h,kj]
theorem jw:lY (zk ll (vB 1) (cE (.int 0))) (lY (ZW (Z8 (lj (j4 "tuple") (vB 0)))) (zk ll (lj zM (vB 0)) (cE (.int 0)))) (ly (.tup (x :: xs)) (.int ((d+1:Nat):Int)))= .ok false:=by
 refine YD ?_ (YD ?_ ?_)
 ·rw[zA,w1,kj,zK,kj,mD,beq_eq_false_iff_ne.mpr (by omega)]
 ·rfl
 ·rw[zA,Z5,w0,kj,Zw,kj,zK,kj,mD,beq_eq_false_iff_ne.mpr (by rw[ar];omega)]
theorem xE (h:Z0 (.str w)=true):VY (.str w):=by
 have h:(decide _ && decide _ && w.cps.toList.all _)=true:=h;simp only[ae,decide_eq_true_eq]at h;exact ay h.1.2 (by decide)
theorem Jw:∀(n d:Nat),d<=n->∀r:Ru,jk d r->o6 n 0 [r.t,.int (d:Int)]= .ok (.bl true)
 | 0,d,h,r,hr=>by
  have:d=0:=by omega
  subst this;cases hr
 | n+1,d,h,r,hr=>by
  show zh (rl oo (o6 n 0) tj (ly r.t (.int (d:Int))))=_;rw[rl];cases hr with
  | @sum d a b j i=>
   rw[Ru.t,zb (zj jw),zu (t:= .bl true)]
   ·rfl
   ·exact zg (wX (XG rfl) (wX (by show za 1 _ _ (ly _ _)=_;rw[zF,Jf,kj,JW j]) (by show za 1 _ _ (ly _ _)=_;rw[zF,WX,kj,JW i])))
  | @size d a b j i=>
   rw[Ru.t,zb (zj jw),zu (t:= .bl true)]
   ·rfl
   ·exact zg (wX (XG rfl) (wX (by show za 1 _ _ (ly _ _)=_;rw[zF,Jf,kj,JW j]) (by show za 1 _ _ (ly _ _)=_;rw[zF,WX,kj,JW i])))
  | @word d w k=>
   rw[Ru.t,zb (zj jw),zb (zj (YD (ZI false (by decide)) (ZI false (by decide)))),zu (t:= .bl true)]
   ·rfl
   ·exact zg (wX (XG rfl) (by show za 1 _ _ (ly _ _)=_;rw[zF,Jf,kj,Qh _ (xE k),k]))
  | rising=>
   rw[Ru.t,zb (zj jw),zb (zj (YD (ZI false (by decide)) (ZI false (by decide)))),zb (zj (ZI false (by decide))),zu (t:= .bl true)]
   ·rfl
   ·rw[jV (tQ (ZI true (by decide)))]
    exact zg (XG rfl)
  | unlike=>
   rw[Ru.t,zb (zj jw),zb (zj (YD (ZI false (by decide)) (ZI false (by decide)))),zb (zj (ZI false (by decide))),zu (t:= .bl true)]
   ·rfl
   ·rw[jV (YD (ZI false (by decide)) (ZI true (by decide)))]
    exact zg (XG rfl)
  | @no d r hr=>
   have f:=Jw n d (by omega) r hr
   rw[Ru.t,zb (zj jw),zb (zj (YD (ZI false (by decide)) (ZI false (by decide)))),zb (zj (ZI false (by decide))),zb (zj (YD (ZI false (by decide)) (ZI false (by decide)))),zu (t:= .bl true)]
   ·rfl
   ·rw[jV (ZI true (by decide))]
    exact zg (wX (XG rfl) (by show za 2 _ _ (ly _ _)=_;rw[zx,Jf,kj,ze,v1,kj,zK,kj,Zf,kj,show ((d+1:Nat)) - 1=(d:Int) by omega,f]))
  | @all d r s hr g=>
   have f:=Jw n d (by omega) r hr
   have e :=Jw n d (by omega) s g
   rw[Ru.t,zb (zj jw),zb (zj (YD (ZI false (by decide)) (ZI false (by decide)))),zb (zj (ZI false (by decide))),zb (zj (YD (ZI false (by decide)) (ZI false (by decide)))),zb (zj (ZI false (by decide))),zu (t:= .bl true)]
   ·rfl
   ·exact zg (wX (XG rfl) (wX (by show za 2 _ _ (ly _ _)=_;rw[zx,Jf,kj,ze,v1,kj,zK,kj,Zf,kj,show ((d+1:Nat):Int) - 1=(d) by omega,f]) (by show za 2 _ _ (ly _ _)=_;rw[zx,WX,kj,ze,v1,kj,zK,kj,Zf,kj,show ((d+1:Nat):Int) - 1=(d) by omega,e])))
  | @some d r s hr g=>
   have f:=Jw n d (by omega) r hr
   have e :=Jw n d (by omega) s g
   rw[Ru.t,zb (zj jw),zb (zj (YD (ZI _ (by decide)) (ZI _ (by decide)))),zb (zj (ZI _ (by decide))),zb (zj (YD (ZI _ (by decide)) (ZI _ (by decide)))),zb (zj (ZI _ (by decide))),zu]
   ·rfl
   ·exact zg (wX (XG rfl) (wX (by show za 2 _ _ (ly _ _)=_;rw[zx,Jf,kj,ze,v1,kj,zK,kj,Zf,kj,show ((d+1:Nat):Int) - 1=(d) by omega,f]) (by show za 2 _ _ (ly _ _)=_;rw[zx,WX,kj,ze,v1,kj,zK,kj,Zf,kj,show ((d+1:Nat):Int) - 1=(d) by omega,e])))
theorem B6 (d:f ρ= .ok (.int i))(e:g ρ= .ok (.int j))(a:h ρ= .ok (.int k)):mm lA lA f g h ρ= .ok (.bl (decide (i<=j) && decide (j<=k))):=by
 rw[Yh,d,kj,e,kj,Js,kj];cases decide (i<=j) with
 | true=>rw[if_pos rfl,a,kj,Js,kj,cV]
 | false=>rw[if_neg aA,Bool.false_and]
theorem vo (hd:d<=2)(h:W d x)(b:Bool)(hr:(match r with | .no _=>False | .all _ _=>False | .some _ _=>False | _=>True)):pU [r.t,x]= .ok (.bl (kp r x)):=by
 have hn:=Yw hd h;have hp:=gq h;have e:oB 8 [x]= .ok (.lst (lv x)):=wG 8 d (by omega) (by omega) x h
 have hi:=ay (uc _) (w9 hd h);show zh (sX sN (oB 8) sw _ _ (ly r.t x))=_;rw[sX];cases r with
 | sum a b=>
  rw[zu]
  ·rfl
  ·refine zg ?_;show mm _ _ _ _ _ (ly _ x)=_;exact B6 Jf (by rw[Z5,zF,v1,kj,hn,kj,Er]) WX
 | size a b=>
  rw[Ru.t,zb (zj (ZI _ (by decide))),zu]
  ·rfl
  ·rw[jV (ZI _ (by decide))]
   refine zg ?_;show mm _ _ _ _ _ (ly _ x)=_;exact B6 Jf (by rw[Z5,zF,v1,kj,hp,kj,Zw]) WX
 | word w=>
  rw[Ru.t,zb (zj (ZI false (by decide))),zb (zj (ZI false (by decide))),zu]
  ·rfl
  ·rw[jV (ZI true (by decide))]
   refine zg ?_;show ZQ _ _ _ (ly _ x)=_;rw[Za,Jf,kj,zF,v1,kj,e];show ((match Ji (λy=>lw 30 y (.str w)) (lv x) with | some b=>R.ok b | none=> .bad).bind _)=_
   rw[vn];rfl
 | rising=>
  rw[Ru.t,zb (zj (ZI false (by decide))),zb (zj (ZI _ (by decide))),zb (zj (ZI _ (by decide))),zu (t:= .bl (kp _ x))]
  ·rfl
  ·rw[jV (ZI true (by decide))]
   refine zg ?_;show za 1 _ _ (ly _ x)=_;rw[zF,zF,v1,kj,hn,kj,ve _ (by omega)]
   rfl
 | unlike=>
  rw[Ru.t,zb (zj (ZI false (by decide))),zb (zj (ZI _ (by decide))),zb (zj (ZI false (by decide))),zb (zj (ZI _ (by decide))),zg]
  ·rfl
  ·show za 1 _ _ (ly _ x)=_;rw[zF,zF,v1,kj,hp,kj,vm (yE h hd) (ay (U8 h) (by omega))]
   rfl
 | no=>exact hr.elim
 | all=>exact hr.elim
 | some=>exact hr.elim
theorem vp (h:f ρ= .ok (.bl b)):qr f ρ= .ok (.bl (!b)):=by unfold qr;rw[h];rfl
theorem ud (h:f ρ= .ok (.bl a))(h' :g ρ= .ok (.bl b)):ZV f g ρ= .ok (.bl (a && b)):=by
 rw[jh,h,h'];cases a <;> rfl
theorem XH (h:f ρ= .ok (.bl a))(h' :g ρ= .ok (.bl b)):nz f g ρ= .ok (.bl (a || b)):=by
 unfold nz;rw[h];cases a with
 | true=>rfl
 | false=>exact h'
theorem Jx (k:e<=2)(j:W e x):∀(n d:Nat),d<=n->∀r:Ru,jk d r->nj n 0 [r.t,x]= .ok (.bl (kp r x))
 | 0,d,h,r,hr=>by
  have:d=0:=by omega
  subst this;cases hr
 | n+1,d,h,r,hr=>by
  show zh (rn (nj n 0) pU (ly r.t x))=_;rw[rn];have f:∀(r:Ru) (s:Str) (q:List T),r.t= .tup (.str s :: q)->(s == "no")=false->(s == "all")=false->(s == "some")=false->(match r with | .no _=>False | .all _ _=>False | .some _ _=>False | _=>True)->
    zh (zi (lu (zk ll (zc li (vE 0) (cE (.int 0))) (cE (.str "no"))) (zo (qr (za 2 (nj n 0) (z9 (zc li (vE 0) (cE (.int 1))) (z9 (vE 1) (zd)))))) (lq))
  (zi (lu (zk ll (zc li (vE 0) (cE (.int 0))) (cE (.str "all"))) (zo (ZV (za 2 (nj n 0) (z9 (zc li (vE 0) (cE (.int 1))) (z9 (vE 1) (zd)))) (za 2 (nj n 0) (z9 (zc li (vE 0) (cE (.int 2))) (z9 (vE 1) (zd)))))) (lq))
  (zi (lu (zk ll (zc li (vE 0) (cE (.int 0))) (cE (.str "some"))) (zo (nz (za 2 (nj n 0) (z9 (zc li (vE 0) (cE (.int 1))) (z9 (vE 1) (zd)))) (za 2 (nj n 0) (z9 (zc li (vE 0) (cE (.int 2))) (z9 (vE 1) (zd)))))) (lq))
  (zo (za 2 pU (z9 (vE 0) (z9 (vE 1) (zd))))))) (ly r.t x))= .ok (.bl (kp r x)):=by
   intro r s q e o u y B;have i:=vo k j true B;rw[e]at i ⊢;rw[zb (zj (ZI _ o)),zb (zj (ZI false u)),zb (zj (ZI _ y)),zg]
   ·rfl
   ·show za 2 _ _ (ly _ x)=_;rw[zx,v0,kj,v1,kj,i]
  cases hr with
  | @sum d a b p v=>exact f (.sum a b) "sum" _ rfl (by decide) (by decide) (by decide) trivial
  | @size d a b p v=>exact f _ "size" _ rfl (by decide) (by decide) (by decide) trivial
  | @word d w D=>exact f _ _ _ rfl (by decide) (by decide) (by decide) trivial
  | rising=>exact f .rising _ _ rfl (by decide) (by decide) (by decide) trivial
  | unlike=>exact f .unlike _ _ rfl (by decide) (by decide) (by decide) trivial
  | @no d r hr=>
   have l:=Jx k j n d (by omega) r hr
   rw[Ru.t,zu]
   ·rfl
   ·exact zg (vp (by show za 2 _ _ (ly _ x)=_;rw[zx,Jf,kj,v1,kj,l]))
  | @all d r s hr i=>
   have l:=Jx k j n d (by omega) r hr
   have g :=Jx k j n d (by omega) s i
   rw[Ru.t,zb (zj (ZI _ (by decide))),zu]
   ·rfl
   ·exact zg (ud (by show za 2 _ _ (ly _ x)=_;rw[zx,Jf,kj,v1,kj,l]) (by show za 2 _ _ (ly _ x)=_;rw[zx,WX,kj,v1,kj,g]))
  | @some d r s hr i=>
   have l:=Jx k j n d (by omega) r hr
   have g :=Jx k j n d (by omega) s i
   rw[Ru.t,zb (zj (ZI _ (by decide))),zb (zj (ZI _ (by decide))),zu]
   ·rfl
   ·exact zg (XH (by show za 2 _ _ (ly _ x)=_;rw[zx,Jf,kj,v1,kj,l]) (by show za 2 _ _ (ly _ x)=_;rw[zx,WX,kj,v1,kj,g]))
abbrev lk (r x a b:T):En:=[.vl r,.vl x,.vl a,.vl b,.un,.un,.un]
theorem lV (c:Bool)(h:(x == w)=c):zk ll (zc li (vE 0) (cE (.int 0))) (cE (.str w)) (lk (.tup (.str x :: r)) y a b)= .ok c:=ZI c h
theorem yF:∀(d:List Int) (m:Int) (y:Sl),∃e,Zv (zq 5) (zr 4 (zc zn (vE 4) (vE 5))) (d.map T.int) [.vl r,.vl x,.vl a,.vl b,.vl (.int m),y,z]= .nx [.vl r,.vl x,.vl a,.vl b,.vl (.int (m+d.sum)),e,z]
 | [],m,y=>⟨y,by rw[List.sum_nil,Int.add_zero];rfl⟩
 | i :: d,m,y=>by
  obtain⟨e,h⟩:=yF (r:=r) (x:=x) (a:=a) (b:=b) (z:=z) d (m+i) (.vl (.int i));refine⟨e, ?_⟩;have f:zq 5 (.int i) [.vl r,.vl x,.vl a,.vl b,.vl (.int m),y,z]= .ok [.vl r,.vl x,.vl a,.vl b,.vl (.int m),.vl (.int i),z]:=rfl;have b2:zr 4 (zc zn (vE 4) (vE 5)) [.vl r,.vl x,.vl a,.vl b,.vl (.int m),.vl (.int i),z]= .nx [.vl r,.vl x,.vl a,.vl b,.vl (.int (m+i)),.vl (.int i),z]:=rfl;rw[aF,jL f b2,h,cD,Int.add_assoc]
theorem AR (a:f ρ= .ok (.int i))(d:g ρ= .ok (.int j)):ZQ lA f g ρ= .ok (.bl (decide (i<=j))):=by rw[Za,a,kj,d,kj,Js,kj]
theorem Af (a:f ρ= .ok (.int i))(d:g ρ= .ok (.int j)):ZQ oA f g ρ= .ok (.bl (decide (j<=i))):=by
 rw[Za,a,kj,d,kj];rfl
theorem Ub:frz (lk r x a b)=lk r x a b:=rfl
theorem jF (l:e<=2)(f:W e x):∀(n d:Nat),d<=n->∀r:Ru,jk d r->mC n 0 [r.t,x]= .ok (.bl (kp r x))
 | 0,d,h,r,hr=>by
  have:d=0:=by omega
  subst this;cases hr
 | n+1,d,h,r,hr=>by
  show zh (sv (pE 8) (mC n 0) [.vl r.t,.vl x,.un,.un,.un,.un,.un])=_;have K:pE 8 [x]= .ok (.lst (lv x)):=yC 8 e (by omega) (by omega) x f
  have hl:=w9 l f;have hB:lB=16777216:=rfl;have hi:(j7 (lv x)).length<=9:=ay (uc _) hl;have Q:zr 2 (zv (Zg (za 1 (pE 8) (z9 (vE 1) (zd)))) (zq 0) (Z8 (lj (j4 "int") (vB 0))) (vE 0) 1 []) [.vl r.t,.vl x,.un,.un,.un,.un,.un]= .nx [.vl r.t,.vl x,.vl (.lst ((j7 (lv x)).map T.int)),.un,.un,.un,.un]:=by
   have k:zp (zq 0) (Z8 (lj (j4 "int") (vB 0))) (vE 0) 1 [] [.vl r.t,.vl x,.un,.un,.un,.un,.un] (lv x)= .ok ((lv x).filter By):=
    Zx _ (by omega) λt G=>⟨by cases CJ f t G <;> rfl,rfl⟩
   rw[zC (t:= .lst ((j7 (lv x)).map T.int))]
   ·rfl
   ·rw[zE,Zt,zF,v1,kj,K,kj];show ((zp _ _ _ _ _ _ (lv x)).bind _)=_;rw[k,kj,wH]
  have P:zr 3 (lP (Z8 (lj (j4 "tuple") (vB 1))) (vE 1) (zQ (z9 (vE 1) (zd)))) [.vl r.t,.vl x,.vl (.lst ((j7 (lv x)).map T.int)),.un,.un,.un,.un]= .nx (lk r.t x (.lst ((j7 (lv x)).map T.int)) (.tup (Zh x))):=by
   cases f <;> rfl
  rw[sv,zb Q,zb P];cases hr with
  | @sum d a b O X=>
   obtain⟨J,I⟩:=yF (r:=(Ru.sum a b).t) (x:=x) (a:= .lst ((j7 (lv x)).map T.int)) (b:= .tup (Zh x)) (z:= .un) (j7 (lv x)) 0 .un;rw[df]at I;have u:zr 4 (cE (.int 0)) (lk (Ru.sum a b).t x (.lst ((j7 (lv x)).map T.int)) (.tup (Zh x)))= .nx [.vl (Ru.sum a b).t,.vl x,.vl (.lst ((j7 (lv x)).map T.int)),.vl (.tup (Zh x)),.vl (.int 0),.un,.un]:=rfl;have e4:j5 (Zg (vE 2)) (zq 5) (zr 4 (zc zn (vE 4) (vE 5))) [.vl (Ru.sum a b).t,.vl x,.vl (.lst ((j7 (lv x)).map T.int)),.vl (.tup (Zh x)),.vl (.int 0),.un,.un]= .nx [.vl (Ru.sum a b).t,.vl x,.vl (.lst ((j7 (lv x)).map T.int)),.vl (.tup (Zh x)),.vl (.int (j7 (lv x)).sum),J,.un]:=by
    unfold j5;rw[Zt,v2,kj];exact I
   rw[zu (t:= .bl (kp (.sum a b) x))]
   ·rfl
   ·rw[jV (by rw[Ru.t];exact lV true (by decide)),zb u,zb e4,zg (t:= .bl (kp (.sum a b) x))]
    show ZV _ _ [.vl (Ru.sum a b).t,.vl x,.vl (.lst ((j7 (lv x)).map T.int)),.vl (.tup (Zh x)),.vl (.int (j7 (lv x)).sum),W3 J,.un]=_;rw[Ru.t];exact ud (AR Jf rfl) (AR rfl WX)
  | @size d a b O X=>
   rw[Ru.t,zb (zj (lV false (by decide))),zu (t:= .bl (kp (.size a b) x))]
   ·rfl
   ·rw[jV (lV true (by decide)),zg (t:= .bl (kp (.size a b) x))]
    rw[Ub];exact ud (Af (i:=((Zh x).length:Int)) rfl Jf) (AR (i:=((Zh x).length:Int)) rfl WX)
  | @word d w hw=>
   rw[Ru.t,zb (zj (lV false (by decide))),zb (zj (lV false (by decide))),zu (t:= .bl (kp (.word w) x))]
   ·rfl
   ·rw[jV (lV true (by decide)),zg (t:= .bl (kp (.word w) x))]
    rw[Ub];have k:zp (zq 0) (zk ll (vB 0) (zc li (vE 1) (cE (.int 1)))) (vE 0) 1 [0] (lk (.tup [.str "word",.str w]) x (.lst ((j7 (lv x)).map T.int)) (.tup (Zh x))) (lv x)= .ok ((lv x).filter (V7 w)):=
     Zx _ (by omega) λt G=>⟨by
      show zk ll (vB 0) (zc li (vE 1) (cE (.int 1))) [.vl t,.vl (.tup [.str "word",.str w])]=_;rw[zA,w0,kj,ze,v1,kj,zK,kj,nn,kj];unfold ll;rw[B9],rfl⟩
    rw[Za,zE,Zt,zF,v1,kj,K,kj];show (((zp _ _ _ _ _ _ (lv x)).bind _).bind _)=_;rw[k,kj,kj,show Z7 zd (lk (.tup [.str "word",.str w]) x (.lst ((j7 (lv x)).map T.int)) (.tup (Zh x)))= .ok (.lst []) from rfl,kj];have M:lJ (.lst ((lv x).filter (V7 w))) (.lst [])= .ok (!((lv x).filter (V7 w)).isEmpty):=by cases (lv x).filter (V7 w) <;> rfl
    rw[M,kj,gr,Bool.not_not];rfl
  | rising=>
   rw[Ru.t,zb (zj (lV false (by decide))),zb (zj (lV false (by decide))),zb (zj (lV false (by decide))),zu (t:= .bl (kp .rising x))]
   ·rfl
   ·rw[jV (lV true (by decide)),zg (t:= .bl (kp .rising x))]
    rw[Ub,Za,Z5,w2,kj,kj,Q3 _ (by omega),kj,vi,kj]
    rfl
  | unlike=>
   rw[Ru.t,zb (zj (lV false (by decide))),zb (zj (lV false (by decide))),zb (zj (lV false (by decide))),zb (zj (lV false (by decide))),zu (t:= .bl (kp .unlike x))]
   ·rfl
   ·rw[jV (lV true (by decide)),zg (t:= .bl (kp .unlike x))]
    rw[Ub];have S:=U8 f;obtain⟨q,Z,N⟩:=xD (yE f l) (by omega) (a:= .vl (.tup [.str "unlike"])) (b:= .vl x) (c:= .vl (.lst ((j7 (lv x)).map T.int))) (ρ:=[.un,.un,.un])
    have U:zO (lj zM (vB 3)) (lk (.tup [.str "unlike"]) x (.lst ((j7 (lv x)).map T.int)) (.tup (Zh x)))= .ok (rng 0 (Zh x).length):=by
     rw[UN (j:=((Zh x).length:Int)) rfl ⟨by omega,by omega⟩,a_]
    rw[Za,zE,U,kj,Z,kj,kj,show Z7 zd (lk (.tup [.str "unlike"]) x (.lst ((j7 (lv x)).map T.int)) (.tup (Zh x)))= .ok (.lst []) from rfl,kj,yk,kj,N];rfl
  | @no d r hr=>
   have p:=jF l f n d (by omega) r hr
   rw[Ru.t,zb (zj (lV false (by decide))),zb (zj (lV false (by decide))),zb (zj (lV false (by decide))),zb (zj (lV false (by decide))),zb (zj (lV false (by decide))),zu (t:= .bl (kp (.no r) x))]
   ·rfl
   ·rw[jV (lV true (by decide)),zg (t:= .bl (kp (.no r) x))]
    rw[Ub];exact vp (by rw[zx,Jf,kj,v1,kj,p])
  | @all d r s hr D=>
   have p:=jF l f n d (by omega) r hr
   have g :=jF l f n d (by omega) s D
   have u:zr 6 (zv (Zg (lK (vE 0) (zJ (cE (.int 1))) (lM))) (zq 0) (Z9) (za 2 (mC n 0) (z9 (vE 0) (z9 (vE 1) (zd)))) 1 [1]) (lk (.tup [.str "all",r.t,s.t]) x (.lst ((j7 (lv x)).map T.int)) (.tup (Zh x)))= .nx [.vl (.tup [.str "all",r.t,s.t]),.vl x,.vl (.lst ((j7 (lv x)).map T.int)),.vl (.tup (Zh x)),.un,.un,.vl (.lst [.bl (kp r x),.bl (kp s x)])]:=by
    rw[zC (t:= .lst [.bl (kp r x),.bl (kp s x)])]
    ·rfl
    ·rw[zE];show ((zp (zq 0) Z9 (za 2 (mC n 0) (z9 (vE 0) (z9 (vE 1) (zd)))) 1 [1] (lk (.tup [.str "all",r.t,s.t]) x (.lst ((j7 (lv x)).map T.int)) (.tup (Zh x))) [r.t,s.t]).bind _)=_;have k:zp (zq 0) Z9 (za 2 (mC n 0) (z9 (vE 0) (z9 (vE 1) (zd)))) 1 [1] (lk (.tup [.str "all",r.t,s.t]) x (.lst ((j7 (lv x)).map T.int)) (.tup (Zh x))) [r.t,s.t]= .ok [.bl (kp r x),.bl (kp s x)]:=by
      unfold zp;rw[if_pos (by show 2<=lB;omega)]
      have y:za 2 (mC n 0) (z9 (vE 0) (z9 (vE 1) (zd))) [.vl r.t,.vl x]= .ok (.bl (kp r x)):=by rw[zx,v0,kj,v1,kj,p]
      have B:za 2 (mC n 0) (z9 (vE 0) (z9 (vE 1) (zd))) [.vl s.t,.vl x]= .ok (.bl (kp s x)):=by rw[zx,v0,kj,v1,kj,g]
      show quiet ((za 2 (mC n 0) (z9 (vE 0) (z9 (vE 1) (zd))) [.vl r.t,.vl x]).bind λv=>((za 2 (mC n 0) (z9 (vE 0) (z9 (vE 1) (zd))) [.vl s.t,.vl x]).bind λv=>(R.ok []).bind λo=> .ok (v :: o)).bind λo=> .ok (v :: o))=_;rw[y,B];rfl
     rw[k,kj]
   rw[Ru.t,zb (zj (lV false (by decide))),zb (zj (lV false (by decide))),zb (zj (lV false (by decide))),zb (zj (lV false (by decide))),zb (zj (lV false (by decide))),zb (zj (lV false (by decide))),zb u,zg (t:= .bl (kp (.all r s) x))]
   ·rfl
   ·show lP _ _ _ [.vl (.tup [.str "all",r.t,s.t]),.vl x,.vl (.lst ((j7 (lv x)).map T.int)),.vl (.tup (Zh x)),.un,.un,.vl (.lst [.bl (kp r x),.bl (kp s x)])]=_;unfold lP;rw[ZI true (by decide),kj,if_pos rfl]
    exact ud rfl rfl
  | @some d r s hr D=>
   have p:=jF l f n d (by omega) r hr
   have g :=jF l f n d (by omega) s D
   have u:zr 6 (zv (Zg (lK (vE 0) (zJ (cE (.int 1))) (lM))) (zq 0) (Z9) (za 2 (mC n 0) (z9 (vE 0) (z9 (vE 1) (zd)))) 1 [1]) (lk (.tup [.str "some",r.t,s.t]) x (.lst ((j7 (lv x)).map T.int)) (.tup (Zh x)))= .nx [.vl (.tup [.str "some",r.t,s.t]),.vl x,.vl (.lst ((j7 (lv x)).map T.int)),.vl (.tup (Zh x)),.un,.un,.vl (.lst [.bl (kp r x),.bl (kp s x)])]:=by
    rw[zC (t:= .lst [.bl (kp r x),.bl (kp s x)])]
    ·rfl
    ·rw[zE];show ((zp (zq 0) Z9 (za 2 (mC n 0) (z9 (vE 0) (z9 (vE 1) (zd)))) 1 [1] (lk (.tup [.str "some",r.t,s.t]) x (.lst ((j7 (lv x)).map T.int)) (.tup (Zh x))) [r.t,s.t]).bind _)=_;have k:zp (zq 0) Z9 (za 2 (mC n 0) (z9 (vE 0) (z9 (vE 1) (zd)))) 1 [1] (lk (.tup [.str "some",r.t,s.t]) x (.lst ((j7 (lv x)).map T.int)) (.tup (Zh x))) [r.t,s.t]= .ok [.bl (kp r x),.bl (kp s x)]:=by
      unfold zp;rw[if_pos (by show 2<=lB;omega)]
      have y:za 2 (mC n 0) (z9 (vE 0) (z9 (vE 1) (zd))) [.vl r.t,.vl x]= .ok (.bl (kp r x)):=by rw[zx,v0,kj,v1,kj,p]
      have B:za 2 (mC n 0) (z9 (vE 0) (z9 (vE 1) (zd))) [.vl s.t,.vl x]= .ok (.bl (kp s x)):=by rw[zx,v0,kj,v1,kj,g]
      show quiet ((za 2 (mC n 0) (z9 (vE 0) (z9 (vE 1) (zd))) [.vl r.t,.vl x]).bind λv=>((za 2 (mC n 0) (z9 (vE 0) (z9 (vE 1) (zd))) [.vl s.t,.vl x]).bind λv=>(R.ok []).bind λo=> .ok (v :: o)).bind λo=> .ok (v :: o))=_;rw[y,B];rfl
     rw[k,kj]
   rw[Ru.t,zb (zj (lV false (by decide))),zb (zj (lV false (by decide))),zb (zj (lV false (by decide))),zb (zj (lV false (by decide))),zb (zj (lV false (by decide))),zb (zj (lV false (by decide))),zb u,zg (t:= .bl (kp (.some r s) x))]
   ·rfl
   ·show lP _ _ _ [.vl (.tup [.str "some",r.t,s.t]),.vl x,.vl (.lst ((j7 (lv x)).map T.int)),.vl (.tup (Zh x)),.un,.un,.vl (.lst [.bl (kp r x),.bl (kp s x)])]=_;unfold lP;rw[ZI false (by decide),kj,if_neg aA]
    exact XH rfl rfl
abbrev lr (ns:List Int)(k:Int)(d:Nat)(p:Int)(a b:Sl):En:=[.vl (lx ns),.vl (.int k),.vl (.int (d:Int)),.vl (.int p),a,b]
theorem vq (h:lT [lx ns,.int (k+j),.int m]= .ok (.int q)):za 3 lT (z9 (vE 0) (z9 (zc zn (vE 1) (cE (.int j))) (z9 (cE (.int m)) (zd)))) (lr ns k d p a b)= .ok (.int q):=by
 rw[Z4,v0,kj,ze,v1,kj,zK,kj,Z6,kj,zK,kj,h]
theorem ue (ns:List Int):∀(n d:Nat),d<=n->1<=d->∀k:Int,0<=k->∃r:Ru,nG n 0 [lx ns,.int k,.int (d:Int)]= .ok r.t/\jk d r
 | 0,d,h,h1,k,hk=>by omega
 | n+1,d,h,h1,k,hk=>by
  obtain⟨p,hp,p0,p9⟩:=zI ns k 9 hk (by omega)
  have e1:zr 3 (za 3 lT (z9 (vE 0) (z9 (vE 1) (z9 (cE (.int 9)) (zd))))) [.vl (lx ns),.vl (.int k),.vl (.int (d:Int)),.un,.un,.un]= .nx (lr ns k d p .un .un):=by
   rw[zC (t:= .int p)]
   ·rfl
   ·rw[Z4,v0,kj,v1,kj,zK,kj,hp]
  have e:nG (n+1) 0 [lx ns,.int k,.int (d:Int)]=zh (tm lT (nG n 0) [.vl (lx ns),.vl (.int k),.vl (.int (d:Int)),.un,.un,.un]):=rfl;rw[e,tm,zb e1];have i:JZ (zk ml (vB 2) (cE (.int 1))) (zk ml (vB 3) (cE (.int 5))) (lr ns k d p .un .un)= .ok (decide (1 < d) && decide (5 < p)):=by
   rw[WP,zA,w2,kj,zK,kj,xB,kj,show decide ((1:Int) < (d:Int))=decide (1 < d) by rw[fV,decide_eq_true_eq,decide_eq_true_eq];omega]
   cases decide (1 < d) with
   | true=>rw[if_pos rfl,zA,w3,kj,zK,kj,xB,cV]
   | false=>rfl
  by_cases hb:1 < d/\5 < p
  ·rw[decide_eq_true hb.1,decide_eq_true hb.2]at i;obtain⟨d,rfl⟩:∃J,d=J +1:=⟨d - 1,by omega⟩
   obtain⟨a,K,G⟩:=ue ns n d (by omega) (by omega) (2*k+11) (by omega)
   obtain⟨B,Q,o2⟩:=ue ns n d (by omega) (by omega) (2*k+24) (by omega)
   have U:zY (.int 2) (.int k)= .ok (.int (2*k)):=Qo _ _ (.inl ⟨by decide,by decide⟩)
   have x:zr 4 (za 3 (nG n 0) (z9 (vE 0) (z9 (zc zn (zc zY (cE (.int 2)) (vE 1)) (cE (.int 11))) (z9 (zc jg (vE 2) (cE (.int 1))) (zd))))) (lr ns k (d+1) p .un .un)= .nx (lr ns k (d+1) p (.vl a.t) .un):=by
    rw[zC (t:=a.t)]
    ·rfl
    ·rw[Z4,v0,kj,ze,ze,zK,kj,v1,kj,U,kj,zK,kj,Z6,kj,ze,v2,kj,zK,kj,Zf,kj,show ((d+1:Nat):Int) - 1=(d:Int) by omega,K]
   have S:za 3 (nG n 0) (z9 (vE 0) (z9 (zc zn (zc zY (cE (.int 2)) (vE 1)) (cE (.int 24))) (z9 (zc jg (vE 2) (cE (.int 1))) (zd)))) (lr ns k (d+1) p (.vl a.t) .un)= .ok B.t:=by
    rw[Z4,v0,kj,ze,ze,zK,kj,v1,kj,U,kj,zK,kj,Z6,kj,ze,v2,kj,zK,kj,Zf,kj,show ((d+1:Nat):Int) - 1=(d:Int) by omega,Q]
   by_cases h6:p=6
   ·subst h6;refine⟨.no a, ?_,.no G⟩;rw[zu (t:=(Ru.no a).t)]
    ·rfl
    ·rw[jV i,zb x,zu (t:=(Ru.no a).t)];rw[jV rfl,Ru.t];exact zg (Ym rfl rfl)
   ·have v :zk ll (vB 3) (cE (.int 6)) (lr ns k (d+1) p (.vl a.t) .un)= .ok false:=by
     rw[zA,w3,kj,zK,kj,mD,beq_eq_false_iff_ne.mpr h6]
    by_cases h7:p=7
    ·subst h7;refine⟨.all a B, ?_,.all G o2⟩;rw[zu (t:=(Ru.all a B).t)]
     ·rfl
     ·rw[jV i,zb x,zb (zj v),Ru.t];exact zg (pS rfl rfl S)
    ·have h8:p=8:=by omega
     subst h8;refine⟨.some a B, ?_,.some G o2⟩;rw[zu (t:=(Ru.some a B).t)]
     ·rfl
     ·rw[jV i,zb x,zb (zj v),Ru.t];exact zg (pS rfl rfl S)
  ·have i:JZ (zk ml (vB 2) (cE (.int 1))) (zk ml (vB 3) (cE (.int 5))) (lr ns k d p .un .un)= .ok false:=by
    rw[i];congr 1
    rw[Bool.and_eq_false_iff,decide_eq_false_iff_not,decide_eq_false_iff_not];omega
   obtain⟨d,rfl⟩:∃J,d=J +1:=⟨d - 1,by omega⟩
   obtain⟨q,hq,q0,q9⟩:=zI ns (k+1) 9 (by omega) (by omega)
   have x:zr 5 (zc jg (za 3 lT (z9 (vE 0) (z9 (zc zn (vE 1) (cE (.int 1))) (z9 (cE (.int 9)) (zd))))) (cE (.int 4))) (lr ns k (d+1) p .un .un)= .nx (lr ns k (d+1) p .un (.vl (.int (q - 4)))):=by
    rw[zC (t:= .int (q - 4))]
    ·rfl
    ·rw[ze,vq hq,kj,zK,kj,Zf]
   rw[zb (zj i),zb x];have D:∃m:Nat,m < 6/\zc jH (vE 3) (cE (.int 6)) (lr ns k (d+1) p .un (.vl (.int (q - 4))))= .ok (.int (m:Int)):=by
    obtain⟨w,rfl⟩:=d0 p0;exact⟨w % 6,Nat.mod_lt _ (by omega),by rw[ze,v3,kj,zK,kj];exact Xz (c:=6) (by omega)⟩
   obtain⟨m,m6,D⟩:=D;have t2:zk mG (zc jH (vE 3) (cE (.int 6))) (cE (.int 2)) (lr ns k (d+1) p .un (.vl (.int (q - 4))))= .ok (decide (m < 2)):=by
    rw[zA,D,kj,zK,kj,pr];congr 1;rw[fV,decide_eq_true_eq,decide_eq_true_eq];omega
   have tk:∀j:Nat,zk ll (zc jH (vE 3) (cE (.int 6))) (cE (.int (j:Int))) (lr ns k (d+1) p .un (.vl (.int (q - 4))))= .ok (m == j):=λj=>by
    rw[zA,D,kj,zK,kj,mD,yr]
   have o:zk ll (zc jH (vE 3) (cE (.int 6))) (cE (.int 2)) (lr ns k (d+1) p .un (.vl (.int (q - 4))))= .ok (m == 2):=tk 2;have l:zk ll (zc jH (vE 3) (cE (.int 6))) (cE (.int 3)) (lr ns k (d+1) p .un (.vl (.int (q - 4))))= .ok (m == 3):=tk 3;have y:zk ll (zc jH (vE 3) (cE (.int 6))) (cE (.int 4)) (lr ns k (d+1) p .un (.vl (.int (q - 4))))= .ok (m == 4):=tk 4
   by_cases X:m < 2
   ·obtain⟨u,I,u0,u5⟩:=zI ns (k+2) 5 (by omega) (by omega)
    refine⟨.sum (q - 4) (q - 4+u - 1), ?_,.sum ⟨by omega,by omega⟩ ⟨by omega,by omega⟩⟩
    rw[zu (t:=(Ru.sum (q - 4) (q - 4+u - 1)).t)]
    ·rfl
    ·rw[jV (by rw[t2,decide_eq_true X]),Ru.t]
     refine zg (pS rfl rfl ?_);show zc jg _ _ (lr ns k (d+1) p .un (.vl (.int (q - 4))))=_;rw[ze,ze,vq I,show vE 5 (lr ns k (d+1) p .un (.vl (.int (q - 4))))= .ok (.int (q - 4)) from rfl,kj,kj,Z6,kj,zK,kj,Zf]
   rw[zb (zj (by rw[t2,decide_eq_false X]))]
   by_cases h3:m=2
   ·subst h3;obtain⟨f,g,O,N⟩:=zI ns (k+1) 3 (by omega) (by omega)
    obtain⟨u,I,u0,u4⟩:=zI ns (k+2) 4 (by omega) (by omega)
    refine⟨.size f u, ?_,.size ⟨by omega,by omega⟩ ⟨by omega,by omega⟩⟩
    rw[zu (t:=(Ru.size f u).t)]
    ·rfl
    ·rw[jV o,Ru.t];exact zg (pS rfl (vq g) (vq I))
   rw[zb (zj (by rw[o,beq_eq_false_iff_ne.mpr h3]))]
   by_cases Z:m=3
   ·subst Z;obtain⟨f,g,O,N⟩:=zI ns (k+1) 4 (by omega) (by omega)
    have P:∃w:Str,Z0 (.str w)=true/\li (.lst [.str "a",.str "b",.str "ab",.str "zz"]) (.int f)= .ok (.str w):=by
     have M:f =0\/f =1\/f =2\/f =3:=by omega
     rcases M with rfl | rfl | rfl | rfl
     ·exact⟨"a",by decide,rfl⟩
     ·exact⟨"b",by decide,rfl⟩
     ·exact⟨"ab",by decide,rfl⟩
     ·exact⟨"zz",by decide,rfl⟩
    obtain⟨w,P,hx⟩:=P;refine⟨.word w, ?_,.word P⟩;rw[zu (t:=(Ru.word w).t)]
    ·rfl
    ·rw[jV l,Ru.t];refine zg (Ym rfl ?_);show zc li _ _ (lr ns k (d+1) p .un (.vl (.int (q - 4))))=_;rw[ze,vq g];exact hx
   rw[zb (zj (by rw[l,beq_eq_false_iff_ne.mpr Z]))]
   by_cases h5:m=4
   ·subst h5;refine⟨.rising, ?_,.rising⟩;rw[zg (t:=Ru.rising.t)]
    ·rfl
    ·show lP _ _ _ (lr ns k (d+1) p .un (.vl (.int (q - 4))))=_;unfold lP;rw[y,kj];rfl
   ·refine⟨.unlike, ?_,.unlike⟩;rw[zg (t:=Ru.unlike.t)]
    ·rfl
    ·show lP _ _ _ (lr ns k (d+1) p .un (.vl (.int (q - 4))))=_;unfold lP;rw[y,kj,beq_eq_false_iff_ne.mpr h5];rfl
theorem CG {f:T->T->Option Bool}:∀xs ys:List T,(∀x∈xs,∀y∈ys,∃b,f x y=some b/\(b=true↔x=y))->∃b,mh f xs ys=some b/\(b=true↔xs=ys)
 | [],[],_=>⟨true,rfl,by simp⟩
 | [],y :: ys,_=>⟨false,rfl,by simp⟩
 | x :: xs,[],_=>⟨false,rfl,by simp⟩
 | x :: xs,y :: ys,H=>by
  obtain⟨b,e,h⟩:=H x ag y ag;obtain⟨c,a,h'⟩:=CG xs ys λu d v g=>H u (ac _ d) v (ac _ g);have i:mh f (x :: xs) (y :: ys)=match f x y with
   | none=>none
   | some b=>match mh f xs ys with
    | none=>none
    | some c=>some (b && c):=rfl
  refine⟨b && c,by rw[i,e,a], ?_⟩
  rw[ae,h,h',l9]
theorem CW:∀(n d e:Nat) (x y:T),d<=n->W d x->W e y->∃b,lw n x y=some b/\(b=true↔x=y):=by
 intro n d e x y hn o
 induction o generalizing n e y with
 | int d i=>
  intro hy;cases hy with
  | int e j=>exact⟨i == j,by cases n <;> rfl,by rw[beq_iff_eq,T.int.injEq]⟩
  | str e j=>exact⟨false,by cases n <;> rfl,by simp⟩
  | tup h r=>exact⟨false,by cases n <;> rfl,by simp⟩
 | str d i=>
  intro hy;cases hy with
  | int e j=>exact⟨false,by cases n <;> rfl,by simp⟩
  | str e j=>exact⟨i == j,by cases n <;> rfl,by rw[beq_iff_eq,T.str.injEq]⟩
  | tup h r=>exact⟨false,by cases n <;> rfl,by simp⟩
 | @tup d xs h r q=>
  intro hy;obtain⟨n,rfl⟩:∃m,n=m+1:=⟨n - 1,by omega⟩
  cases hy with
  | int e j=>exact⟨false,rfl,by simp⟩
  | str e j=>exact⟨false,rfl,by simp⟩
  | @tup e ys h' l =>
   obtain⟨b,p,g⟩:=CG (f:=lw n) xs ys λu a v k=>q u a n e v (by omega) (l v k)
   exact⟨b,p,by rw[g,T.tup.injEq]⟩
theorem XI (a:W 2 x):∀ys:List T,(∀y∈ys,W 2 y)->∃b,Ji (λy=>lw 30 y x) ys=some b/\(b=true↔x∈ys)
 | [],_=>⟨false,rfl,by simp⟩
 | y :: ys,H=>by
  obtain⟨b,e,h⟩:=CW 30 2 2 y x (by omega) (H y ag) a
  obtain⟨c,f,h'⟩:=XI a ys λv g=>H v (ac _ g);have i:Ji (λy=>lw 30 y x) (y :: ys)=match lw 30 y x with
   | none=>none
   | some b=>match Ji (λy=>lw 30 y x) ys with
    | none=>none
    | some d=>some (b || d):=rfl
  refine⟨b || c,by rw[i,e,f], ?_⟩
  rw[k_,h,h',aq];exact⟨λq=>q.elim (λz=> .inl z.symm) .inr,λq=>q.elim (λz=> .inl z.symm) .inr⟩
theorem C7 {k:Kd}(a:k.Ok 3){x:T}(d:x∈k.all):W 2 x:=xC 2 k x a ((ZT k x).mp d)
theorem jG (a:W 2 x)(hr:jk 3 r):nk 8 [r.t,x]= .ok (.bl (kp r x)):=Jx (by omega) a 8 3 (by omega) r hr
noncomputable def yG (lo hi:Int):Int:=if hi < (if lo > 0 then lo else 0) then hi else (if lo > 0 then lo else 0)
noncomputable def vt (i:Int):Int:=if i < 0 then -i else i
noncomputable def lS:List (T->Int)->List T->Int
 | f :: fs,x :: xs=>f x+lS fs xs
 | _,_=>0
noncomputable def nP (fs:List (T->List T))(xs:List T):List (List T):=(aU xs.length).flatMap λi=>match fs[i]?,xs[i]? with
 | some f,some x=>(f x).map λy=>xs.set i y
 | _,_=>[]
noncomputable def o0 (xs:List T):List (List T):=(aU xs.length).map λi=>xs.take i++xs.drop (i+1)
mutual
noncomputable def Kd.wt:Kd->T->Int
 | .whole lo hi=>λt=>match t with | .int i=>vt (i - yG lo hi) | _=>0
 | .pick d=>λt=>match t with | .str x=>((d.map (·.1)).idxOf x:Nat) | _=>0
 | .row a=>λt=>match t with | .tup xs=>lS (Kd.wtF a) xs | _=>0
 | .many k lo hi=>λt=>match t with | .tup xs=>lS (ai xs.length k.wt) xs+(xs.length:Int) - (lo:Int) | _=>0
noncomputable def Kd.wtF:List Kd->List (T->Int)
 | []=>[]
 | k :: a=>k.wt :: Kd.wtF a
end
mutual
noncomputable def Kd.less:Kd->T->List T
 | .whole lo hi=>λt=>match t with | .int i=>if i=yG lo hi then [] else if i > yG lo hi then [.int (i - 1)] else [.int (i+1)] | _=>[]
 | .pick a=>λt=>match t with | .str x=>(match (a.map (·.1)).idxOf x with | 0=>[] | j+1=>match a[j]? with | some c=>[.str c.1] | none=>[]) | _=>[]
 | .row d=>λt=>match t with | .tup xs=>(nP (Kd.lessF d) xs).map T.tup | _=>[]
 | .many k lo hi=>λt=>match t with | .tup xs=>(if xs.length=lo then [] else (o0 xs).map T.tup)++(nP (ai xs.length k.less) xs).map T.tup | _=>[]
noncomputable def Kd.lessF:List Kd->List (T->List T)
 | []=>[]
 | k :: a=>k.less :: Kd.lessF a
end
theorem Kd.wtF_map:∀a:List Kd,Kd.wtF a=a.map Kd.wt
 | []=>by simp only[Kd.wtF,ci]
 | k :: a=>by simp only[Kd.wtF,aF,Kd.wtF_map a]
theorem Kd.lessF_map:∀a:List Kd,Kd.lessF a=a.map Kd.less
 | []=>by simp only[Kd.lessF,ci]
 | k :: a=>by simp only[Kd.lessF,aF,Kd.lessF_map a]
structure mZ (k:Kd):Prop where
 pos:∀x,k.has x=true->0<=k.wt x
 dn:∀x y,k.has x=true->y∈k.less x->k.has y=true/\k.wt y < k.wt x
 one:∀x,k.has x=true->k.wt x ≠ 0->∃y∈k.less x,k.wt y=k.wt x - 1
 uniq:∀x y,k.has x=true->k.has y=true->k.wt x=0->k.wt y=0->x=y
theorem vv (h:lo<=hi):lo<=yG lo hi/\yG lo hi<=hi:=by
 unfold yG;split <;> split at* <;> omega
theorem j8:mW lo hi x=true↔∃i,x= .int i/\lo<=i/\i<=hi:=by
 constructor
 ·intro h;obtain⟨i,rfl⟩:=WS h;simp[mW]at h;exact⟨i,rfl,h⟩
 ·rintro⟨i,rfl,h⟩
  simp[mW];exact h
theorem vw (h:lo<=hi):mZ (.whole lo hi):=by
 obtain⟨q,p⟩:=vv h;refine⟨λx a=> ?_,λx y a hy=> ?_,λx a l=> ?_,λx y a hy f k=> ?_⟩
 ·simp only[Kd.wt,vt];split <;> omega
 ·obtain⟨i,rfl,d⟩:=j8.mp a;simp only[Kd.less]at hy;split at hy
  ·cases hy
  ·split at hy
   ·simp at hy;subst hy;simp only[Kd.has,Kd.wt,vt];refine⟨j8.mpr ⟨_,rfl,by omega,by omega⟩, ?_⟩
    split <;> split <;> omega
   ·simp at hy;subst hy;simp only[Kd.has,Kd.wt,vt];refine⟨j8.mpr ⟨_,rfl,by omega,by omega⟩, ?_⟩
    split <;> split <;> omega
 ·obtain⟨i,rfl,d⟩:=j8.mp a;simp only[Kd.wt,vt]at l ⊢;simp only[Kd.less]
  by_cases e:i=yG lo hi
  ·exfalso;apply l;split <;> omega
  ·rw[if_neg e]
   by_cases g:i > yG lo hi
   ·rw[if_pos g];refine⟨_,aH.mpr rfl, ?_⟩;simp only[Kd.wt,vt];split <;> split <;> omega
   ·rw[if_neg g];refine⟨_,aH.mpr rfl, ?_⟩;simp only[Kd.wt,vt];split <;> split <;> omega
 ·obtain⟨i,rfl,d⟩:=j8.mp a;obtain⟨j,rfl,o⟩:=j8.mp hy;simp only[Kd.wt,vt]at f k;have:i=j:=by split at f <;> split at k <;> omega
  rw[this]
theorem ZA {e:List (Str×Int)}:(Kd.pick e).has x=true↔∃w,x= .str w/\w∈e.map (·.1):=by
 have d:∀w,(e.any λc=>c.1 == w)=true↔w∈e.map _:=λw=>by
  rw[eH,aE];exact⟨λ⟨c,a,b⟩=>⟨c,a,beq_iff_eq.mp b⟩,λ⟨c,a,b⟩=>⟨c,a,beq_iff_eq.mpr b⟩⟩
 constructor
 ·intro h;cases x with
  | str w=>exact⟨w,rfl,(d w).mp h⟩
  | _=>cases h
 ·rintro⟨w,rfl,h⟩
  exact(d w).mpr h
theorem yH {a:List Str}{w:Str}(h:w∈a):a.idxOf w < a.length:=f9.mpr h
theorem vx {a:List Str}{w:Str}(h:w∈a):a[a.idxOf w]? =some w:=by
 rw[ak (yH h),ij _]
theorem gs {e:List Str}(h:Dst e){i j:Nat}{w:Str}(hi:e[i]? =some w)(f:e[j]? =some w):i=j:=by
 have d:∀{i j:Nat},e[i]? =some w->e[j]? =some w->¬ i < j:=λ{i j} hi f g=>by
  refine h j w f (bc (i:=i) ?_);rw[dE g];exact hi
 have a:=d hi f;have b:=d f hi;omega
theorem vy {a:List Str}(h:Dst a){i:Nat}{w:Str}(hi:a[i]? =some w):a.idxOf w=i:=gs h (vx (bc hi)) hi
theorem xF {d:List (Str×Int)}(h:Dst (d.map (·.1))):mZ (.pick d):=by
 refine⟨λx f=> ?_,λx y f hy=> ?_,λx f g=> ?_,λx y f hy p r=> ?_⟩
 ·obtain⟨w,rfl,g⟩:=ZA.mp f;simp only[Kd.wt];omega
 ·obtain⟨w,rfl,g⟩:=ZA.mp f;simp only[Kd.less]at hy;split at hy
  ·cases hy
  ·rename_i j e;split at hy
   ·rename_i c B;simp at hy;subst hy;have i:(d.map (·.1))[j]? =some c.1:=by rw[av,B];rfl
    refine⟨ZA.mpr ⟨_,rfl,bc i⟩, ?_⟩;simp only[Kd.wt];rw[vy h i];omega
   ·cases hy
 ·obtain⟨w,rfl,k⟩:=ZA.mp f;simp only[Kd.wt]at g ⊢;simp only[Kd.less];have o:=yH k;cases e:(d.map _).idxOf w with
  | zero=>rw[e]at g;exact absurd rfl g
  | succ j=>
   rw[e]at o;have u:=iE (by simpa using o)
   obtain⟨c,i⟩:=jM u;dsimp only;rw[i];refine⟨_,aH.mpr rfl, ?_⟩;have l :(d.map (·.1))[j]? =some c.1:=by rw[av,i];rfl
   simp only[Kd.wt];rw[vy h l];omega
 ·obtain⟨w,rfl,g⟩:=ZA.mp f;obtain⟨v,rfl,q⟩:=ZA.mp hy;simp only[Kd.wt]at p r;have a:=vx g;have b:=vx q;rw[show (d.map _).idxOf w=0 by omega]at a
  rw[show (d.map _).idxOf v=0 by omega,a]at b
  rw[aI b]
def Hs (a:List Kd)(xs:List T):Prop:=xs.length=a.length/\∀(i:Nat) (k:Kd) (x:T),a[i]? =some k->xs[i]? =some x->k.has x=true
theorem UP:∀(fs:List (T->Int)) (xs:List T) (i:Nat) (f:T->Int) (x y:T),fs[i]? =some f->xs[i]? =some x->lS fs (xs.set i y)=lS fs xs - f x+f y
 | [],_,i,_,_,_,h,_=>by simp at h
 | _ :: _,[],i,_,_,_,_,h=>by simp at h
 | f :: fs,x :: xs,0,g,u,y,h,h' =>by
  simp at h h';subst h h';simp only[List.set_cons_zero,lS];omega
 | f :: fs,x :: xs,i+1,g,u,y,h,h' =>by
  have a:=UP fs xs i g u y (by simpa using h) (by simpa using h')
  simp only[List.set_cons_succ,lS,a];omega
theorem uf {j:List Kd}:Hs (k :: j) (x :: xs)↔k.has x=true/\Hs j xs:=by
 constructor
 ·rintro⟨g,d⟩
  exact⟨d 0 k x rfl rfl,by simpa using g,λi f e a b=>d (i+1) f e (by simpa using a) (by simpa using b)⟩
 ·rintro⟨l,g,d⟩
  refine⟨by simp[g],λi f e a b=> ?_⟩
  cases i with
  | zero=>simp at a b;subst a b;exact l
  | succ i=>exact d i f e (by simpa using a) (by simpa using b)
theorem jx:∀(d:List Kd) (xs:List T),(∀k∈d,mZ k)->Hs d xs->0<=lS (d.map Kd.wt) xs
 | [],[],_,_=>by simp[lS]
 | [],_ :: _,_,h=>by simp[Hs]at h
 | _ :: _,[],_,h=>by simp[lS]
 | k :: d,x :: xs,e,h=>by
  obtain⟨f,i⟩:=uf.mp h;have a:=(e k ag).pos x f;have b:=jx d xs (λq g=>e q (ac _ g)) i;simp only[aF,lS];omega
theorem ug:∀(d:List Kd) (xs ys:List T),(∀k∈d,mZ k)->Hs d xs->Hs d ys->lS (d.map Kd.wt) xs=0->lS (d.map Kd.wt) ys=0->xs=ys
 | [],xs,ys,_,h,h',_,_=>by
  have a:=ck h.1;have b:=ck h'.1;rw[a,b]
 | k :: d,[],_,_,h,_,_,_=>by simp[Hs]at h
 | k :: d,_ :: _,[],_,_,h,_,_=>by simp[Hs]at h
 | k :: d,x :: xs,y :: ys,g,h,h',e,p =>by
  obtain⟨j,o⟩:=uf.mp h;obtain⟨i,l⟩:=uf.mp h';have f :=λq r=>g q (ac _ r);have L:=g k ag;have a:=L.pos x j;have v :=L.pos y i;have b:=jx d xs f o;have u :=jx d ys f l;simp only[aF,lS]at e p;rw[L.uniq x y j i (by omega) (by omega),ug d xs ys f o l (by omega) (by omega)]
theorem vz:∀(d:List Kd) (xs:List T),(∀k∈d,mZ k)->Hs d xs->lS (d.map Kd.wt) xs ≠ 0->∃(i:Nat) (k:Kd) (x:T),d[i]? =some k/\xs[i]? =some x/\k.wt x ≠ 0
 | [],xs,_,_,h=>absurd (by simp[lS]) h
 | k :: d,[],_,_,h=>absurd (by simp[lS]) h
 | k :: d,x :: xs,g,h,f=>by
  obtain⟨r,o⟩:=uf.mp h
  by_cases e:k.wt x=0
  ·simp only[aF,lS,e,df]at f;obtain⟨i,l,p,a,b,c⟩:=vz d xs (λq j=>g q (ac _ j)) o f;exact⟨i+1,l,p,by simpa using a,by simpa using b,c⟩
  ·exact⟨0,k,x,rfl,rfl,e⟩
theorem vA {d:List Kd}:ys∈nP (d.map Kd.less) xs↔∃(i:Nat) (k:Kd) (x y:T),d[i]? =some k/\xs[i]? =some x/\y∈k.less x/\ys=xs.set i y:=by
 unfold nP;rw[d4];constructor
 ·rintro⟨i,hi,h⟩
  rw[av]at h;cases e:d[i]? with
  | none=>rw[e]at h;simp at h
  | some k=>
   rw[e]at h;cases a :xs[i]? with
   | none=>rw[a]at h;simp at h
   | some x=>
    rw[a]at h;obtain⟨y,hy,rfl⟩:=aE.mp h;exact⟨i,k,x,y,e,a,hy,rfl⟩
 ·rintro⟨i,k,x,y,e,a,hy,rfl⟩
  have hi:=(au.mp a).1;refine⟨i,aS.mpr hi, ?_⟩;rw[av,e,a];exact aE.mpr ⟨y,hy,rfl⟩
theorem DV {d:List Kd}(h:Hs d xs)(f:d[i]? =some k)(hy:k.has y=true):Hs d (xs.set i y):=by
 refine⟨by rw[bp];exact h.1,λj l g a b=> ?_⟩
 by_cases e:i=j
 ·subst e;have hi:=by have:=(au.mp b).1;simpa using this
  rw[ba hi]at b;rw[f]at a;cases a;cases b;exact hy
 ·rw[aP e]at b;exact h.2 j l g a b
theorem Zo {d:Type}{l:List d}{i:Nat}{a:d}(h:l[i]? =some a):a∈l:=bc h
theorem vC {d:List Kd}{xs ys:List T}(e:∀k∈d,mZ k)(h:Hs d xs)(hy:ys∈nP (d.map Kd.less) xs):Hs d ys/\lS (d.map Kd.wt) ys < lS (d.map Kd.wt) xs:=by
 obtain⟨i,k,x,y,a,b,c,rfl⟩:=vA.mp hy;obtain⟨f,g⟩:=(e k (Zo a)).dn x y (h.2 i k x a b) c;refine⟨DV h a f, ?_⟩;rw[UP _ xs i _ x y (by rw[av,a];rfl) b];omega
theorem vD {d:List Kd}{xs:List T}(f:∀k∈d,mZ k)(h:Hs d xs)(g:lS (d.map Kd.wt) xs ≠ 0):∃ys∈nP (d.map Kd.less) xs,lS (d.map Kd.wt) ys=lS (d.map Kd.wt) xs - 1:=by
 obtain⟨i,k,x,a,b,c⟩:=vz d xs f h g;obtain⟨y,hy,e⟩:=(f k (Zo a)).one x (h.2 i k x a b) c;refine⟨xs.set i y,vA.mpr ⟨i,k,x,y,a,b,hy,rfl⟩, ?_⟩;rw[UP _ xs i _ x y (by rw[av,a];rfl) b];omega
theorem XJ {e:List Kd}:(xs.length == e.length && Kd.hass e xs)=true↔Hs e xs:=by
 rw[ae,beq_iff_eq,WY,aO];constructor
 ·rintro⟨f,d⟩
  refine⟨f,λi k x a b=>d (k,x) (bc (i:=i) ?_)⟩;rw[cJ];exact⟨a,b⟩
 ·rintro⟨f,d⟩
  refine⟨f,λq g=> ?_⟩;obtain⟨i,hi⟩:=dr.mp g;obtain⟨a,b⟩:=cJ.mp hi;exact d i q.1 q.2 a b
theorem Wj {k:Kd}{xs:List T}:xs.all k.has=true↔Hs (ai xs.length k) xs:=by
 rw[aO];constructor
 ·intro h;refine⟨by simp,λi e x a b=> ?_⟩
  obtain rfl:k=e :=(dg.mp (Zo a)).2.symm;exact h x (Zo b)
 ·rintro⟨_,h⟩ x f
  obtain⟨i,hi⟩:=dr.mp f;have d:=(au.mp hi).1;exact h i k x (by rw[aJ,if_pos d]) hi
theorem jd {a:List Kd}(h:(Kd.row a).has t=true):∃xs,t= .tup xs/\Hs a xs:=by
 simp only[Kd.has]at h;split at h
 ·exact⟨_,rfl,XJ.mp h⟩
 ·cases h
theorem ZO (h:(Kd.many k lo hi).has t=true):∃xs,t= .tup xs/\lo<=xs.length/\xs.length<=hi/\Hs (ai xs.length k) xs:=by
 simp only[Kd.has]at h;split at h
 ·rw[ae,ae,decide_eq_true_eq,decide_eq_true_eq]at h;exact⟨_,rfl,h.1.1,h.1.2,Wj.mp h.2⟩
 ·cases h
theorem gu {a:List Kd}(h:Hs a xs):(Kd.row a).has (.tup xs)=true:=by exact XJ.mpr h
theorem yI (a:lo<=xs.length)(d:xs.length<=hi)(h:Hs (ai xs.length k) xs):(Kd.many k lo hi).has (.tup xs)=true:=by
 simp only[Kd.has];rw[ae,ae,decide_eq_true_eq,decide_eq_true_eq];exact⟨⟨a,d⟩,Wj.mpr h⟩
theorem gv {f:List Kd}(e:∀k∈f,mZ k):mZ (.row f):=by
 refine⟨λx d=> ?_,λx y d hy=> ?_,λx d l=> ?_,λx y d hy g i=> ?_⟩
 ·obtain⟨xs,rfl,h⟩:=jd d;simp only[Kd.wt,Kd.wtF_map];exact jx f xs e h
 ·obtain⟨xs,rfl,h⟩:=jd d;simp only[Kd.less,Kd.lessF_map]at hy;obtain⟨ys,j,rfl⟩:=aE.mp hy;obtain⟨a,b⟩:=vC e h j;simp only[Kd.wt,Kd.wtF_map];exact⟨gu a,b⟩
 ·obtain⟨xs,rfl,h⟩:=jd d;simp only[Kd.wt,Kd.wtF_map]at l ⊢;obtain⟨ys,g,i⟩:=vD e h l;refine⟨.tup ys,by simp only[Kd.less,Kd.lessF_map];exact aE.mpr ⟨ys,g,rfl⟩, ?_⟩
  exact i
 ·obtain⟨xs,rfl,h⟩:=jd d;obtain⟨ys,rfl,h'⟩:=jd hy;simp only[Kd.wt,Kd.wtF_map]at g i;rw[ug f xs ys e h h' g i]
theorem uh {k:Kd}:∀(xs:List T) (i:Nat) (x:T),xs[i]? =some x->lS (ai (xs.take i++xs.drop (i+1)).length k.wt) (xs.take i++xs.drop (i+1))=lS (ai xs.length k.wt) xs - k.wt x
 | [],i,x,h=>by simp at h
 | y :: ys,0,x,h=>by
  simp at h;subst h;simp only[List.take_zero,bN,eA,dC,cI,ar,bH,lS];omega
 | y :: ys,i+1,x,h=>by
  have a:=uh (k:=k) ys i x (by simpa using h)
  simp only[i7,dC,cF,ar,bH,lS,a];omega
theorem vF {xs:List T}{i:Nat}(h:i < xs.length):(xs.take i++xs.drop (i+1)).length=xs.length - 1:=by
 rw[az,bX,ce];omega
theorem XL (h:Hs (ai xs.length k) xs):Hs (ai (xs.take i++xs.drop (i+1)).length k) (xs.take i++xs.drop (i+1)):=by
 rw[← Wj]at h ⊢;rw[aO]at h ⊢;intro x a;rcases bF.mp a with a | a
 ·exact h x (hZ a)
 ·exact h x (List.mem_of_mem_drop a)
theorem Zp {d e:Type}(f:d->e)(n:Nat)(a:d):ai n (f a)=(ai n a).map f:=by rw[aX]
theorem xG {k:Kd}{lo hi:Nat}(u:mZ k):mZ (.many k lo hi):=by
 have hr:∀n,∀q∈ai n k,mZ q:=λn q D=>by obtain rfl:=(dg.mp D).2;exact u
 refine⟨λx g=> ?_,λx y g hy=> ?_,λx g J=> ?_,λx y g hy l o=> ?_⟩
 ·obtain⟨xs,rfl,l,o,h⟩:=ZO g;simp only[Kd.wt,Zp];have:=jx _ xs (hr _) h;omega
 ·obtain⟨xs,rfl,l,o,h⟩:=ZO g;rcases bF.mp hy with hy | hy
  ·split at hy
   ·cases hy
   ·obtain⟨ys,j,rfl⟩:=aE.mp hy;obtain⟨i,w,rfl⟩:=aE.mp j;have f :=aS.mp w;obtain⟨x,d⟩:=jM f;have r:=vF f;refine⟨yI (by omega) (by omega) (XL h), ?_⟩
    simp only[Kd.wt];rw[uh xs i x d];have:=u.pos x (aO.mp (Wj.mpr h) x (Zo d));omega
  ·rw[Zp]at hy;obtain⟨ys,j,rfl⟩:=aE.mp hy;obtain⟨a,b⟩:=vC (hr _) h j;have r:=by have:=a.1;simpa using this
   refine⟨yI (by omega) (by omega) (by rw[r];exact a), ?_⟩
   simp only[Kd.wt,Zp];rw[r];omega
 ·obtain⟨xs,rfl,l,o,h⟩:=ZO g;simp only[Kd.wt,Zp]at J ⊢
  by_cases e:lS ((ai xs.length k).map Kd.wt) xs=0
  ·have B:xs.length ≠ lo:=by omega
   have v:0 < xs.length:=by omega
   obtain⟨x,d⟩:=jM v;refine⟨.tup (xs.take 0++xs.drop (0+1)), ?_, ?_⟩
   ·simp only[Kd.less,if_neg B];exact bF.mpr (.inl (aE.mpr ⟨_,aE.mpr ⟨0,aS.mpr v,rfl⟩,rfl⟩))
   ·dsimp only;rw[← Zp,uh xs 0 x d,vF v,Zp];have z:k.wt x=0:=by
     have:=uh (k:=k) xs 0 x d;have p:=jx _ _ (hr _) (XL (i:=0) h);have K :=u.pos x (aO.mp (Wj.mpr h) x (Zo d));rw[Zp,Zp]at this;omega
    omega
  ·obtain⟨ys,a,b⟩:=vD (hr _) h e;have r:=by have:=(vC (hr _) h a).1.1;simpa using this
   refine⟨.tup ys, ?_, ?_⟩
   ·simp only[Kd.less,Zp];exact bF.mpr (.inr (aE.mpr ⟨ys,a,rfl⟩))
   ·simp only[Zp];rw[r];omega
 ·obtain⟨xs,rfl,N,M,h⟩:=ZO g;obtain⟨ys,rfl,O,b2,h'⟩:=ZO hy;simp only[Kd.wt,Zp]at l o;have p:=jx _ xs (hr _) h;have K :=jx _ ys (hr _) h';have I:xs.length=lo:=by omega
  have G:ys.length=lo:=by omega
  rw[I]at h l;rw[G]at h' o;rw[ug _ xs ys (hr _) h h' (by omega) (by omega)]
theorem nT:∀(d:Nat) (k:Kd),k.Ok d->mZ k
 | 0,_,h=>h.elim
 | d+1,.whole lo hi,h=>vw h.2.1
 | d+1,.pick f,h=>xF h.2.2.2
 | d+1,.row e,h=>gv λk a=>nT d k (h.2.2 k a)
 | d+1,.many k lo hi,h=>xG (nT d k h.2.2)
theorem vG {a:List (Str×Int)}(hd:Dst (a.map (·.1)))(h:w∈a.map (·.1)):VE (.str w) (a.map λc=>T.str c.1)= .ok (.int (((a.map (·.1)).idxOf w:Nat):Int)):=by
 obtain⟨c,d,rfl⟩:=aE.mp h;obtain⟨i,hi⟩:=dr.mp d;rw[xA hd hi,vy hd (by rw[av,hi];rfl)]
theorem vH (lo hi:Int):nX [(Kd.whole lo hi).t]= .ok (.int (yG lo hi)):=by
 have e:nX [(Kd.whole lo hi).t]=zh (sE [.vl (.tup [.str "whole",.int lo,.int hi])]):=by rfl
 rw[e,sE,zg]
 ·rfl
 ·rfl
theorem vI:∀(a:List Kd) (xs:List T),lS (a.map Kd.wt) xs=((a.zip xs).map λq=>q.1.wt q.2).sum
 | [],xs=>by simp[lS]
 | _ :: _,[]=>by simp[lS]
 | k :: a,x :: xs=>by simp only[aF,lS,d9,cD,vI a xs]
theorem yJ {d:Type}(g:d->Int):∀l:List d,Zc (l.map λa=>T.int (g a))=some (l.map g)
 | []=>rfl
 | a :: l=>by
  show (match Zc (l.map λa=>T.int _) with | some e =>some _ | none=>none)=_
  rw[yJ g l];rfl
theorem gw {d:Type}(g:d->Int)(l:List d):VI (.lst (l.map λa=>T.int (g a)))= .ok (.int (l.map g).sum):=by
 show (match Zc (l.map λa=>T.int _) with | some l=>_ | none=>_)=_
 rw[yJ]
theorem wI:∀(a:List (Kd×T)) (x y:Sl),(∀q∈a,c [q.1.t,q.2]= .ok (.int (q.1.wt q.2)))->zy (zX 0 1) Z9 (za 2 c (z9 (vE 0) (z9 (vE 1) (zd)))) (a.map λq=>T.tup [q.1.t,q.2]) [x,y]= .ok (a.map λq=>T.int (q.1.wt q.2))
 | [],_,_,_=>rfl
 | q :: a,x,y,h=>by
  have e:za 2 c (z9 (vE 0) (z9 (vE 1) (zd))) [.vl q.1.t,.vl q.2]= .ok (.int (q.1.wt q.2)):=by
   rw[zx,v0,kj,v1,kj,h q ag]
  have f:=wI a (.vl q.1.t) (.vl q.2) λr hr=>h r (ac _ hr);have d:zy (zX 0 1) Z9 (za 2 c (z9 (vE 0) (z9 (vE 1) (zd)))) ((q :: a).map λq=>T.tup [q.1.t,q.2]) [x,y]=
   (za 2 c _ [.vl _,.vl q.2]).bind λv=>(zy _ _ _ (a.map λq=>T.tup _) [.vl _,.vl q.2]).bind λg=> .ok _:=rfl
  rw[d,e,kj,f,kj,aF]
theorem Uc (a:List Kd)(xs:List T)(d:Jo s= .ok (a.map Kd.t))(g:a.length<=3)(H:∀q∈a.zip xs,c [q.1.t,q.2]= .ok (.int (q.1.wt q.2))):
  zh (rW c (lm 2 [s,.tup xs]))= .ok (.int (lS (a.map Kd.wt) xs)):=by
 have f:Kg (vE 0) (vE 1) [.vl s,.vl (.tup xs)]= .ok ((a.zip xs).map λq=>T.tup [q.1.t,q.2]):=by
  show (Jo s).bind _=_;rw[d,← B8];rfl
 have e:((a.zip xs).map λq=>T.tup [q.1.t,q.2]).length<=lB:=by
  rw[ah,fU];exact ay (l8 _ _) (ay g (by decide))
 have i:zp (zX 0 1) Z9 (za 2 c (z9 (vE 0) (z9 (vE 1) (zd)))) 2 [] [.vl s,.vl (.tup xs)] ((a.zip xs).map λq=>T.tup [q.1.t,q.2])= .ok ((a.zip xs).map λq=>T.int (q.1.wt q.2)):=by
  unfold zp;rw[if_pos e];show quiet (zy _ _ _ _ [.un,.un])=_;rw[wI _ _ _ H];rfl
 rw[rW,zg]
 ·rfl
 ·show lj _ _ [.vl s,.vl _]=_;rw[Z5,zE,f,kj,i,kj,kj,gw,vI]
theorem vJ {d:List Kd}(h:Hs d xs):∀q∈d.zip xs,q.1.has q.2=true:=λq e=>by
 obtain⟨i,hi⟩:=dr.mp e;obtain⟨a,b⟩:=cJ.mp hi;exact h.2 i q.1 q.2 a b
theorem Dz:BE (.int i)= .ok (.int (vt i)):=rfl
theorem gy:∀(d n:Nat),2*d<=n->∀(k:Kd) (x:T),k.Ok d->k.has x=true->mT n 0 [k.t,x]= .ok (.int (k.wt x))
 | 0,_,_,_,_,h,_=>h.elim
 | d+1,n+2,hn,k,x,h,g=>by
  have r:=gy d n (by omega)
  have e:mT (n+2) 0 [k.t,x]=zh (n9 mJ nX (mT (n+1) 1) (lm 2 [k.t,x])):=by rw[mT]
  have p:∀s y,mT (n+1) 1 [s,y]=zh _:=λs y=>by rw[mT];intro h;cases h
  rw[e];cases k with
  | whole lo hi=>
   obtain⟨i,rfl,I⟩:=j8.mp g;have e:lm 2 [(Kd.whole lo hi).t,.int i]=ly (.tup [.str "whole",.int lo,.int hi]) (.int i):=by rw[Kd.t];rfl
   have hn:=vH lo hi;rw[Kd.t]at hn;rw[e,n9,zu (t:= .int (vt _))]
   ·rfl
   ·rw[QM,zg];show lj _ _ (ly _ _)=_;rw[Z5,ze,v1,kj,zF,v0,kj,hn,kj,Zf,kj,Dz]
  | pick j=>
   obtain⟨w,rfl,D⟩:=ZA.mp g;have e:lm 2 [(Kd.pick j).t,.str w]=ly (.tup [.str "pick",.tup (j.map wV)]) (.str w):=by rfl
   have f :=JS j h.2.1;rw[Kd.t]at f;rw[e,n9,zb (JT (by decide)),zu (t:= .int (((j.map _).idxOf w:Nat):Int))]
   ·rfl
   ·rw[QM,zg];show VF _ _ _ (ly _ _)=_;unfold VF;rw[zF,v0,kj,f,kj];dsimp only;rw[w1,kj,vG h.2.2.2 D]
  | row l=>
   obtain⟨xs,rfl,o⟩:=jd g;have e:lm 2 [(Kd.row l).t,.tup xs]=ly (.tup [.str "row",.tup (l.map Kd.t)]) (.tup xs):=by rw[Kd.t,Kd.ts_map];rfl
   rw[e,n9,zb (JT (by decide)),zb (JT (by decide)),zu]
   ·simp only[Kd.wt,Kd.wtF_map];rfl
   ·rw[QM,zg];show za _ _ _ (ly _ _)=_;rw[zx,Jf,kj,v1,kj,p,Uc l xs rfl h.2.1 λq a=>r q.1 q.2 (h.2.2 q.1 (cM a).1) (vJ o q a)]
  | many k lo hi=>
   obtain⟨xs,rfl,J,v,o⟩:=ZO g;have u:=ay v h.2.1;have e:lm 2 [(Kd.many k lo hi).t,.tup xs]=ly (.tup [.str "many",k.t,.int (lo),.int (hi)]) (.tup xs):=by rfl
   have B:zc zY (Z7 (z9 (zc li (vE 0) (cE (.int 1))) (zd))) (lj zM (vB 1)) (ly (.tup [.str "many",k.t,.int (lo),.int (hi)]) (.tup xs))= .ok (.lst ((ai xs.length k).map Kd.t)):=by
    rw[ze,KY Jf,kj,Z5,w1,kj,Zw,kj,We u,jc,aX]
   rw[e,n9,zb (JT (by decide)),zb (JT (by decide)),zb (JT (by decide)),zg]
   ·simp only[Kd.wt,Zp];rfl
   ·show zc _ _ _ (ly _ _)=_;have G:=Uc (s:= .lst _) _ xs rfl (by rw[aT];exact u) λq a=>r q.1 q.2 (by
     rw[bT (cM a).1];exact h.2.2) (vJ o q a)
    rw[ze,ze,zx,B,kj,v1,kj,p,G,kj,Z5,w1,kj,Zw,kj,Z6,kj,WX,kj,Zf]
theorem xH {fx fi fy:En->R T}{ρ:En}{xs:List T}{i:Nat}{y:T}(a:fx ρ= .ok (.tup xs))(hi:fi ρ= .ok (.int (i:Int)))(hy:fy ρ= .ok y)(h:i < xs.length)(f:xs.length<=1000):
  zc zn (zc zn (lK fx lM (zJ fi)) (zQ (z9 fy zd))) (lK fx (zJ (zc zn fi (cE (.int 1)))) lM) ρ= .ok (.tup (xs.set i y)):=by
 have d:lB=16777216:=rfl;have e:zc zn fi (cE (.int 1)) ρ= .ok (.int ((i+1:Nat))):=by rw[UI hi];rfl
 rw[ze,ze,JL,a,kj,Ql,kj,ji hi,kj,uX h,kj,AX hy,kj,Jd (by simp;omega),kj,JL,a,kj,ji e,kj,Ql,kj,uY (by omega),kj,Jd (by simp;omega)]
 rw[List.set_eq_take_append_cons_drop,if_pos h,bg];rfl
theorem xI {fx fi:En->R T}{ρ:En}{xs:List T}{i:Nat}(a:fx ρ= .ok (.tup xs))(hi:fi ρ= .ok (.int (i:Int)))(h:i < xs.length)(f:xs.length<=1000):
  zc zn (lK fx lM (zJ fi)) (lK fx (zJ (zc zn fi (cE (.int 1)))) lM) ρ= .ok (.tup (xs.take i++xs.drop (i+1))):=by
 have d:lB=16777216:=rfl;have e:zc zn fi (cE (.int 1)) ρ= .ok (.int ((i+1:Nat))):=by rw[UI hi];rfl
 rw[ze,JL,a,kj,Ql,kj,ji hi,kj,uX h,kj,JL,a,kj,ji e,kj,Ql,kj,uY (by omega),kj,Jd (by simp;omega)]
theorem vK {fs:List (T->List T)}(h:∀(i:Nat) (f:T->List T) (x:T),fs[i]? =some f->xs[i]? =some x->(f x).length<=m):(nP fs xs).length<=xs.length*m:=by
 have d:∀(g:Nat->List (List T)) (js:List Nat),(∀j∈js,(g j).length<=m)->(js.flatMap g).length<=js.length*m:=λg js=>by
  induction js with
  | nil=>simp
  | cons j js o=>
   intro e;rw[bP,az,ar,eN];have a:=e j ag;have b:=o λi hi=>e i (ac _ hi);omega
 have:=d (λi=>match fs[i]?,xs[i]? with | some f,some x=>(f x).map λy=>xs.set i y | _,_=>[]) (aU xs.length) λi _=>by
  split
  ·rename_i f x l k;rw[ah];exact h i f x l k
  ·exact bn _
 rw[bE]at this;exact this
theorem ui:∀(d:Nat) (k:Kd) (x:T),k.Ok d->k.has x=true->(k.less x).length<=4 ^ d
 | 0,_,_,h,_=>h.elim
 | d+1,.whole lo hi,x,h,g=>by
  have:1<=4 ^ (d+1):=cg (by simp)
  obtain⟨i,rfl,_⟩:=j8.mp g;simp only[Kd.less];split
  ·simp
  ·split <;> simp <;> omega
 | d+1,.pick u,x,h,g=>by
  have:1<=4 ^ (d+1):=cg (by simp)
  obtain⟨w,rfl,_⟩:=ZA.mp g;simp only[Kd.less];split
  ·simp
  ·split <;> simp <;> omega
 | d+1,.row o,x,h,g=>by
  obtain⟨xs,rfl,j⟩:=jd g;simp only[Kd.less,Kd.lessF_map,ah];have:=vK λi f x a b=>by
   rw[av]at a;cases e:o[i]? with
   | none=>rw[e]at a;cases a
   | some k=>rw[e]at a;cases a;exact ui d k x (h.2.2 k (Zo e)) (j.2 i k x e b)
  have l:xs.length<=3:=by rw[j.1];exact h.2.1
  have p:xs.length*4 ^ d<=3*4 ^ d:=eJ _ l;omega
 | 0+1,.many k lo hi,x,h,g=>h.2.2.elim
 | d+1+1,.many k lo hi,x,h,g=>by
  obtain⟨xs,rfl,r,q,j⟩:=ZO g;have l:=ay q h.2.1;simp only[Kd.less,az,ah];have:=vK (fs:=ai xs.length _) λi f x a b=>by
   obtain rfl:=(dg.mp (Zo a)).2;exact ui _ k x h.2.2 (aO.mp (Wj.mpr j) x (Zo b))
  have p:xs.length*4 ^ (d+1)<=3*4 ^ (d+1):=eJ _ l;have v:(if xs.length=lo then ([]) else (o0 xs).map T.tup).length<=3:=by
   split
   ·simp
   ·unfold o0;simp;omega
  have y:1<=4 ^ d:=cg (by simp)
  omega
theorem Yx (lo:Int)(n:Nat):(rng lo n).length=n:=by unfold rng;simp
theorem gz (h:t∈rng 0 n):∃i:Nat,i < n/\t= .int (i:Int):=by
 obtain⟨i,hi,rfl⟩:=aE.mp h;exact⟨i,aS.mp hi,by rw[df]⟩
theorem FR (n:Nat):rng 0 n=(aU n).map λ(i:Nat)=>T.int (i:Int):=by
 refine bO λi _=> ?_;rw[df]
theorem Dp (h:f ρ= .ok (.tup xs)):lj zM f ρ= .ok (.int (xs.length:Int)):=by rw[Z5,h,kj,Zw]
theorem Dk (h:f ρ= .ok (.tup xs))(a:xs.length<=1000):zO (lj zM f) ρ= .ok (rng 0 xs.length):=by
 rw[UN (Dp h) (by omega),a_]
theorem XM (h:g ρ= .ok true):lP g f f' ρ=f ρ:=by unfold lP;rw[h];rfl
theorem Fq (h:g ρ= .ok false):lP g f f' ρ=f' ρ:=by unfold lP;rw[h];rfl
theorem vL (lo hi i:Int):oU [(Kd.whole lo hi).t,.int i]= .ok (.lst ((Kd.whole lo hi).less (.int i))):=by
 have e:oU [(Kd.whole lo hi).t,.int i]=zh (tw _ [.vl _,.vl _,.un]):=rfl;have f:zr 2 (za 1 nX (z9 (vE 0) (zd))) [.vl (Kd.whole lo hi).t,.vl (.int i),.un]= .nx [.vl (Kd.whole lo hi).t,.vl (.int i),.vl (.int (yG lo hi))]:=by
  rw[zC]
  ·rfl
  ·rw[zF,v0,kj,vH]
 have d:zk ll (vB 1) (vB 2) [.vl (Kd.whole lo hi).t,.vl (.int i),.vl (.int (yG lo hi))]= .ok _:=rfl;have a:zk ml (vB 1) (vB 2) [.vl (Kd.whole lo hi).t,.vl (.int i),.vl (.int (yG lo hi))]= .ok _:=rfl;rw[e,tw,zb f];simp only[Kd.less]
 by_cases h:i=yG lo hi
 ·rw[if_pos h,zu]
  ·rfl
  ·rw[jV (by rw[d,beq_iff_eq.mpr h])];rfl
 ·rw[if_neg h,zb (zj (by rw[d,beq_eq_false_iff_ne.mpr h]))]
  by_cases g:i > yG lo hi
  ·rw[if_pos g,zg]
   ·rfl
   ·show lP _ _ _ [.vl _,.vl _,.vl _]=_;rw[XM (by rw[a,decide_eq_true g])];rfl
  ·rw[if_neg g,zg]
   ·rfl
   ·show lP _ _ _ [.vl _,.vl _,.vl _]=_;rw[Fq (by rw[a,decide_eq_false g])];rfl
theorem Ud {a:List (Str×Int)}(i:a.length<=4)(hd:Dst (a.map (·.1)))(f:w∈a.map (·.1)):pJ [(Kd.pick a).t,.str w]= .ok (.lst ((Kd.pick a).less (.str w))):=by
 have e:pJ [(Kd.pick a).t,.str w]=zh (rX _ [.vl _,.vl _,.un,.un]):=rfl;have q:zr 2 (za 1 mJ (z9 (vE 0) (zd))) [.vl (Kd.pick a).t,.vl (.str w),.un,.un]= .nx [.vl (Kd.pick a).t,.vl (.str w),.vl (.lst (a.map λc=>T.str c.1)),.un]:=by
  rw[zC]
  ·rfl
  ·rw[zF,v0,kj,JS a i]
 have p:zr 3 (VF VE (vB 2) (vB 1)) [.vl (Kd.pick a).t,.vl (.str w),.vl (.lst (a.map λc=>T.str c.1)),.un]= .nx [.vl (Kd.pick a).t,.vl (.str w),.vl (.lst (a.map λc=>T.str c.1)),.vl (.int (((a.map (·.1)).idxOf w):Int))]:=by
  rw[zC]
  ·rfl
  ·exact vG hd f
 have g:=yH f;rw[e,rX,zb q,zb p];simp only[Kd.less];cases l:(a.map _).idxOf w with
 | zero=>
  rw[zg]
  ·rfl
  ·rfl
 | succ j=>
  rw[l]at g;have k:=iE (by simpa using g)
  obtain⟨c,d⟩:=jM k;dsimp only;rw[d];rw[zg]
  ·rfl
  ·show lP _ _ _ [.vl _,.vl _,.vl (.lst (a.map λc=>T.str c.1)),.vl _]=_;rw[XM]
   ·rw[KY];have o:zc jg (vE 3) (cE (.int 1)) [.vl (Kd.pick a).t,.vl (.str w),.vl (.lst (a.map λc=>T.str c.1)),.vl (.int ((j+1:Nat)))]= .ok (.int (j)):=by
     show R.ok _=_;rw[show ((j+1:Nat):Int) - 1=(j) by omega]
    rw[ze,o];exact Qk (by rw[av,d];rfl)
   ·show R.ok _=_;rw[decide_eq_true (by omega)]
theorem Yy (f:xs.length<=3):pp [(Kd.many k lo hi).t,.tup xs]= .ok (.lst (if xs.length=lo then [] else (o0 xs).map T.tup)):=by
 have e:pp [(Kd.many k lo hi).t,.tup xs]=zh (sy (ly (.tup [.str "many",k.t,.int (lo),.int (hi)]) (.tup xs))):=by rfl
 have d:zk ll (lj zM (vB 1)) (zc li (vE 0) (cE (.int 2))) (ly (.tup [.str "many",k.t,.int (lo),.int (hi)]) (.tup xs))= .ok (xs.length == lo):=by
  rw[zA,Z5,w1,kj,Zw,kj,WX,kj,mD,yr]
 rw[e,sy]
 by_cases h:xs.length=lo
 ·rw[if_pos h,zu]
  ·rfl
  ·rw[jV (by rw[d,beq_iff_eq.mpr h])];rfl
 ·rw[if_neg h,zb (zj (by rw[d,beq_eq_false_iff_ne.mpr h])),zg]
  ·rfl
  ·show zv _ _ _ _ _ _ (ly _ _)=_;have j:zO (lj _ (vB 1)) (ly (.tup [.str "many",k.t,.int (lo),.int (hi)]) (.tup xs))= .ok _:=Dk rfl (by omega)
   have o:zp _ _ (zc _ (lK (vE 1) _ (zJ (vE 0))) _) 1 [1] (ly (.tup [.str "many",k.t,.int (lo),.int (hi)]) _) _= .ok ((rng 0 _).map λt=>match t with | .int i=> .tup (xs.take i.toNat++xs.drop (i.toNat+1)) | y=>y):=
    zP _ (by rw[Yx];exact ay f (by decide)) λt g=>by
     obtain⟨i,a,rfl⟩:=gz g;exact xI rfl rfl a (by omega)
   rw[zE,j,kj,o,FR,bi];unfold o0;rw[bi];exact congrArg (λl=>R.ok _) (bO λi _=>rfl)
abbrev tH:En->RS:=uG 2 (zc zn (zc zn (lK (vE 1) (lM) (zJ (vE 3))) (zQ (z9 (vE 5) (zd)))) (lK (vE 1) (zJ (zc zn (vE 3) (cE (.int 1)))) (lM)))
theorem vM {s a:T}{xs:List T}{i:Nat}(hi:i < xs.length)(l:xs.length<=3):∀(ys acc:List T) (z:Sl),acc.length+ys.length<=1000000->∃d,Zv (zq 5) tH ys [.vl s,.vl (.tup xs),.ow acc,.vl (.int (i:Int)),.vl a,z]= .nx [.vl s,.vl (.tup xs),.ow (acc++ys.map λy=>T.tup (xs.set i y)),.vl (.int (i:Int)),.vl a,d]
 | [],acc,z,_=>⟨z,by rw[ci,bo];rfl⟩
 | y :: ys,acc,z,g=>by
  have k :=by simpa using g
  obtain⟨d,f⟩:=vM hi l ys (acc++[.tup _]) _ (by simp;omega)
  refine⟨d, ?_⟩;have e:tH [.vl s,.vl (.tup xs),.ow acc,.vl (.int (i)),.vl a,.vl y]= .nx [.vl s,.vl (.tup xs),.ow (acc++[.tup (xs.set i y)]),.vl (.int (i)),.vl a,.vl y]:=by
   have j:=xH (fx:=vE 1) (fi:=vE 3) (fy:=vE 5) (ρ:=[.vl s,.vl _,.ow acc,.vl _,.vl a,.vl y]) rfl rfl rfl hi (by omega)
   exact yB rfl (bW (show acc.length<=1000000 by omega) (by decide)) j
  rw[jL rfl e,f,bg];rfl
def sU (a:List Kd)(xs:List T)(i:Nat):List (List T):=match (a.map Kd.less)[i]?,xs[i]? with
 | some f,some x=>(f x).map λy=>xs.set i y
 | _,_=>[]
theorem gA {d:List Kd}(a:d[i]? =some k)(b:xs[i]? =some x):sU d xs i=(k.less x).map λy=>xs.set i y:=by
 unfold sU;rw[av,a,b];rfl
theorem xJ (xs:List T):jb xs=(aU xs.length).map λ(i:Nat)=>T.tup [.int (i:Int),(xs[i]?).getD .non]:=by
 refine dW λi=> ?_;unfold jb;rw[av,g7,av]
 by_cases h:i < xs.length
 ·rw[cW h];simp[ak h]
 ·rw[aY (by omega),aY (by simpa using h)];rfl
abbrev sj (c:List T->R T):En->RS:=j5 (Zg (za 2 c (z9 (zc li (vE 0) (vE 3)) (z9 (vE 4) (zd))))) (zq 5) tH
theorem vN {c:List T->R T}{s:T}{d:List Kd}{xs:List T}(u:∀(i:Nat) (k:Kd),d[i]? =some k->li s (.int (i:Int))= .ok k.t)(v:xs.length<=3)(e:xs.length=d.length)
  (H:∀(i:Nat) (k:Kd) (x:T),d[i]? =some k->xs[i]? =some x->c [k.t,x]= .ok (.lst (k.less x))/\(k.less x).length<=1000):∀(js:List Nat) (acc:List T) (a b z:Sl),(∀j∈js,j < xs.length)->acc.length+js.length*1000<=1000000->
  ∃o g q,Zv (zX 3 4) (sj c) (js.map λ(i:Nat)=>T.tup [.int (i:Int),(xs[i]?).getD .non]) [.vl s,.vl (.tup xs),.ow acc,a,b,z]= .nx [.vl s,.vl (.tup xs),.ow (acc++(js.flatMap (sU d xs)).map T.tup),o,g,q]
 | [],acc,a,b,z,_,_=>⟨a,b,z,by show RS.nx _=RS.nx _;rw[List.flatMap_nil,ci,bo]⟩
 | j :: js,acc,a,b,z,w,M=>by
  have G :=by simpa using M
  have f:=w j ag;obtain⟨x,p⟩:=jM f;obtain⟨k,r⟩:=jM (show j < d.length by omega)
  obtain⟨D,P⟩:=H j k x r p;obtain⟨B,l⟩:=vM f v (k.less x) acc z (by omega)
  obtain⟨o,g,q,I⟩:=vN u v e H js (acc++(k.less x).map λy=>T.tup _) _ _ B (λi hi=>w i (ac _ hi)) (by simp;omega)
  refine⟨o,g,q, ?_⟩;have K:sj c [.vl s,.vl (.tup xs),.ow acc,.vl (.int (j)),.vl x,z]= .nx [.vl s,.vl (.tup xs),.ow (acc++(k.less x).map λy=>T.tup (xs.set j y)),.vl (.int (j)),.vl x,B]:=by
   have O:Zg (za 2 c (z9 (zc li (vE 0) (vE 3)) (z9 (vE 4) (zd)))) [.vl s,.vl (.tup xs),.ow acc,.vl (.int (j)),.vl x,z]= .ok (k.less x):=by
    have N:zc li (vE 0) (vE 3) [.vl s,.vl (.tup xs),.ow acc,.vl _,.vl x,z]= .ok k.t:=u j k r;rw[Zt,zx,N,kj,v4,kj,D];rfl
   unfold sj j5;rw[O];exact l
  have J:zX 3 4 (T.tup [.int (j),(xs[j]?).getD .non]) [.vl s,.vl (.tup xs),.ow acc,a,b,z]= .ok [.vl s,.vl (.tup xs),.ow acc,.vl (.int (j)),.vl x,z]:=by rw[p];rfl
  rw[aF,jL J K,I,bP,gA r p,di,bi,bg];rfl
theorem yK {a:List Kd}(o:∀(i:Nat) (k:Kd),a[i]? =some k->li s (.int (i:Int))= .ok k.t)(v:xs.length<=3)(d:xs.length=a.length)
  (H:∀(i:Nat) (k:Kd) (x:T),a[i]? =some k->xs[i]? =some x->c [k.t,x]= .ok (.lst (k.less x))/\(k.less x).length<=1000):zh (rD c (lm 6 [s,.tup xs]))= .ok (.lst ((nP (a.map Kd.less) xs).map T.tup)):=by
 obtain⟨g,f,u,h⟩:=vN o v d H _ [] .un .un .un (λj l=>aS.mp l) (by simp;omega)
 have e:lm 6 [s,.tup xs]=[.vl s,.vl _,.un,.un,.un,.un]:=rfl;have r:wR 2 zd [.vl s,.vl (.tup xs),.un,.un,.un,.un]= .nx [.vl s,.vl _,.ow [],.un,.un,.un]:=rfl;have q:j5 (wg (vE 1)) (zX 3 4) (sj c) [.vl s,.vl (.tup xs),.ow [],.un,.un,.un]= .nx [.vl s,.vl (.tup xs),.ow ([]++((aU xs.length).flatMap (sU a xs)).map T.tup),g,f,u]:=by
  have p:wg (vE 1) [.vl s,.vl (.tup xs),.ow [],.un,.un,.un]= .ok ((aU xs.length).map λ(i:Nat)=>T.tup [.int (i),(xs[i]?).getD .non]):=by rw[← xJ];rfl
  unfold j5;rw[p];exact h
 rw[e,rD,zb r,zb q,zg]
 ·rfl
 ·rfl
theorem E9 (h:xs.length+ys.length<=lB):zn (.lst xs) (.lst ys)= .ok (.lst (xs++ys)):=if_pos h
theorem ja {d:Nat}(hd:d<=3){k:Kd}{x:T}(h:k.Ok d)(a:k.has x=true):(k.less x).length<=1000:=by
 have:=ui d k x h a;have e:4 ^ d<=4 ^ 3:=cR (by omega) hd
 omega
theorem XN:∀(d n:Nat),2*d<=n->d<=3->∀(k:Kd) (x:T),k.Ok d->k.has x=true->m7 n 0 [k.t,x]= .ok (.lst (k.less x))
 | 0,_,_,_,_,_,h,_=>h.elim
 | d+1,n+2,hn,hd,k,x,h,j=>by
  have v:=XN d n (by omega) (by omega)
  have e:m7 (n+2) 0 [k.t,x]=zh (nZ oU pJ pp (m7 (n+1) 1) (lm 2 [k.t,x])):=by rw[m7]
  have u:∀s y,m7 (n+1) 1 [s,y]=zh _:=λs y=>by rw[m7];intro h;cases h
  rw[e];cases k with
  | whole lo hi=>
   obtain⟨i,rfl,M⟩:=j8.mp j;have e:lm 2 [(Kd.whole lo hi).t,.int i]=ly (.tup [.str "whole",.int lo,.int hi]) (.int i):=by rw[Kd.t];rfl
   have hn:=vL lo hi i;rw[Kd.t]at hn;rw[e,nZ,zu (t:= .lst _)]
   ·rfl
   ·rw[QM,zg];show za _ _ _ (ly _ _)=_;rw[zx,v0,kj,v1,kj,hn]
  | pick D=>
   obtain⟨w,rfl,J⟩:=ZA.mp j;have e:lm 2 [(Kd.pick D).t,.str w]=ly (.tup [.str "pick",.tup (D.map wV)]) (.str w):=by rw[Kd.t];rfl
   have l :=Ud h.2.1 h.2.2.2 J;rw[Kd.t]at l;rw[e,nZ,zb (JT (by decide)),zu]
   ·rfl
   ·rw[QM,zg];show za _ _ _ (ly _ _)=_;rw[zx,v0,kj,v1,kj,l]
  | row r=>
   obtain⟨xs,rfl,f⟩:=jd j;have e:lm 2 [(Kd.row r).t,.tup xs]=ly (.tup [.str "row",.tup (r.map Kd.t)]) (.tup xs):=by rw[Kd.t,Kd.ts_map];rfl
   rw[e,nZ,zb (JT (by decide)),zb (JT (by decide)),zu]
   ·rfl
   ·rw[QM,zg];show za _ _ _ (ly _ _)=_;rw[zx,Jf,kj,v1,kj,u,yK (λi k o=>Qs (by rw[av,o];rfl)) (by rw[f.1];exact h.2.1) f.1 λi k x a b=>⟨v k x (h.2.2 k (Zo a)) (f.2 i k x a b),ja (by omega) (h.2.2 k (Zo a)) (f.2 i k x a b)⟩]
    simp only[Kd.less,Kd.lessF_map]
  | many k lo hi=>
   obtain⟨xs,rfl,N,G,f⟩:=ZO j;have q:=ay G h.2.1;have e:lm 2 [(Kd.many k lo hi).t,.tup xs]=ly (.tup [.str "many",k.t,.int (lo),.int (hi)]) (.tup xs):=by rfl
   have I:zc zY (Z7 (z9 (zc li (vE 0) (cE (.int 1))) (zd))) (lj zM (vB 1)) (ly (.tup [.str "many",k.t,.int (lo),.int (hi)]) (.tup xs))= .ok (.lst ((ai xs.length k).map Kd.t)):=by
    rw[ze,KY Jf,kj,Z5,w1,kj,Zw,kj,We q,jc,aX]
   have g:=Yy (k:=k) (lo:=lo) (hi:=hi) q;rw[Kd.t]at g;have B:=ja hd h j;rw[e,nZ,zb (JT (by decide)),zb (JT (by decide)),zb (JT (by decide)),zg]
   ·rfl
   ·show zc _ _ _ (ly _ _)=_;have K:=yK (s:= .lst ((ai xs.length k).map _)) (λi k o=>Qk (by rw[av,o];rfl)) q (by simp) λi p x a b=>by
     obtain rfl:=(dg.mp (Zo a)).2;exact⟨v p x h.2.2 (f.2 i p x a b),ja (by omega) h.2.2 (f.2 i p x a b)⟩
    simp only[Kd.less,Zp,az]at B ⊢;rw[ze,zx,v0,kj,v1,kj,g,kj,zx,I,kj,v1,kj,u,K,kj,E9 (ay B (by decide))]
theorem vO:∀(d:List Kd) (xs:List T),(∀(i:Nat) (k:Kd) (x:T),d[i]? =some k->xs[i]? =some x->k.wt x<=B)->0<=B->lS (d.map Kd.wt) xs<=(xs.length:Int)*B
 | [],xs,_,e=>by
  exact Int.mul_nonneg (by omega) e
 | k :: d,[],_,e=>by simp[lS]
 | k :: d,x :: xs,h,e=>by
  have a:=h 0 k x rfl rfl;have b:=vO d xs (λi g f p q=>h (i+1) g f (by simpa using p) (by simpa using q)) e
  simp only[aF,lS,ar];rw[show ((xs.length+1:Nat):Int)=(xs.length)+1 by omega,Int.add_mul];omega
theorem gB:∀(d:Nat) (k:Kd) (x:T),k.Ok d->k.has x=true->k.wt x<=40*((4 ^ d:Nat):Int)
 | 0,_,_,h,_=>h.elim
 | d+1,.whole lo hi,x,h,e=>by
  have g:1<=4 ^ (d+1):=cg (by simp)
  obtain⟨i,rfl,o⟩:=j8.mp e;obtain⟨B,y⟩:=vv h.2.1;obtain⟨a,_,b⟩:=h;simp only[Kd.wt,vt];split <;> omega
 | d+1,.pick G,x,h,e=>by
  have g:1<=4 ^ (d+1):=cg (by simp)
  obtain⟨w,rfl,u⟩:=ZA.mp e;have:=yH u;rw[ah]at this;have:=h.2.1;simp only[Kd.wt];omega
 | d+1,.row l,x,h,e=>by
  have g:1<=4 ^ d:=cg (by simp)
  obtain⟨xs,rfl,f⟩:=jd e;simp only[Kd.wt,Kd.wtF_map];have v:xs.length<=3:=by rw[f.1];exact h.2.1
  have a:=vO l xs (λi k x p q=>gB d k x (h.2.2 k (Zo p)) (f.2 i k x p q)) (by omega)
  have b:(xs.length:Int)*(40*((4 ^ d:Nat)))<=3*(40*((4 ^ d:Nat))):=eI (by omega) (by omega)
  omega
 | d+1,.many k lo hi,x,h,e=>by
  have g:1<=4 ^ d:=cg (by simp)
  obtain⟨xs,rfl,D,r,f⟩:=ZO e;simp only[Kd.wt,Zp];have v:=ay r h.2.1;have a:=vO (ai _ k) xs (λi j x p q=>by
   obtain rfl:=(dg.mp (Zo p)).2;exact gB d j x h.2.2 (f.2 i j x p q)) (by omega)
  have b:(xs.length:Int)*(40*((4 ^ d:Nat)))<=3*(40*((4 ^ d:Nat))):=eI (by omega) (by omega)
  omega
theorem pW {k:Kd}(h:k.Ok 3){x:T}(a:k.has x=true):sZ 20 [k.t,x]= .ok (.lst (k.less x)):=XN 3 20 (by omega) (by omega) k x h a
theorem CU {k:Kd}(h:k.Ok 3){x:T}(a:k.has x=true):nE 20 [k.t,x]= .ok (.int (k.wt x)):=gy 3 20 (by omega) k x h a
theorem vP {k:Kd}(a:k.Ok 3){x:T}(d:k.has x=true):Xp [k.t,x]= .ok (.lst (k.less x)):=by
 show zh (se _ _ (ly k.t x))=_;rw[se,zb (ZU (by rw[zx,v0,kj,v1,kj,Zn a,if_pos d])),zg]
 ·rfl
 ·show za _ _ _ (ly k.t x)=_;rw[zx,v0,kj,v1,kj,pW a d]
theorem wJ {k:Kd}(a:k.Ok 3){x:T}(d:k.has x=true):nO [k.t,x]= .ok (.int (k.wt x)):=by
 show zh (rJ _ _ (ly k.t x))=_;rw[rJ,zb (ZU (by rw[zx,v0,kj,v1,kj,Zn a,if_pos d])),zg]
 ·rfl
 ·show za _ _ _ (ly k.t x)=_;rw[zx,v0,kj,v1,kj,CU a d]
theorem ZF (h:jk 3 r):Xn [r.t]= .ok .non:=by
 show zh (tf _ [.vl r.t])=_;rw[tf,zj]
 ·rfl
 ·have e:BC [r.t]= .ok (.bl true):=by
   show zh (zo _ _)=_;rw[zg]
   ·rfl
   ·exact Jw 8 3 (by omega) r h
  rw[jt,ZK,zF,v0,kj,e];rfl
def br (k:Kd)(r:Ru):List T:=k.all.filter λx=> !(kp r x)
theorem JE:x∈br k r↔k.has x=true/\kp r x=false:=by
 unfold br;rw[cK,ZT];simp
def lb (k:Kd)(r:Ru):Option T:=match br k r with
 | []=>none
 | t :: ts=>some (jq (k.wt t) t (ts.map k.wt) ts)
noncomputable def oT:Option T->T
 | some x=>x
 | none=> .non
theorem wK (w:T->Int):∀(ts:List T) (t:T),jq (w t) t (ts.map w) ts∈t :: ts/\∀y∈t :: ts,w (jq (w t) t (ts.map w) ts)<=w y
 | [],t=>by
  exact⟨List.mem_singleton_self _,λy hy=>by rw[aH.mp hy];exact iV _⟩
 | u :: ts,t=>by
  rw[aF,jq]
  by_cases h:w u < w t
  ·rw[if_pos h];obtain⟨a,b⟩:=wK w ts u;exact⟨ac _ a,λy hy=>by
    rcases aq.mp hy with rfl | hy
    ·have:=b u ag;omega
    ·exact b y hy⟩
  ·rw[if_neg h];obtain⟨a,b⟩:=wK w ts t;exact⟨(aq.mp a).elim (λz=>by rw[z];exact ag) (λz=>ac _ (ac _ z)),λy hy=>by
    rcases aq.mp hy with rfl | hy
    ·exact b y ag
    ·rcases aq.mp hy with rfl | hy
     ·have:=b t ag;omega
     ·exact b y (ac _ hy)⟩
theorem gC:lb k r=none↔∀x,k.has x=true->kp r x=true:=by
 have h:br k r=[]↔∀x,k.has x=true->kp r x=true:=by
  rw[List.eq_nil_iff_forall_not_mem];exact⟨λh x a=>by
   cases e:kp r x with
   | true=>rfl
   | false=>exact absurd (JE.mpr ⟨a,e⟩) (h x),λh x a=>by
   have:=JE.mp a;rw[h x this.1]at this;exact absurd this.2 (by decide)⟩
 rw[← h];unfold lb;cases br k r with
 | nil=>exact⟨λ_=>rfl,λ_=>rfl⟩
 | cons t ts=>exact⟨λz=>(nomatch z),λz=>(nomatch z)⟩
theorem vQ (h:lb k r=some x):k.has x=true/\kp r x=false/\∀y,k.has y=true->kp r y=false->k.wt x<=k.wt y:=by
 unfold lb at h;cases e:br k r with
 | nil=>rw[e]at h;cases h
 | cons t ts=>
  rw[e]at h;cases h;obtain⟨a,b⟩:=wK _ ts t;have d :=JE.mp (e ▸ a);exact⟨d.1,d.2,λy g f=>b y (e ▸ JE.mpr ⟨g,f⟩)⟩
theorem vR {f:T->R T}{w:T->Int}:∀ts:List T,(∀t∈ts,f t= .ok (.int (w t)))->WL f ts=some (ts.map w)
 | [],_=>rfl
 | t :: ts,h=>by
  rw[WL,h t ag,vR ts λy hy=>h y (ac _ hy)];rfl
theorem xK (a:k.Ok 3)(g:k.all.length<=500)(hr:jk 3 r):n8 [k.t,r.t]= .ok (oT (lb k r)):=by
 show zh (nH _ _ _ _ [.vl k.t,.vl r.t,.un])=_;have l:jP (za 1 Xn (z9 (vE 1) _)) [.vl k.t,.vl r.t,.un]= .nx _:=ZU (by rw[zF,v1,kj,ZF hr])
 have p:zp _ (ZW (Z8 (za 2 (nk 8) (z9 (vE 1) (z9 (vE 0) _))))) (vE 0) 1 [1] [.vl k.t,.vl r.t,.un] _= .ok _:=
  Zx _ (ay g (by decide)) λt j=>⟨by
   show ZW _ [.vl t,.vl r.t]=_;unfold ZW Z8;rw[zx,v1,kj,v0,kj,jG (C7 a j) hr];rfl,rfl⟩
 have o:zr 2 (zv (Zg (za 1 KC (z9 (vE 0) (zd)))) (zq 0) (ZW (Z8 (za 2 (nk 8) (z9 (vE 1) (z9 (vE 0) (zd)))))) (vE 0) 1 [1]) [.vl k.t,.vl r.t,.un]= .nx [.vl k.t,.vl r.t,.vl (.lst (br k r))]:=by
  rw[zC]
  ·rfl
  ·unfold zv Zg;rw[zF,v0,kj,u9 a g];show (zp _ _ _ _ _ _ _).bind _=_;rw[p];rfl
 rw[nH,zb l,zb o,zg]
 ·rfl
 ·show VW [0] _ _ _ [.vl k.t,.vl r.t,.vl _]=_;have i:∀x∈br k r,k.has x=true:=λx f=>(JE.mp f).1;unfold lb;cases e:br k r with
  | nil=>rfl
  | cons t ts=>
   rw[e]at i;have d:WL (λx=>za 2 (nE 20) (z9 (vE 1) (z9 (vE 0) zd)) ((jQ 1 [0] [Sl.vl k.t,.vl r.t,.vl (.lst (t :: ts))]).set 0 (.vl x))) _=some _:=vR _ λx f=>by
    exact gy 3 20 (by omega) k x a (i x f)
   show (match WL _ _ with | some (k :: q)=>R.ok _ | _=> .bad)=_
   rw[d];rfl
theorem vS:zh (zo f ρ)=f (frz ρ):=by rw[zN,ZJ]
theorem Ue (h:g ρ= .ok false):Zr g fb (n+1) ρ= .nx ρ:=by
 show (g ρ).s _=_;rw[h,Ze,if_neg aA]
theorem yL (h:g ρ= .ok true)(a:fb ρ= .nx ρ'):Zr g fb (n+1) ρ=Zr g fb n ρ' :=by
 show (g ρ).s _=_;rw[h,Ze,if_pos rfl,a]
theorem A7 (h:f ρ= .ok (.lst (y :: ys))):zc li f (cE (.int 0)) ρ= .ok y:=by
 rw[ze,h,zK];show lI _ ((0:Nat))=_;unfold lI;rw[Zu (rfl)]
def bl (k:Kd)(r:Ru)(x:T):List T:=(k.less x).filter λy=> !(kp r y)
def my (k:Kd)(r:Ru):Nat->T->List T
 | 0,x=>[x]
 | n+1,x=>match bl k r x with
  | []=>[x]
  | y :: _=>x :: my k r n y
section
variable {k:Kd}{r:Ru}{x y:T}
theorem vT (d:k.Ok 3)(f:k.has x=true)(h:y∈bl k r x):k.has y=true/\kp r y=false/\k.wt y < k.wt x:=by
 obtain⟨i,e⟩:=cK.mp h;obtain⟨a,g⟩:=(nT 3 k d).dn x y f i;exact⟨a,by simpa using e,g⟩
theorem bl_len (a:k.Ok 3)(d:k.has x=true):(bl k r x).length<=1000:=ay (eC _ _) (ja (by omega) a d)
theorem yM (a:k.Ok 3)(hr:jk 3 r)(d:k.has x=true):gP [k.t,x,r.t]= .ok (.lst (bl k r x)):=by
 show zh _=_;unfold A4;rw[vS];show zv _ _ _ _ _ _ [.vl k.t,.vl x,.vl r.t]=_;rw[zE,Zt,zx,v0,kj,v1,kj,pW a d];show ((zp _ _ _ _ _ _ _).bind _)=_;have f:lB=16777216:=rfl;have g:=ja (by omega) a d
 rw[Zx _ (by omega) λt e=>⟨?_,rfl⟩]
 ·rfl
 ·show ZW _ [.vl t,.vl r.t]=_;rw[jt,ZK,zx,v1,kj,v0,kj,jG (xC 2 k t a ((nT 3 k a).dn x t d e).1) hr];rfl
theorem UQ (f:k.Ok 3):∀(n:Nat) (x:T),k.has x=true->kp r x=false->∀y∈my k r n x,k.has y=true/\kp r y=false
 | 0,x,a,d,y,hy=>by rw[aH.mp hy];exact⟨a,d⟩
 | n+1,x,a,d,y,hy=>by
  unfold my at hy;cases e:bl k r x with
  | nil=>rw[e]at hy;rw[aH.mp hy];exact⟨a,d⟩
  | cons z j=>
   rw[e]at hy;obtain⟨i,g,_⟩:=vT f a (by rw[e];exact ag)
   rcases aq.mp hy with rfl | hy
   ·exact⟨a,d⟩
   ·exact UQ f n z i g y hy
theorem Db:∀(n:Nat) (x:T),my k r n x ≠ []
 | 0,x=>by unfold my;simp
 | n+1,x=>by unfold my;split <;> simp
theorem XO (l:List T)(h:vB i ρ= .ok (.lst l)):zk ml (lj zM (vB i)) (cE (.int 0)) ρ= .ok (!l.isEmpty):=by
 rw[zA,Z5,h];cases l with
 | nil=>rfl
 | cons a l=>
  show R.ok _=_;rw[decide_eq_true (by simp)];rfl
abbrev ED:En->RS:=zi (uG 3 (zc li (vE 4) (cE (.int 0)))) (zr 4 (za 3 gP (z9 (vE 0) (z9 (zc li (vE 4) (cE (.int 0))) (z9 (vE 2) (zd))))))
theorem vU (a:k.Ok 3)(hr:jk 3 r):∀(n:Nat) (x:T) (acc:List T) (d:Nat),k.has x=true->k.wt x<=(n:Int)->acc.length+n<=100000->n < d->∃l,Zr (zk ml (lj zM (vB 4)) (cE (.int 0))) ED d [.vl k.t,.vl x0,.vl r.t,.ow (acc++[x]),.vl (.lst (bl k r x))]= .nx [.vl k.t,.vl x0,.vl r.t,.ow (acc++my k r n x),l]
 | n,x,acc,0,_,_,_,o=>by omega
 | n,x,acc,d+1,i,D,v,o=>by
  have u:lB=16777216:=rfl;cases e:bl k r x with
  | nil=>
   refine⟨.vl (.lst []), ?_⟩;have q:my k r n x=[x]:=by cases n with | zero=>rfl | succ n=>unfold my;rw[e]
   rw[Ue (XO [] rfl),q]
  | cons y ys=>
   obtain⟨f,B,w⟩:=vT a i (by rw[e];exact ag)
   have hp:=(nT 3 k a).pos y f;obtain⟨m,rfl⟩:∃m,n=m+1:=⟨n - 1,by omega⟩
   obtain⟨l,p⟩:=vU a hr m y (acc++[x]) d f (by omega) (by rw[az,aC];omega) (by omega)
   refine⟨l, ?_⟩;have j:uG 3 (zc li (vE 4) (cE (.int 0))) [.vl k.t,.vl x0,.vl r.t,.ow (acc++[x]),.vl (.lst (y :: ys))]= .nx [.vl k.t,.vl x0,.vl r.t,.ow ((acc++[x])++[y]),.vl (.lst (y :: ys))]:=by
    rw[yB rfl (by rw[az,aC];omega) (A7 rfl)];rfl
   have g:zr 4 (za 3 gP (z9 (vE 0) (z9 (zc li (vE 4) (cE (.int 0))) (z9 (vE 2) (zd))))) [.vl k.t,.vl x0,.vl r.t,.ow ((acc++[x])++[y]),.vl (.lst (y :: ys))]= .nx [.vl k.t,.vl x0,.vl r.t,.ow ((acc++[x])++[y]),.vl (.lst (bl k r y))]:=by
    rw[zC]
    ·rfl
    ·rw[Z4,v0,kj,show zc li _ _ _= .ok y from A7 rfl,kj,v2,kj,yM a hr f]
   rw[yL (XO (y :: ys) rfl) ((zb j).trans g),p];have:my k r (m+1) x=x :: my k r m y:=by rw[my,e]
   rw[this,bg];rfl
abbrev ch (k:Kd)(r:Ru)(x:T):List T:=my k r (k.wt x).toNat x
theorem pM (a:k.Ok 3)(d:k.has x=true):((k.wt x).toNat:Int)=k.wt x/\(k.wt x).toNat<=2560:=by
 have e:=(nT 3 k a).pos x d;have f:=gB 3 k x a d;constructor <;> omega
theorem F9 (a:k.Ok 3)(hr:jk 3 r)(d:k.has x=true)(i:kp r x=false):nW [k.t,x,r.t]= .ok (.lst (ch k r x)):=by
 obtain⟨w1,w2⟩:=pM a d;obtain⟨l,e⟩:=vU a hr (k.wt x).toNat x [] 1000000 d (by omega) (by simp;omega) (by omega)
 rw[bN]at e;show zh (ni _ _ _ _ [.vl k.t,.vl x,.vl r.t,.un,.un])=_;have f:Z8 (za 2 (nk 8) (z9 (vE 2) (z9 (vE 1) (zd)))) [.vl k.t,.vl x,.vl r.t,.un,.un]= .ok false:=by
  rw[ZK,zx,v2,kj,v1,kj,jG (xC 2 k x a d) hr,i];rfl
 have g:wR 3 (z9 (vE 1) (zd)) [.vl k.t,.vl x,.vl r.t,.un,.un]= .nx [.vl k.t,.vl x,.vl r.t,.ow [x],.un]:=rfl;have j:zr 4 (za 3 gP (z9 (vE 0) (z9 (vE 1) (z9 (vE 2) (zd))))) [.vl k.t,.vl x,.vl r.t,.ow [x],.un]= .nx [.vl k.t,.vl x,.vl r.t,.ow [x],.vl (.lst (bl k r x))]:=by
  rw[zC]
  ·rfl
  ·rw[Z4,v0,kj,v1,kj,v2,kj,yM a hr d]
 unfold ni;rw[zb (ZU (by rw[zF,v2,kj,ZF hr])),zb (ZU (by rw[zx,v0,kj,v1,kj,Zn a,if_pos d])),zb (zj f),zb g,zb j,zb e]
 rfl
theorem xL (a:k.Ok 3)(hr:jk 3 r)(d:k.has x=true)(f:kp r x=true):nW [k.t,x,r.t]= .ex 1:=by
 show zh (ni _ _ _ _ [.vl k.t,.vl x,.vl r.t,.un,.un])=_;have e:Z8 (za 2 (nk 8) (z9 (vE 2) (z9 (vE 1) (zd)))) [.vl k.t,.vl x,.vl r.t,.un,.un]= .ok true:=by
  rw[ZK,zx,v2,kj,v1,kj,jG (xC 2 k x a d) hr,f];rfl
 unfold ni;rw[zb (ZU (by rw[zF,v2,kj,ZF hr])),zb (ZU (by rw[zx,v0,kj,v1,kj,Zn a,if_pos d])),JD (by rw[jV e];rfl)]
 rfl
theorem EZ (h:Xn [u]= .ex c)(x:T):nW [t,x,u]= .ex c:=by
 show zh (ni _ _ _ _ [.vl t,.vl x,.vl u,.un,.un])=_;unfold ni;rw[JD (u7 (by rw[zF,v2,kj,h]))];rfl
theorem XQ (hr:jk 3 r)(h:nK [t,x]= .ex c):nW [t,x,r.t]= .ex c:=by
 show zh (ni _ _ _ _ [.vl t,.vl x,.vl r.t,.un,.un])=_;unfold ni;rw[zb (ZU (by rw[zF,v2,kj,ZF hr])),JD (u7 (by rw[zx,v0,kj,v1,kj,h]))];rfl
theorem XR (h:Xn [u]= .ex c):n8 [t,u]= .ex c:=by
 show zh (nH _ _ _ _ [.vl t,.vl u,.un])=_;unfold nH;rw[JD (u7 (by rw[zF,v1,kj,h]))];rfl
theorem XS (hr:jk 3 r)(h:KC [t]= .ex c):n8 [t,r.t]= .ex c:=by
 show zh (nH _ _ _ _ [.vl t,.vl r.t,.un])=_;unfold nH;rw[zb (ZU (by rw[zF,v1,kj,ZF hr])),JD]
 ·rfl
 ·rw[XA];rw[zE,Zt,zF,v0,kj,h];rfl
end
abbrev e7 (w t x u v:T):En:=[.vl w,.vl t,.vl x,.vl u,.vl .non,.vl v,.un]
abbrev ox:En->R T:=lP (zk ll (vB 0) (cE (.int 0))) (za 3 nW (z9 (vE 1) (z9 (vE 2) (z9 (vE 3) (zd))))) (za 2 n8 (z9 (vE 1) (z9 (vE 3) (zd))))
theorem XT (h:ox (e7 w t x u .non)= .ok v):mf [w,t,x,u]= .ok v:=by
 show zh (oE _ _ _ [.vl w,.vl t,.vl x,.vl u,.un,.un,.un])=_;have e:zr 4 (cE .non) [.vl w,.vl t,.vl x,.vl u,.un,.un,.un]= .nx [.vl w,.vl t,.vl x,.vl u,.vl _,.un,.un]:=rfl;have d:zr 5 (cE .non) [.vl w,.vl t,.vl x,.vl u,.vl _,.un,.un]= .nx (e7 w t x u _):=rfl;have a:K1 4 okX (zr 5 ox) (e7 w t x u .non)= .nx (e7 w t x u v):=by unfold K1;rw[zC h];rfl
 rw[oE,zb e,zb d,zb a,zu]
 ·rfl
 ·rfl
theorem JF (f:okX c=true)(h:ox (e7 w t x u .non)= .ex c):mf [w,t,x,u]=nU c:=by
 show zh (oE _ _ _ [.vl w,.vl t,.vl x,.vl u,.un,.un,.un])=_;have e:zr 4 (cE .non) [.vl w,.vl t,.vl x,.vl u,.un,.un,.un]= .nx [.vl w,.vl t,.vl x,.vl u,.vl _,.un,.un]:=rfl;have d:zr 5 (cE .non) [.vl w,.vl t,.vl x,.vl u,.vl _,.un,.un]= .nx (e7 w t x u _):=rfl;have a:K1 4 okX (zr 5 ox) (e7 w t x u .non)= .nx [.un,.un,.un,.un,.xc c,.un,.un]:=by unfold K1;rw[XA h];dsimp only;rw[if_pos f];rfl
 rw[oE,zb e,zb d,zb a];show zh ((nU c).s λt=> .rt t)=_;rw[ZJ]
theorem o9 (h:nW [t,x,u]=r):ox (e7 (.int 0) t x u .non)=r:=by
 show lP _ _ _ _=_;rw[Cv (show zk ll _ _ _= .ok _ from rfl),Z4,v1,kj,v2,kj,v3,kj,h]
theorem re (h:n8 [t,u]=r):ox (e7 (.int 1) t x u .non)=r:=by
 show lP _ _ _ _=_;rw[BS (show zk ll _ _ _= .ok _ from rfl),zx,v1,kj,v3,kj,h]
theorem gE:nU 2= .ok (.str "no rule"):=by rfl
theorem vV:Xn [.tup [.str "sum",.int 1]]= .ex 2:=rfl
theorem gF (l:List T):lJ (.lst l) (.lst [])= .ok (!l.isEmpty):=by cases l <;> rfl
theorem Uf (h:g ts= .ok t):mv g ts= .ok t:=by unfold mv;rw[h];rfl
section
variable {k:Kd}{r:Ru}
def rk (k:Kd)(r:Ru):Nat->List T->List T
 | _,[]=>[]
 | n,x :: xs=>if kp r x=true then rk k r (n+1) xs else .tup [.int (k.wt x),.int (n:Int)] :: rk k r (n+1) xs
def nB (k:Kd)(r:Ru):Nat->List T->List (List Int)
 | _,[]=>[]
 | n,x :: xs=>if kp r x=true then nB k r (n+1) xs else [k.wt x,(n:Int)] :: nB k r (n+1) xs
theorem UR:∀(xs:List T) (n:Nat),uP (rk k r n xs)=some (nB k r n xs)
 | [],n=>rfl
 | x :: xs,n=>by
  unfold rk nB;split
  ·exact UR xs _
  ·show (match Zc _,uP _ with | some k,some a=>some _ | _,_=>none)=_
   rw[UR xs _];rfl
abbrev bs (r:Ru)(xs:List T):List T:=xs.filter λx=> !(kp r x)
theorem uj (all:List T):∀(xs:List T) (n:Nat) (b:T) (i:Nat),i < n->all[i]? =some b->(∀(j:Nat) (y:T),xs[j]? =some y->all[n+j]? =some y)->
  ∃p :Nat,wj [k.wt b,(i:Int)] (nB k r n xs)=[k.wt (jq (k.wt b) b ((bs r xs).map k.wt) (bs r xs)),(p :Int)]/\all[p]? =some (jq (k.wt b) b ((bs r xs).map k.wt) (bs r xs))
 | [],n,b,i,hi,g,_=>⟨i,rfl,g⟩
 | x :: xs,n,b,i,hi,g,d=>by
  have l:=by have:=d 0 x rfl;rwa[d_]at this
  have a :∀(j:Nat) (y:T),xs[j]? =some y->all[n+1+j]? =some y:=λj y e=>by have:=d (j+1) y (by simpa using e);rw[← this];congr 1;omega
  unfold nB
  by_cases f:kp r x=true
  ·rw[if_pos f];have e:bs r (x :: xs)=bs r xs:=by show h_ _ _=_;rw[d6,f];rfl
   rw[e];exact uj all xs _ b i (by omega) g a
  ·rw[if_neg f,wj];have o :=by simpa using f
   have e:bs r (x :: xs)=x :: bs r xs:=by show h_ _ _=_;rw[d6,o];rfl
   have q:Yf [k.wt x,(n)] [k.wt b,(i)]=decide (k.wt x < k.wt b):=by
    show (if k.wt x=k.wt b then (if (n:Int)=(i) then Yf [] [] else decide _) else decide _)=_
    by_cases d:k.wt x=k.wt b
    ·rw[if_pos d,if_neg (by omega),decide_eq_false (by omega),decide_eq_false (by omega)]
    ·rw[if_neg d]
   rw[q,e,aF,jq]
   by_cases c:k.wt x < k.wt b
   ·rw[decide_eq_true c,if_pos c];exact uj all xs _ x n (by omega) l a
   ·rw[decide_eq_false c,if_neg c];exact uj all xs _ b i (by omega) g a
theorem yN (all:List T):∀(xs:List T) (n:Nat),(∀(j:Nat) (y:T),xs[j]? =some y->all[n+j]? =some y)->
  match bs r xs with
  | []=>rk k r n xs=[]
  | t :: ts=>∃(i:Nat),Yg (.lst (rk k r n xs)) (.int 1)= .ok (.int (i:Int))/\rk k r n xs ≠ []/\all[i]? =some (jq (k.wt t) t (ts.map k.wt) ts)
 | [],n,_=>rfl
 | x :: xs,n,l=>by
  have g:=by have:=l 0 x rfl;rwa[d_]at this
  have d :∀(j:Nat) (y:T),xs[j]? =some y->all[n+1+j]? =some y:=λj y e=>by have:=l (j+1) y (by simpa using e);rw[← this];congr 1;omega
  by_cases a:kp r x=true
  ·have e:bs r (x :: xs)=bs r xs:=by show h_ _ _=_;rw[d6,a];rfl
   have v:rk k r n (x :: xs)=rk k r (n+1) xs:=by rw[rk,if_pos a]
   rw[e,v];exact yN all xs _ d
  ·have f :=by simpa using a
   have e:bs r (x :: xs)=x :: bs r xs:=by show h_ _ _=_;rw[d6,f];rfl
   rw[e];obtain⟨i,o,q⟩:=uj all xs _ x n (by omega) g d
   have p:rk k r n (x :: xs)= .tup [.int (k.wt x),.int (n)] :: rk k r (n+1) xs:=by rw[rk,if_neg a]
   refine⟨i, ?_,by rw[p];simp,q⟩
   show (match uP _ with | some (k :: w)=>lI _ 1 | _=> .bad)=_
   rw[UR];have u:nB k r n (x :: xs)=[k.wt x,(n)] :: nB k r (n+1) xs:=by rw[nB,if_neg a]
   rw[u];show lI _ 1=_;rw[o];rfl
theorem XU (a:k.Ok 3)(f:k.has x=true):lQ x (.lst (br k r))= .ok (!(kp r x)):=by
 obtain⟨b,g,d⟩:=XI (xC 2 k x a f) _ λy hy=>xC 2 k y a (JE.mp hy).1;show (match Ji (λy=>lw 30 y x) _ with | some b=>R.ok b | none=>R.bad)=_
 rw[g];have:b= !(kp r x):=by
  cases e:kp r x with
  | true=>
   cases b with
   | false=>rfl
   | true=>have:=(JE.mp (d.mp rfl)).2;rw[e]at this;cases this
  | false=>
   have:=d.mpr (JE.mpr ⟨f,e⟩);rw[this];rfl
 rw[this]
abbrev oF:En->R T:=zQ (z9 (za 2 (mv nO) (z9 (vE 2) (z9 (vE 1) (zd)))) (z9 (vE 0) (zd)))
theorem vW (e:k.Ok 3):∀(xs:List T) (n:Nat) (a b:Sl),(∀x∈xs,k.has x=true)->zy (zX 0 1) (zk lQ (vB 1) (vB 3)) oF ((xs.zipIdx n).map λp=>T.tup [.int (p.2:Nat),p.1]) [a,b,.vl k.t,.vl (.lst (br k r))]= .ok (rk k r n xs)
 | [],n,a,b,_=>rfl
 | x :: xs,n,a,b,g=>by
  have d:=g x ag;have i:=vW e xs (n+1) (.vl (.int (n))) (.vl x) λy hy=>g y (ac _ hy);have l:zk lQ (vB 1) (vB 3) [.vl (.int (n)),.vl x,.vl k.t,.vl (.lst (br k r))]= .ok (!(kp r x)):=by
   exact XU e d
  show (zk lQ _ _ [.vl _,.vl x,.vl k.t,.vl _]).bind _=_;rw[l];cases f:kp r x with
  | true=>
   show zy _ _ _ _ [.vl _,.vl x,.vl k.t,.vl _]=_;rw[i,rk,if_pos f]
  | false=>
   have j:oF [.vl (.int (n)),.vl x,.vl k.t,.vl (.lst (br k r))]= .ok _:=Ym (by rw[zx,v2,kj,v1,kj,Uf (wJ e d)]) rfl
   show (oF [.vl _,.vl x,.vl k.t,.vl _]).bind _=_;rw[j];show (zy _ _ _ _ [.vl _,.vl x,.vl k.t,.vl _]).bind _=_;rw[i,kj,rk,if_neg (by rw[f];decide)]
end
noncomputable def wL:Kd:= .row [.whole 0 19,.whole 1 6,.whole 0 4]
theorem xM:wL.Ok 3:=⟨by decide,by decide,λk a=>by
 simp only[aq,bG,or_false]at a;rcases a with rfl | rfl | rfl <;> exact⟨by decide,by decide,by decide⟩⟩
theorem vX:wL.all.length=600:=by decide+kernel
theorem vY (acc:List T)(x:T):lI (acc++[x]) (-1)= .ok x:=by
 unfold lI;have:mj (acc++[x]) (-1)=some x:=by
  unfold mj nY;have e:(-1+((acc.length:Int)+1)).toNat=acc.length:=by omega
  have h:(1:Int)<=(acc.length)+1:=by omega
  simp[h,e]
 rw[this]
section
variable {ns:List Int}{k:Kd}{r:Ru}{b a7 a8 a9 a10 a11 a12 a13 a14 a15:Sl}
abbrev le (ns:List Int)(k:Kd)(r:Ru)(a7 a8 a9 a10 a11 a12 a13 a14 a15:Sl):En:=[.vl (lx ns),.vl k.t,.vl r.t,.vl (.lst k.all),.vl (.lst (br k r)),.vl (.lst (rk k r 0 k.all)),.vl (oT (lb k r)),a7,a8,a9,a10,a11,a12,a13,a14,a15]
abbrev kC:En->R Bool:=ZW (Z8 (za 2 (rg 8) (z9 (vE 1) (z9 (vE 0) (zd)))))
theorem Co (a:k.Ok 3)(hr:jk 3 r){fi:En->R (List T)}{ρ:En}{xs:List T}(h:fi ρ= .ok xs)(f:jQ 1 [2] ρ=[.un,.vl r.t])(e:∀x∈xs,k.has x=true)(g:xs.length<=1000):zv fi (zq 0) kC (vE 0) 1 [2] ρ= .ok (.lst (xs.filter λx=> !(kp r x))):=by
 have i:lB=16777216:=rfl;rw[zE,h,kj,Zx xs (by omega) λt d=>⟨?_,by rfl⟩,kj]
 rw[f];show ZW _ [.vl t,.vl r.t]=_;rw[jt,ZK,zx,v1,kj,v0,kj,show rg 8 _=_ from jF (by omega) (xC 2 k t a (e t d)) 8 3 (by omega) r hr];rfl
theorem Cr (a:k.Ok 3)(hr:jk 3 r)(d:k.has x=true)(e:vE 1 ρ= .ok k.t)(h:f ρ= .ok x)(g:jQ 1 [2] ρ=[.un,.vl r.t]):zv (Zg (za 2 Xp (z9 (vE 1) (z9 f (zd))))) (zq 0) kC (vE 0) 1 [2] ρ= .ok (.lst (bl k r x)):=by
 refine Co a hr ?_ g (λy hy=>((nT 3 k a).dn x y d hy).1) (ja (by omega) a d)
 rw[Zt,zx,e,kj,h,kj,vP a d];rfl
abbrev B5:En->RS:=zi (uG 10 (zc li (vE 11) (cE (.int 0)))) (zr 11 (zv (Zg (za 2 Xp (z9 (vE 1) (z9 (nw 10 (Wv (cE (.int 1)))) (zd))))) (zq 0) kC (vE 0) 1 [2]))
theorem vZ (a:k.Ok 3)(hr:jk 3 r):∀(n:Nat) (x:T) (acc:List T) (d:Nat),k.has x=true->k.wt x<=(n:Int)->acc.length+n<=100000->n < d->∃l,Zr (zk lJ (vB 11) (Z7 (zd))) B5 d (le ns k r a7 a8 a9 (.ow (acc++[x])) (.vl (.lst (bl k r x))) a12 a13 a14 a15)= .nx (le ns k r a7 a8 a9 (.ow (acc++my k r n x)) l a12 a13 a14 a15)
 | n,x,acc,0,_,_,_,o=>by omega
 | n,x,acc,d+1,i,D,v,o=>by
  have u:lB=16777216:=rfl;cases e:bl k r x with
  | nil=>
   refine⟨.vl (.lst []), ?_⟩;have q:my k r n x=[x]:=by cases n with | zero=>rfl | succ n=>unfold my;rw[e]
   rw[Ue rfl,q]
  | cons y ys=>
   obtain⟨f,B,w⟩:=vT a i (by rw[e];exact ag)
   have hp:=(nT 3 k a).pos y f;obtain⟨m,rfl⟩:∃m,n=m+1:=⟨n - 1,by omega⟩
   obtain⟨l,p⟩:=vZ a hr m y (acc++[x]) d f (by omega) (by rw[az,aC];omega) (by omega)
   refine⟨l, ?_⟩;have j:uG 10 (zc li (vE 11) (cE (.int 0))) (le ns k r a7 a8 a9 (.ow (acc++[x])) (.vl (.lst (y :: ys))) a12 a13 a14 a15)= .nx (le ns k r a7 a8 a9 (.ow ((acc++[x])++[y])) (.vl (.lst (y :: ys))) a12 a13 a14 a15):=by
    rw[yB rfl (by rw[az,aC];omega) (A7 rfl)];rfl
   have g:zr 11 (zv (Zg (za 2 Xp (z9 (vE 1) (z9 (nw 10 (Wv (cE (.int 1)))) (zd))))) (zq 0) kC (vE 0) 1 [2]) (le ns k r a7 a8 a9 (.ow ((acc++[x])++[y])) (.vl (.lst (y :: ys))) a12 a13 a14 a15)= .nx (le ns k r a7 a8 a9 (.ow ((acc++[x])++[y])) (.vl (.lst (bl k r y))) a12 a13 a14 a15):=by
    rw[zC (Cr a hr f rfl (vY _ y) rfl)];rfl
   rw[yL (show _=R.ok _ from rfl) ((zb j).trans g),p];have:my k r (m+1) x=x :: my k r m y:=by rw[my,e]
   rw[this,bg];rfl
theorem Du (a:k.Ok 3)(e:k.has x=true)(d:kp r x=false):Pl 30 (.lst (ch k r x)):=
 Pl.le (n:=4) (by decide) (λy hy=>Yv 3 k y a (UQ a _ x e d y hy).1)
theorem Dx (e:k.Ok 3)(hr:jk 3 r)(d:k.has x=true):mf [.int 0,k.t,x,r.t]= .ok (if kp r x=true then .str "no worth" else .lst (ch k r x)):=by
 cases a:kp r x with
 | true=>rw[if_pos rfl,JF (by decide) (o9 (xL e hr d a)),Cw]
 | false=>rw[if_neg aA,XT (o9 (F9 e hr d a))]
theorem V0 (a:k.Ok 3)(d:k.has x=true):Wx x (.lst (br k r))= .ok (kp r x):=by
 unfold Wx;rw[XU a d,kj,Bool.not_not]
abbrev B7:En->RS:=lu (lY (zk lJ (vB 9) (vB 10)) (zk mG (za 2 nO (z9 (vE 1) (z9 (nw 10 (Wv (cE (.int 1)))) (zd)))) (za 2 nO (z9 (vE 1) (z9 (vE 6) (zd)))))) (zo (cE (.bl false))) (lq)
theorem Ea (a:k.Ok 3)(f:k.has x=true)(e:kp r x=false):B7 (le ns k r a7 a8 (.vl (.lst (ch k r x))) (.ow (ch k r x)) a11 a12 a13 a14 a15)= .nx (le ns k r a7 a8 (.vl (.lst (ch k r x))) (.ow (ch k r x)) a11 a12 a13 a14 a15):=by
 refine zj ?_;rcases List.eq_nil_or_concat (ch k r x) with h | ⟨g,z,h⟩
 ·exact absurd h (Db _ x)
 ·obtain⟨j,d⟩:=UQ a _ x f e z (by rw[show my k r _ x=_ from h];simp)
  cases i:lb k r with
  | none=>have:=gC.mp i x f;rw[e]at this;cases this
  | some m=>
   obtain⟨q,w,o⟩:=vQ i;have v:zk lJ (vB 9) (vB 10) (le ns k r a7 a8 (.vl _) (.ow _) a11 a12 a13 a14 a15)= .ok _:=QZ (Du a f e);have u:zk mG (za 2 nO (z9 (vE 1) (z9 (nw 10 (Wv (cE (.int 1)))) (zd)))) (za 2 nO (z9 (vE 1) (z9 (vE 6) (zd)))) (le ns k r a7 a8 (.vl (.lst (ch k r x))) (.ow (ch k r x)) a11 a12 a13 a14 a15)= .ok false:=by
    have p:nw 10 (Wv (cE (.int 1))) (le ns k r a7 a8 (.vl (.lst (ch k r x))) (.ow (ch k r x)) a11 a12 a13 a14 a15)= .ok z:=by
     show lI _ _=_;rw[h];simpa using vY g z
    have l:vE 6 (le ns k r a7 a8 (.vl (.lst (ch k r x))) (.ow (ch k r x)) a11 a12 a13 a14 a15)= .ok m:=by
     show R.ok _=_;rw[i];rfl
    rw[zA,zx,v1,kj,p,kj,wJ a j,kj,zx,v1,kj,l,kj,wJ a q];show R.ok _=_;rw[decide_eq_false (by have:=o z j d;omega)]
   show (zk lJ _ _ _).bind _=_;rw[v,kj,if_neg aA,u]
abbrev CB:En->RS:=lu (zk Wx (vB 8) (vB 4)) (lu (zk lJ (vB 9) (cE (.str "no worth"))) (zo (cE (.bl false))) (lq)) (zi (wR 10 (z9 (vE 8) (zd))) (zi (zr 11 (zv (Zg (za 2 Xp (z9 (vE 1) (z9 (vE 8) (zd))))) (zq 0) kC (vE 0) 1 [2])) (zi (Zr (zk lJ (vB 11) (Z7 (zd))) B5 (1000000)) B7)))
theorem Dt (a:k.Ok 3)(hr:jk 3 r)(d:k.has x=true):∃g e,CB (le ns k r a7 (.vl x) (.vl (if kp r x=true then .str "no worth" else .lst (ch k r x))) a10 a11 a12 a13 a14 a15)= .nx (le ns k r a7 (.vl x) (.vl (if kp r x=true then .str "no worth" else .lst (ch k r x))) g e a12 a13 a14 a15):=by
 cases f:kp r x with
 | true=>
  refine⟨a10,a11, ?_⟩;show lu _ _ _ _=_;rw[jV (show zk Wx (vB 8) (vB 4) (le ns k r a7 (.vl x) _ a10 a11 a12 a13 a14 a15)= .ok _ from (V0 a d).trans (by rw[f]))]
  exact zj rfl
 | false=>
  rw[if_neg aA];obtain⟨w1,w2⟩:=pM a d;obtain⟨l,i⟩:=vZ a hr (k.wt x).toNat x [] 1000000 d (by omega) (by simp;omega) (by omega)
  rw[bN]at i;refine⟨.ow (ch k r x),l, ?_⟩;show lu _ _ _ _=_;rw[pj (show zk Wx (vB 8) (vB 4) (le ns k r a7 (.vl x) _ a10 a11 a12 a13 a14 a15)= .ok _ from (V0 a d).trans (by rw[f]))]
  have o:wR 10 (z9 (vE 8) (zd)) (le ns k r a7 (.vl x) (.vl (.lst (ch k r x))) a10 a11 a12 a13 a14 a15)= .nx (le ns k r a7 _ _ _ a11 a12 a13 a14 a15):=rfl;have j:zr 11 (zv (Zg (za 2 Xp (z9 (vE 1) (z9 (vE 8) (zd))))) (zq 0) kC (vE 0) 1 [2]) (le ns k r a7 (.vl x) (.vl (.lst (ch k r x))) (.ow [x]) a11 a12 a13 a14 a15)= .nx (le ns k r a7 (.vl x) (.vl (.lst (ch k r x))) (.ow [x]) (.vl (.lst (bl k r x))) a12 a13 a14 a15):=by
   rw[zC (Cr a hr d rfl rfl rfl)];rfl
  rw[zb o,zb j,zb i];exact Ea a d f
abbrev fB:En->RS:=zi (zr 8 (zc li (vE 3) (za 3 lT (z9 (vE 0) (z9 (zc zn (cE (.int 4500)) (vE 7)) (z9 (lj zM (vB 3)) (zd))))))) (zi (zr 9 (za 4 mf (z9 (cE (.int 0)) (z9 (vE 1) (z9 (vE 8) (z9 (vE 2) (zd))))))) CB)
theorem Fk (e:k.Ok 3)(hr:jk 3 r)(i:Nat)(hi:i < 100):∃l q a d,fB (le ns k r (.vl (.int (i:Int))) a8 a9 a10 a11 a12 a13 a14 a15)= .nx (le ns k r (.vl (.int (i:Int))) l q a d a12 a13 a14 a15):=by
 obtain⟨p,hp,u,v⟩:=zI ns (4500+(i)) (k.all.length) (by omega) (by have:=ZH 3 k e;omega)
 obtain⟨x,j,o⟩:=su u v;have f:=(ZT k x).mp o;obtain⟨a,d,h⟩:=Dt e hr f;refine⟨.vl x,.vl (if kp r x=true then .str "no worth" else .lst (ch k r x)),a,d, ?_⟩
 have g:zc zn (cE (.int 4500)) (vE 7) (le ns k r (.vl (.int (i))) a8 a9 a10 a11 a12 a13 a14 a15)= .ok (.int (4500+(i))):=by
  rfl
 have y:zr 8 (zc li (vE 3) (za 3 lT (z9 (vE 0) (z9 (zc zn (cE (.int 4500)) (vE 7)) (z9 (lj zM (vB 3)) (zd)))))) (le ns k r (.vl (.int (i))) a8 a9 a10 a11 a12 a13 a14 a15)= .nx (le ns k r (.vl (.int (i))) (.vl x) a9 a10 a11 a12 a13 a14 a15):=by
  rw[zC]
  ·rfl
  ·rw[ze,v3,kj,Z4,v0,kj,g,kj,show lj _ _ _=R.ok _ from rfl,kj,hp,kj,j]
 have w:zr 9 (za 4 mf (z9 (cE (.int 0)) (z9 (vE 1) (z9 (vE 8) (z9 (vE 2) (zd)))))) (le ns k r (.vl (.int (i))) (.vl x) a9 a10 a11 a12 a13 a14 a15)= .nx (le ns k r (.vl (.int (i))) (.vl x) (.vl (if kp r x=true then .str "no worth" else .lst (ch k r x))) a10 a11 a12 a13 a14 a15):=by
  rw[zC]
  ·rfl
  ·exact Dx e hr f
 show zi _ _ _=_;rw[zb y,zb w,h]
theorem XV (p:k.Ok 3)(hr:jk 3 r):∀(e:List Nat) (a7 a8 a9 a10 a11:Sl),(∀i∈e,i < 100)->∃B g l a d,Zv (zq 7) fB (e.map λ(i:Nat)=>T.int (i:Int)) (le ns k r a7 a8 a9 a10 a11 a12 a13 a14 a15)= .nx (le ns k r B g l a d a12 a13 a14 a15)
 | [],a7,a8,a9,a10,a11,_=>⟨a7,a8,a9,a10,a11,rfl⟩
 | i :: e,a7,a8,a9,a10,a11,h=>by
  obtain⟨g,l,a,d,v⟩:=Fk p hr i (h i ag);obtain⟨q,y,u,o,f,w⟩:=XV p hr e _ g l a d λj x=>h j (ac _ x);refine⟨q,y,u,o,f, ?_⟩;rw[aF,jL rfl v,w]
end
section
abbrev l5 (ns:List Int)(k:Kd)(r:Ru):En:=[.vl (lx ns),.vl k.t,.vl r.t,.vl (.lst k.all),.vl (.lst (br k r)),.un,.un,.un,.un,.un,.un,.un,.un,.un,.un,.un]
abbrev l6 (ns:List Int)(k:Kd)(r:Ru):En:=[.vl (lx ns),.vl k.t,.vl r.t,.vl (.lst k.all),.vl (.lst (br k r)),.vl (.lst (rk k r 0 k.all)),.un,.un,.un,.un,.un,.un,.un,.un,.un,.un]
theorem q5 (a:k.Ok 3)(j:k.all.length<=60):zr 5 (zv (Y8 (vE 3)) (zX 0 1) (zk lQ (vB 1) (vB 3)) oF 2 [1,4]) (l5 ns k r)= .nx (l6 ns k r):=by
 rw[zC]
 ·rfl
 ·have i:lB=16777216:=rfl;have e:Y8 (vE 3) (l5 ns k r)= .ok _:=rfl;have d:zy _ _ oF (jb _) (jQ 2 [1,4] (l5 ns k r))= .ok _:=vW a _ 0 .un .un λx f=>(ZT k x).mp f;rw[zE,e,kj];have g:zp (zX 0 1) (zk lQ (vB 1) (vB 3)) oF 2 [1,4] (l5 ns k r) (jb k.all)= .ok (rk k r 0 k.all):=by
   unfold zp;rw[if_pos (by unfold jb;rw[ah,eY];omega),d];rfl
  rw[g,kj]
theorem q6:zr 6 (lP (zk lJ (vB 5) (Z7 (zd))) (zc li (vE 3) (zc Yg (vB 5) (cE (.int 1)))) (cE .non)) (l6 ns k r)= .nx (le ns k r .un .un .un .un .un .un .un .un .un):=by
 rw[zC]
 ·rfl
 ·have h:=yN (k:=k) (r:=r) k.all _ 0 (λj y e=>by rw[eA];exact e)
  have a:zk lJ (vB 5) (Z7 (zd)) (l6 ns k r)= .ok _:=gF _;unfold lb;cases e:br k r with
  | nil=>
   rw[show bs r _=[] from e]at h;rw[show rk k r 0 _=[] from h]at a;rw[BS a];rfl
  | cons t ts=>
   rw[show bs r _=t :: ts from e]at h;obtain⟨i,l,f,d⟩:=h;have:(rk k r 0 k.all).isEmpty=false:=by cases g:rk k r 0 _ with | nil=>exact absurd g f | cons _ _=>rfl
   rw[this]at a;rw[Cv a,ze,show vE 3 _= .ok _ from rfl,kj,show zc Yg (vB 5) (cE (.int 1)) (l6 ns k r)= .ok _ from l,kj,Qw d];rfl
theorem q7 (a:k.Ok 3)(f:k.all.length<=60)(hr:jk 3 r):zk lJ (za 4 mf (z9 (cE (.int 1)) (z9 (vE 1) (z9 (cE .non) (z9 (vE 2) (zd)))))) (vB 6) (le ns k r a7 a8 a9 a10 a11 a12 a13 a14 a15)= .ok false:=by
 have h:=XT (x:= .non) (re (xK a (by omega) hr))
 have e:za 4 mf (z9 (cE _) (z9 (vE 1) (z9 (cE _) (z9 (vE 2) (zd))))) (le ns k r a7 a8 a9 a10 a11 a12 a13 a14 a15)= .ok _:=h;rw[zA,e,show vB 6 _= .ok _ from rfl];refine QZ ?_;cases d:lb k r with
 | none=>trivial
 | some x=>exact Pl.le (by decide) (Yv 3 k x a (vQ d).1)
noncomputable abbrev nD:T:= .tup [.str "sum",.int 1]
theorem F6 (a:k.Ok 3)(hr:jk 3 r)(x:T):JZ (zk Wx (vB 13) (vB 3)) (zk lJ (za 4 mf (z9 (cE (.int 0)) (z9 (vE 1) (z9 (vE 13) (z9 (vE 2) (zd)))))) (cE (.str "no worth"))) (le ns k r a7 a8 a9 a10 a11 a12 (.vl x) a14 a15)= .ok false:=by
 obtain⟨b,g,f⟩:=gj a x;rw[WP,show zk Wx (vB 13) (vB 3) (le ns k r a7 a8 a9 a10 a11 a12 (.vl x) a14 a15)= .ok b from g];cases b with
 | false=>rfl
 | true=>
  have i:nK [k.t,x]= .ex 1:=by rw[Zn a,if_neg (by rw[f rfl];decide)]
  have d:mf [.int 0,k.t,x,r.t]= .ok (.str "no worth"):=by rw[JF (by decide) (o9 (XQ hr i)),Cw]
  have e:za 4 mf (z9 (cE _) (z9 (vE 1) (z9 (vE 13) (z9 (vE 2) (zd))))) (le ns k r a7 a8 a9 a10 a11 a12 (.vl x) a14 a15)= .ok _:=d;rw[zA,e];rfl
theorem Da (hr:jk 3 r):zk lJ (Z7 (z9 (za 4 mf (z9 (cE (.int 1)) (z9 (vE 12) (z9 (cE .non) (z9 (vE 2) (zd)))))) (z9 (za 4 mf (z9 (cE (.int 1)) (z9 (vE 12) (z9 (cE .non) (z9 (vE 14) (zd)))))) (zd)))) (Z7 (z9 (cE (.str "too many")) (z9 (cE (.str "no rule")) (zd)))) (le ns k r a7 a8 a9 a10 a11 (.vl wL.t) a13 (.vl nD) a15)= .ok false:=by
 have d:mf [.int 1,wL.t,.non,r.t]= .ok (.str "too many"):=by
  rw[JF (by decide) (re (XS hr (wW xM (by rw[vX];decide)))),FF]
 have a:mf [.int 1,wL.t,.non,nD]= .ok (.str "no rule"):=by
  rw[JF (by decide) (re (XR vV)),gE]
 rw[zA,Ba (by exact d) (by exact a)]
 rfl
theorem EL (x:T):zk lJ (zv (zO (cE (.int 2))) (zq 0) (Z9) (za 4 (mv mf) (z9 (vE 0) (z9 (zQ (z9 (cE (.str "whole")) (zd))) (z9 (vE 1) (z9 (vE 2) (zd)))))) 1 [13,14]) (zc zY (Z7 (z9 (cE (.str "no rule")) (zd))) (cE (.int 2))) (le ns k r a7 a8 a9 a10 a11 a12 (.vl x) (.vl nD) a15)= .ok false:=by
 have d:mf [.int 0,.tup [.str "whole"],x,nD]= .ok (.str "no rule"):=by rw[JF (by decide) (o9 (EZ vV x)),gE]
 have f:mf [.int 1,.tup [.str "whole"],x,nD]= .ok (.str "no rule"):=by rw[JF (by decide) (re (XR vV)),gE]
 have e:zv (zO (cE (.int 2))) (zq 0) (Z9) (za 4 (mv mf) (z9 (vE 0) (z9 (zQ (z9 (cE (.str "whole")) (zd))) (z9 (vE 1) (z9 (vE 2) (zd)))))) 1 [13,14] (le ns k r a7 a8 a9 a10 a11 a12 (.vl x) (.vl nD) a15)= .ok (.lst [.str "no rule",.str "no rule"]):=by
  rw[zE,show zO _ _=R.ok [.int 0,.int 1] from rfl,kj];rw[zP (h:=λ_=> .str _) _ (by decide) λt a=> ?_]
  ·rfl
  ·show mv _ _=_;simp only[aq,bG,or_false]at a;rcases a with rfl | rfl
   ·exact Uf d
   ·exact Uf f
 rw[zA,e];rfl
theorem DX (hr:jk 3 r)(a:sOk bad):nz (za 2 (sC 12) (z9 (vE 15) (z9 (cE (.int 3)) (zd)))) (ZQ ll (zv (zO (cE (.int 2))) (zq 0) (Z9) (za 4 (mv mf) (z9 (vE 0) (z9 (vE 2) (z9 (cE .non) (z9 (vE 1) (zd)))))) 1 [2,15]) (zc zY (Z7 (z9 (cE (.str "no kind")) (zd))) (cE (.int 2)))) (frz (le ns k r a7 a8 a9 a10 a11 a12 a13 a14 (.vl bad)))= .ok (.bl true):=by
 generalize d:frz _=ρ;have f:vE 15 ρ= .ok bad:=by rw[← d];rfl
 have l:jQ 1 [2,15] ρ=[.un,.vl r.t,.vl bad]:=by rw[← d];rfl
 unfold nz;rw[zx,f,kj,zK,kj,wT bad a];cases e:md 3 bad with
 | true=>rfl
 | false=>
  have j:mf [.int 0,bad,.non,r.t]= .ok (.str "no kind"):=by rw[JF (by decide) (o9 (XQ hr (u8 a e _))),Cs]
  have i:mf [.int 1,bad,.non,r.t]= .ok (.str "no kind"):=by rw[JF (by decide) (re (XS hr (ua a e))),Cs]
  have o:zv (zO (cE (.int 2))) (zq 0) (Z9) (za 4 (mv mf) (z9 (vE 0) (z9 (vE 2) (z9 (cE .non) (z9 (vE 1) (zd)))))) 1 [2,15] ρ= .ok (.lst [.str "no kind",.str "no kind"]):=by
   show ((zp _ _ _ _ _ _ [.int 0,.int 1]).bind _)=_;rw[zP (h:=λ_=> .str _) _ (by decide) λt g=> ?_]
   ·rfl
   ·rw[l];show mv _ _=_;simp only[aq,bG,or_false]at g;rcases g with rfl | rfl
    ·exact Uf j
    ·exact Uf i
  rw[Za,o];rfl
end
theorem law_ok (ns:List Int)(h:ns.length<=63):nQ [.fz (ns.map T.int)]= .ok (.bl true):=by
 obtain⟨k,e,D,G⟩:=xv ns 0 (by omega) 60 (by omega)
 have hi:=U5 3 k e;obtain⟨r,P,hr⟩:=ue ns 8 3 (by omega) (by omega) 4000 (by omega)
 obtain⟨u,o,Q⟩:=U0 ns 6100 (by omega) (by omega) (by decide) (Jc 3 k.t hi)
 have q:=Q.so;have B:=ZH 3 k e;obtain⟨w,N,hm⟩:=su (xs:=k.all) (i:=0) (by omega) (by omega)
 obtain⟨l,y,Z⟩:=U0 ns 6000 (by omega) (by omega) (by decide) (wC 3 k w e ((ZT k w).mp hm))
 have K:zr 1 (za 3 pQ (z9 (vE 0) (z9 (cE (.int 0)) (z9 (cE (.int 60)) (zd))))) [.vl (lx ns),.un,.un,.un,.un,.un,.un,.un,.un,.un,.un,.un,.un,.un,.un,.un]= .nx [.vl (lx ns),.vl k.t,.un,.un,.un,.un,.un,.un,.un,.un,.un,.un,.un,.un,.un,.un]:=by
  rw[zC (t:=k.t)]
  ·rfl
  ·exact G
 have I:zr 2 (za 3 (BL 8) (z9 (vE 0) (z9 (cE (.int 4000)) (z9 (cE (.int 3)) (zd))))) [.vl (lx ns),.vl k.t,.un,.un,.un,.un,.un,.un,.un,.un,.un,.un,.un,.un,.un,.un]= .nx [.vl (lx ns),.vl k.t,.vl r.t,.un,.un,.un,.un,.un,.un,.un,.un,.un,.un,.un,.un,.un]:=by
  rw[zC (t:=r.t)]
  ·rfl
  ·exact P
 have S:zr 3 (za 1 (m8 8) (z9 (vE 1) (zd))) [.vl (lx ns),.vl k.t,.vl r.t,.un,.un,.un,.un,.un,.un,.un,.un,.un,.un,.un,.un,.un]= .nx [.vl (lx ns),.vl k.t,.vl r.t,.vl (.lst k.all),.un,.un,.un,.un,.un,.un,.un,.un,.un,.un,.un,.un]:=by
  rw[zC (t:= .lst k.all)]
  ·rfl
  ·exact QE 3 8 (by omega) (by omega) k e (by omega)
 have U:zr 4 (zv (Zg (vE 3)) (zq 0) kC (vE 0) 1 [2]) [.vl (lx ns),.vl k.t,.vl r.t,.vl (.lst k.all),.un,.un,.un,.un,.un,.un,.un,.un,.un,.un,.un,.un]= .nx (l5 ns k r):=by
  rw[zC (Co e hr (xs:=k.all) rfl rfl (λx J=>(ZT k x).mp J) (by omega))];rfl
 obtain⟨j,g,f,d,a,hf⟩:=XV (ns:=ns) (a12:= .un) (a13:= .un) (a14:= .un) (a15:= .un) e hr [0,1,2,3] .un .un .un .un .un (by decide)
 have O:j5 (zO (cE (.int 4))) (zq 7) fB _= .nx _:=hf;have M:zr 12 (zQ (z9 (cE (.str "row")) (z9 (zQ (z9 (zQ (z9 (cE (.str "whole")) (z9 (cE (.int 0)) (z9 (cE (.int 19)) (zd))))) (z9 (zQ (z9 (cE (.str "whole")) (z9 (cE (.int 1)) (z9 (cE (.int 6)) (zd))))) (z9 (zQ (z9 (cE (.str "whole")) (z9 (cE (.int 0)) (z9 (cE (.int 4)) (zd))))) (zd))))) (zd)))) (le ns k r j g f d a .un .un .un .un)= .nx (le ns k r j g f d a (.vl wL.t) .un .un .un):=by
  rw[zC]
  ·rfl
  ·rfl
 have p:rH (zQ (z9 (za 3 gS (z9 (vE 0) (z9 (cE (.int 6000)) (z9 (zc li (vE 3) (cE (.int 0))) (zd))))) (z9 (zQ (z9 (cE (.str "sum")) (z9 (cE (.int 1)) (zd)))) (zd)))) (zX 13 14) (le ns k r j g f d a (.vl wL.t) .un .un .un)= .nx (le ns k r j g f d a (.vl wL.t) (.vl l) (.vl nD) .un):=by
  have X:zc li (vE 3) (cE (.int 0)) (le ns k r j g f d a (.vl wL.t) .un .un .un)= .ok w:=N;unfold rH;rw[Ym (by rw[Z4,v0,kj,zK,kj,X,kj,y]) rfl]
  rfl
 have v:zr 15 (za 3 gS (z9 (vE 0) (z9 (cE (.int 6100)) (z9 (vE 1) (zd))))) (le ns k r j g f d a (.vl wL.t) (.vl l) (.vl nD) .un)= .nx (le ns k r j g f d a (.vl wL.t) (.vl l) (.vl nD) (.vl u)):=by
  rw[zC]
  ·rfl
  ·rw[Z4,v0,kj,zK,kj,v1,kj,o]
 show zh (sR _ _ _ _ _ _ _ _ _ _ [.vl _,.un,.un,.un,.un,.un,.un,.un,.un,.un,.un,.un,.un,.un,.un,.un])=_;rw[sR,zb K,zb I,zb S,zb U,zb (q5 e D),zb q6,zb (zj (q7 e D hr)),zb O,zb M,zb p,zb (zj (F6 e hr l)),zb (zj (Da hr)),zb (zj (EL l)),zb v,vS];exact DX hr q
end G
namespace G
open PySem PySem.Spec PyProof.Rows L2 PV
noncomputable def lD (i:Nat):Stmt:=PySem.Challenge.pw_worthkinds_k51_whole_least_breaking.main.body.getD i (.Pass ⟨0,0,0,0⟩)
set_option genInjectivity false in
set_option genSizeOf false in
structure Tx (K:aj) (mg:Str->Option Value):Prop where
 C_1n:FE K mg "_law_cell" (lD 63) ["_law_script","_law_k"]
 C_3:FE K mg "_law_pick" (lD 64) ["_law_script","_law_k","_law_many"]
 C_1b:FE K mg "_law_word_of" (lD 65) ["_law_script","_law_at_here"]
 C_1e:FE K mg "_law_leaf_kind" (lD 66) ["_law_script","_law_at_here"]
 C_o:FE K mg "_law_kind" (lD 67) ["_law_script","_law_at_here","_law_deep"]
 C_p:FE K mg "_law_rows_of" (lD 69) ["_law_lists"]
 C_6:FE K mg "_law_all" (lD 68) ["_law_kind_here"]
 C_l:FE K mg "_law_size" (lD 70) ["_law_kind_here"]
 C_1i:FE K mg "_law_small" (lD 71) ["_law_script","_law_at_here","_law_most"]
 C_t:FE K mg "_law_rule" (lD 79) ["_law_script","_law_at_here","_law_deep"]
 C_u:FE K mg "_law_leaves" (lD 80) ["_law_worth"]
 C_d:FE K mg "_law_keeps" (lD 81) ["_law_rule_here","_law_worth"]
 C_g:FE K mg "is_whole" (lD 14) ["thing"]
 C_1p:FE K mg "is_span" (lD 17) ["low","high","least","most"]
 C_k:FE K mg "is_tuple_of" (lD 15) ["thing","least","most"]
 C_8:FE K mg "is_word" (lD 16) ["thing"]
 C_1j:FE K mg "is_choice" (lD 20) ["thing"]
 C_1g:FE K mg "are_choices" (lD 19) ["thing"]
 C_b:FE K mg "is_kind_within" (lD 18) ["thing","levels"]
 C_1v:FE K mg "are_kinds_within" (lD 21) ["thing","levels"]
 C_1:FE K mg "is_kind" (lD 10) ["thing"]
 C_y:FE K mg "need_kind" (lD 12) ["kind"]
 C_c:FE K mg "words_of_pick" (lD 22) ["kind"]
 C_i:FE K mg "has_worth" (lD 23) ["kind","thing"]
 C_1s:FE K mg "have_parts" (lD 24) ["kinds","parts"]
 C_15:FE K mg "is_worth" (lD 11) ["kind","thing"]
 C_s:FE K mg "need_worth" (lD 13) ["kind","worth"]
 C_w:FE K mg "nearest_to_nought" (lD 55) ["kind"]
 C_5:FE K mg "weight_within" (lD 60) ["kind","worth"]
 C_18:FE K mg "weight_of_parts" (lD 61) ["kinds","parts"]
 C_2:FE K mg "weight" (lD 50) ["kind","worth"]
 C_1m:FE K mg "is_bound" (lD 40) ["thing"]
 C_v:FE K mg "is_rule_within" (lD 39) ["thing","levels"]
 C_e:FE K mg "is_rule" (lD 37) ["thing"]
 C_11:FE K mg "need_rule" (lD 38) ["rule"]
 C_q:FE K mg "leaves_of" (lD 44) ["worth"]
 C_1l:FE K mg "numbers_in" (lD 45) ["worth"]
 C_1o:FE K mg "parts_of" (lD 43) ["worth"]
 C_1q:FE K mg "are_rising" (lD 46) ["numbers"]
 C_1r:FE K mg "are_unlike" (lD 47) ["parts"]
 C_1f:FE K mg "is_single_kept" (lD 42) ["rule","worth"]
 C_7:FE K mg "is_kept" (lD 41) ["rule","worth"]
 C_1h:FE K mg "number_less" (lD 56) ["kind","number"]
 C_1k:FE K mg "word_less" (lD 57) ["kind","word"]
 C_9:FE K mg "shorter" (lD 58) ["kind","worth"]
 C_f:FE K mg "one_step_less" (lD 54) ["kind","worth"]
 C_1t:FE K mg "parts_less" (lD 59) ["kinds","parts"]
 C_1a:FE K mg "breaking_less" (lD 53) ["kind","worth","rule"]
 C_z:FE K mg "led_down" (lD 51) ["kind","worth","rule"]
 C_4:FE K mg "count_of" (lD 28) ["kind"]
 C_19:FE K mg "count_of_parts" (lD 29) ["kinds"]
 C_10:FE K mg "count_shorter" (lD 30) ["kind","length"]
 C_n:FE K mg "worth_at" (lD 31) ["kind","number"]
 C_1u:FE K mg "many_at" (lD 32) ["kind","number"]
 C_1c:FE K mg "parts_at" (lD 33) ["kinds","number"]
 C_13:FE K mg "all_worths" (lD 27) ["kind"]
 C_x:FE K mg "least_breaking" (lD 52) ["kind","rule"]
 C_m:FE K mg "_law_word" (lD 82) ["_law_kept"]
 C_h:FE K mg "_law_tried" (lD 83) ["_law_what","_law_kind_here","_law_worth","_law_rule_here"]
 C_16:FE K mg "lesser" (lD 49) ["kind","worth"]
 C_r:FE K mg "_law_places" (lD 75) ["_law_thing"]
 C_1d:FE K mg "_law_at" (lD 76) ["_law_thing","_law_place"]
 C_a:FE K mg "_law_put" (lD 77) ["_law_thing","_law_place","_law_new"]
 C_17:FE K mg "_law_spoilt_thing" (lD 78) ["_law_script","_law_at_here","_law_thing"]
 C_12:FE K mg "_law_whole" (lD 72) ["_law_thing","_law_low","_law_high"]
 C_14:FE K mg "_law_is_word" (lD 73) ["_law_thing"]
 C_j:FE K mg "_law_is_kind" (lD 74) ["_law_thing","_law_deep"]
 C_0:FE K mg "law" (lD 84) ["_law_script"]
 z:∀x,(["ValueError","abs","all","any","bool","enumerate","int","isinstance","len","list","max","min","range","reversed","set","sorted","str","sum","tuple","zip"]:List Str).contains x=true->mg x=none
 c_DEEPEST:∃u,mg "DEEPEST"=some u/\∃t,u=Value.int 3 t
 c_DEEPEST_RULE:∃u,mg "DEEPEST_RULE"=some u/\∃t,u=Value.int 3 t
 c_FARTHEST_BOUND:∃u,mg "FARTHEST_BOUND"=some u/\∃t,u=Value.int 50 t
 c_MOST_TOLD:∃u,mg "MOST_TOLD"=some u/\∃t,u=Value.int 500 t
noncomputable abbrev XW:List Value:=[.type "ValueError",.type "Exception",.type "BaseException",.type "object"]
set_option genInjectivity false in
set_option genSizeOf false in
structure Tq (K:aj) (mg:Str->Option Value) (base:Heap) (cl:Nat->Value) where
 (q_Ended q_NoKind q_NoRule q_NoText q_NoWorth q_TooMany q_WorthError:Addr)
 X_k:Bf K cl okX
 e_WorthError:∀c,okX c=true->PySem.W.exmOne K (cl c) (.ref q_WorthError)=some true
 l_NoKind:cl 0= .ref q_NoKind
 l_NoRule:cl 2= .ref q_NoRule
 l_NoWorth:cl 1= .ref q_NoWorth
 l_TooMany:cl 3= .ref q_TooMany
 m_Ended:mg "Ended"=some (.ref q_Ended)
 m_NoKind:mg "NoKind"=some (.ref q_NoKind)
 m_NoRule:mg "NoRule"=some (.ref q_NoRule)
 m_NoText:mg "NoText"=some (.ref q_NoText)
 m_NoWorth:mg "NoWorth"=some (.ref q_NoWorth)
 m_TooMany:mg "TooMany"=some (.ref q_TooMany)
 m_WorthError:mg "WorthError"=some (.ref q_WorthError)
 o_NoKind:OwnCls "NoKind" q_NoKind XW "ValueError.__new__" mg base
 o_NoRule:OwnCls "NoRule" q_NoRule XW "ValueError.__new__" mg base
 o_NoWorth:OwnCls "NoWorth" q_NoWorth XW "ValueError.__new__" mg base
 o_TooMany:OwnCls "TooMany" q_TooMany XW "ValueError.__new__" mg base
 t_Ended:∀c,okX c=true->aW K (cl c) (.ref q_Ended)=some (wl c)
 t_NoKind:∀c,okX c=true->aW K (cl c) (.ref q_NoKind)=some (Jp c)
 t_NoRule:∀c,okX c=true->aW K (cl c) (.ref q_NoRule)=some (Jq c)
 t_NoText:∀c,okX c=true->aW K (cl c) (.ref q_NoText)=some (Jr c)
 t_NoWorth:∀c,okX c=true->aW K (cl c) (.ref q_NoWorth)=some (jS c)
 t_TooMany:∀c,okX c=true->aW K (cl c) (.ref q_TooMany)=some (jT c)
 t_ValueError:∀c,okX c=true->aW K (cl c) (.type "ValueError")=some (j6 c)
section
variable {Z:Zz}{Pt:Addr}(tx:Tx Z.K Z.mg)(xq:Tq Z.K Z.mg Z.base Z.cl)
include tx xq
set_option hygiene false
local macro_rules | `(tactic| gp_on)=> `(tactic| first
  | (show ul _ _ _ _;first
   | refine xW ?_ ?_
   | exact GB)
  | (show Snd _ _ (.Name ..) _;first
   | exact Fv _ (pv _)
   | exact tx.c_FARTHEST_BOUND.elim λ_ h=>WC (by rfl) h.1 h.2
   | exact tx.c_DEEPEST.elim λ_ h=>WC (by rfl) h.1 h.2
   | exact tx.c_DEEPEST_RULE.elim λ_ h=>WC (by rfl) h.1 h.2
   | exact tx.c_MOST_TOLD.elim λ_ h=>WC (by rfl) h.1 h.2)
  | (show Snd _ _ (.Constant ..) _;first
   | exact FP
   | exact GA
   | exact AV
   | exact Fe)
  | (show w4 _ _ _ _;first
   | refine GQ ?_ ?_
   | exact D8
   | refine F3 ?_)
  | (show jn _ _ _ _;first
   | exact Gz _ (pv _)
   | refine Snd.b ?_)
  | (show wQ _ _ _ _;first
   | refine Em ?_
   | refine D1 ?_ ?_ ?_
   | refine GR nd (by rfl) (.inl (by rfl)) ?_
   | refine Cp la (by rfl) ?_ ?_ ?_
   | refine GS nd (by rfl) (.inl (by rfl)) ?_
   | refine Xc (Au hy (by kernel_rfl) (by kernel_rfl) (by rfl) ?_ (λ_ hy _ _ _ _ _ _=> ?_) (λ_ hy _ _ _ _ _ _ _ hp=> ?_)) nd (by rfl) (.inl (by rfl)) (by rfl)
   | refine GR nd (by rfl) (.inr (by rfl)) ?_
   | refine GT ?_
   | refine Ew (pv _) ?_
   | refine Fh (pv _) ?_
   | exact WD (c:=_) xq.o_NoWorth bq (by decide) bq hE (by rw[hy];exact xq.l_NoWorth) (by rfl)
   | refine qz (n:=_) iF ?_ ?_
   | exact A0 (pv _) nd (by rfl) (.inl (by rfl))
   | exact WD (c:=_) xq.o_NoKind bq (by decide) bq hE (by rw[hy];exact xq.l_NoKind) (by rfl)
   | exact WD (c:=_) xq.o_NoRule bq (by decide) bq hE (by rw[hy];exact xq.l_NoRule) (by rfl)
   | refine qz (n:=_) la ?_ ?_
   | exact WD (c:=_) xq.o_TooMany bq (by decide) bq hE (by rw[hy];exact xq.l_TooMany) (by rfl)
   | refine Dy (Au hy (by kernel_rfl) (by kernel_rfl) (by rfl) ?_ (λ_ hy _ _ _ _ _ _=> ?_) (λ_ hy _ _ _ _ _ _ _ hp=> ?_))
   | refine Hi (by rfl) nd (by rfl) (by rfl) (by decide) (by rfl) (by rfl) ?_ (by rfl)
   | refine Xc (Cz hy (by kernel_rfl) (by kernel_rfl) (by rfl) ?_ (λ_ hy _ _ _ _ _ _=> ?_) (λ_ hy _ _ _ _ _ _ _ hp=> ?_)) nd (by rfl) (.inl (by rfl)) (by rfl)
   | refine Cp iF (by rfl) ?_ ?_ ?_
   | refine FL ?_ (X9 (by rfl) nd (by rfl) (by rfl) (.inr (by rfl)) (.inr (by rfl))))
  | (show Snd _ _ (.Call ..) _;first
   | refine Eg (by rfl) (tx.z _ (by kernel_rfl)) ?_
   | refine Vt (n:="tuple") (qt _) (by rfl) (tx.z _ (by kernel_rfl)) (by rfl) (tx.z _ (by kernel_rfl)) PyProof.Rows.Boot.«tuple» ?_
   | refine cT hT hy hp (by assumption) hr ?_
   | refine Dh hr.hd (by rfl) (tx.z _ (by kernel_rfl)) ?_
   | refine D0 (by rfl) (tx.z _ (by kernel_rfl)) ?_
   | refine Vt (n:="int") (kL _) (by rfl) (tx.z _ (by kernel_rfl)) (by rfl) (tx.z _ (by kernel_rfl)) PyProof.Rows.Boot.«int» ?_
   | refine GP (by rfl) (by rfl) (tx.z _ (by kernel_rfl)) ?_ ?_
   | refine Vt (n:="str") (kM _) (by rfl) (tx.z _ (by kernel_rfl)) (by rfl) (tx.z _ (by kernel_rfl)) PyProof.Rows.Boot.«str» ?_
   | refine Kj hr.units ?_ ?_
   | refine CQ hr.hd (by rfl) (tx.z _ (by kernel_rfl)) ?_
   | refine kK (by rfl) (tx.z _ (by kernel_rfl)) ?_
   | refine Vt (n:="bool") (Vs _) (by rfl) (tx.z _ (by kernel_rfl)) (by rfl) (tx.z _ (by kernel_rfl)) PyProof.Rows.Boot.«bool» ?_
   | refine Fj (hS _ _ hT) hy (FU (by assumption)) hr ?_
   | refine CO ?_
   | refine Kh hr.hd (by rfl) (tx.z _ (by kernel_rfl)) (by rfl) (tx.z _ (by kernel_rfl)) ?_ ?_
   | refine EY (by rfl) (tx.z _ (by kernel_rfl)) ?_
   | refine F5 hr.hd (by rfl) (tx.z _ (by kernel_rfl)) (by rfl) (tx.z _ (by kernel_rfl)) ?_
   | refine Hb (by rfl) (by rfl) (tx.z _ (by kernel_rfl)) ?_ ?_
   | refine C0 (by rfl) (tx.z _ (by kernel_rfl)) ?_
   | refine FG hr.hd (by rfl) (tx.z _ (by kernel_rfl)) ?_
   | refine DE hr.hd (by rfl) (tx.z _ (by kernel_rfl)) (by rfl) (tx.z _ (by kernel_rfl)) ?_
   | refine mK (kE:=21) L hT hy hr (tx.z _ (by kernel_rfl)) (by kernel_rfl) (by kernel_rfl) ?_ ?_ (λ_ _ _ _ _ _ _ _ _ _ KB hy hE hr=> ?_)
   | exact Jn (by rw[hy];exact xq.X_k) (by rw[hy];exact xq.t_Ended) (by rfl) (tx.z _ (by kernel_rfl)) (pv _) (by rfl) xq.m_Ended
   | exact Jn (by rw[hy];exact xq.X_k) (by rw[hy];exact xq.t_NoKind) (by rfl) (tx.z _ (by kernel_rfl)) (pv _) (by rfl) xq.m_NoKind
   | exact Jn (by rw[hy];exact xq.X_k) (by rw[hy];exact xq.t_NoRule) (by rfl) (tx.z _ (by kernel_rfl)) (pv _) (by rfl) xq.m_NoRule
   | exact Jn (by rw[hy];exact xq.X_k) (by rw[hy];exact xq.t_NoText) (by rfl) (tx.z _ (by kernel_rfl)) (pv _) (by rfl) xq.m_NoText
   | exact Jn (by rw[hy];exact xq.X_k) (by rw[hy];exact xq.t_NoWorth) (by rfl) (tx.z _ (by kernel_rfl)) (pv _) (by rfl) xq.m_NoWorth
   | exact Jn (by rw[hy];exact xq.X_k) (by rw[hy];exact xq.t_TooMany) (by rfl) (tx.z _ (by kernel_rfl)) (pv _) (by rfl) xq.m_TooMany
   | refine Ki hr.units ?_ ?_
   | exact K4 (n:="ValueError") (by rw[hy];exact xq.X_k) (by rw[hy];exact xq.t_ValueError) (by rfl) (tx.z _ (by kernel_rfl)) (pv _) (by rfl) (tx.z _ (by kernel_rfl)) PyProof.Rows.Boot.«ValueError»
   | exact QQ.go (by assumption) λ_ _ _ _ C F=>K6 hy F hr (by omega) (by rfl) C.m C.F.kp C.b (pv _)
   | refine cZ hy (by assumption) hr ?_
   | refine cX hy hp (by assumption) hr ?_
   | refine cZ hy (U_weight_within _ KB) hr ?_
   | refine cZ hy (Hc (by assumption)) hr ?_)
  | (show Snd _ _ (.Subscript ..) _;first
   | refine Ad ?_ ?_
   | refine kP ?_ ?_ ?_
   | refine Fo (pv _) ?_
   | refine DL hr (by rfl) (tx.z _ (by kernel_rfl)) ?_ ?_)
  | (show uk _ _ _ _;first
   | refine Ul GE (xX hr.units) ?_ ?_ (jY _)
   | refine Dl ?_
   | refine Ul GF (xY hr.units) ?_ ?_ (jY _)
   | refine Ul Eb GG ?_ ?_ (jY _)
   | refine Ul DF GH ?_ ?_ (jY _)
   | refine Ul Vp (xZ hr.units) ?_ ?_ (by rfl)
   | refine kI Ww Ww J9 J9 ?_ ?_ ?_
   | refine Ul GJ (kD hr.units) ?_ ?_ (by rfl)
   | refine Ul Ww J9 ?_ ?_ (jY _)
   | exact EU (pv _)
   | refine F4 ?_
   | refine YA.t ?_)
  | (show Snd _ _ (.BinOp ..) _;first
   | refine CM ?_ ?_
   | refine Dj ?_ ?_
   | refine Ev ?_ ?_
   | refine FN ?_ ?_
   | refine GD ?_ ?_)
  | (show Snd _ _ (.BoolOp ..) _;first
   | refine FQ ?_ ?_
   | refine AC ?_ ?_
   | refine Fl ?_)
  | (show um _ _ _ _ _;first
   | refine GX (by rfl) (tx.z _ (by kernel_rfl)) ?_
   | refine FJ (by rfl) (tx.z _ (by kernel_rfl)) ?_ ?_
   | refine Eo (by rfl) (tx.z _ (by kernel_rfl)) ?_
   | refine GY (by rfl) (tx.z _ (by kernel_rfl)) ?_ ?_
   | refine Kn (by rfl) (tx.z _ (by kernel_rfl)) ?_
   | refine Ef (by rfl) (tx.z _ (by kernel_rfl)) ?_
   | refine DK ?_)
  | (show YA _ _ _ _;first
   | refine BB ?_ ?_
   | refine Ed ?_ ?_
   | refine D4 ?_
   | refine GM ?_)
  | (show Snd _ _ (.Compare ..) _;first
   | refine qm GE (xX hr.units) ?_ ?_ (jY _)
   | refine kH Ww Ww J9 J9 ?_ ?_ ?_
   | refine qm Ww J9 ?_ ?_ (jY _)
   | refine qm Vp (xZ hr.units) ?_ ?_ (by rfl)
   | refine qm Ey GI ?_ ?_ (jY _)
   | refine qm GF (xY hr.units) ?_ ?_ (jY _)
   | refine Vq Ww Ww Ww J9 J9 J9 ?_ ?_ ?_ ?_)
  | (show Snd _ _ (.List ..) _;first
   | refine He ?_)
  | (show JJ _ _ _ _;first
   | exact DS
   | refine CL ?_)
  | (show Snd _ _ (.Tuple ..) _;first
   | refine C6 ?_)
  | (show kN _ _ _ _;first
   | refine GO ?_
   | exact GN)
  | (show Snd _ _ (.ListComp ..) _;first
   | refine Ks (CT hy (by kernel_rfl) (by kernel_rfl) (by rfl) ?_ (λ_ hy hS _ _ _ _ _ _=> ?_) (λ_ hy hS _ _ _ _ _ _=> ?_))
   | refine Xb (Au hy (by kernel_rfl) (by kernel_rfl) (by rfl) ?_ (λ_ hy _ _ _ _ _ _=> ?_) (λ_ hy _ _ _ _ _ _ _ hp=> ?_))
   | refine Xb (Cz hy (by kernel_rfl) (by kernel_rfl) (by rfl) ?_ (λ_ hy _ _ _ _ _ _=> ?_) (λ_ hy _ _ _ _ _ _ _ hp=> ?_)))
  | (show GZ _ _ _ _;first
   | exact X8 nd (by rfl) (.inl (by rfl))
   | exact X8 nd (by rfl) (.inr (by rfl))
   | exact X9 (by rfl) nd (by rfl) (by rfl) (.inl (by rfl)) (.inl (by rfl)))
  | (show Snd _ _ (.UnaryOp ..) _;first
   | refine F2 ?_
   | refine EE ?_)
  | (show Snd _ _ (.IfExp ..) _;first
   | refine tZ ?_ ?_ ?_)
  )
local macro_rules | `(tactic| kd_all)=> `(tactic| (intro cdv A outer s H E Y hy hE hr nd hp;repeat' gp_on))
theorem FA:qP Z "_law_cell" 2 1 (oP 2 pR):=by
 refine lF tx.C_1n ["_law_script","_law_k"] λ_=> ?_
 kd_all
theorem Bi (_:qP Z "_law_cell" 2 1 c_1n):qP Z "_law_pick" 3 2 (oP 4 (B4 c_1n)):=by
 refine lF tx.C_3 ["_law_script","_law_k","_law_many","_law_drawn"] λ_=> ?_
 kd_all
theorem Ei (_:qP Z "_law_pick" 3 2 c_3):qP Z "_law_word_of" 2 3 (oP 3 (sT c_3)):=by
 refine lF tx.C_1b ["_law_script","_law_at_here","_law_letters"] λ_=> ?_
 kd_all
theorem Dr (_:qP Z "_law_pick" 3 2 c_3)(_:qP Z "_law_word_of" 2 3 c_1b):qP Z "_law_leaf_kind" 2 4 (oP 6 (sP c_3 c_1b)):=by
 refine lF tx.C_1e ["_law_script","_law_at_here","_law_low","_law_words","_law_k","_law_word_here"] λ_=> ?_
 kd_all
theorem tY {j:Nat}(a:4<=j)(_:qP Z "_law_pick" 3 2 c_3)(_:qP Z "_law_leaf_kind" 2 4 c_1e)(_:qP Z "_law_kind" 3 j c_o):qP Z "_law_kind" 3 (j+1) (oP 6 (sI c_3 c_1e c_o)):=by
 refine lF tx.C_o ["_law_script","_law_at_here","_law_deep","_law_way","_law_some","_law_low"] λ_=> ?_
 kd_all
theorem A9:qP Z "_law_rows_of" 1 1 (oP 5 sW):=by
 refine lF tx.C_p ["_law_lists","_law_made","_law_some","_law_longer","_law_ahead"] λ_=> ?_
 kd_all
theorem Bg {j:Nat}(a:1<=j)(_:qP Z "_law_all" 1 j c_6)(_:qP Z "_law_rows_of" 1 1 c_p):qP Z "_law_all" 1 (j+1) (oP 3 (mr c_6 c_p)):=by
 refine lF tx.C_6 ["_law_kind_here","_law_made","_law_size_here"] λ_=> ?_
 kd_all
theorem BP {j:Nat}(a:9<=j)(_:qP Z "_law_all" 1 9 c_6)(_:qP Z "_law_size" 1 j c_l):qP Z "_law_size" 1 (j+1) (oP 5 (mQ c_6 c_l)):=by
 refine lF tx.C_l ["_law_kind_here","_law_sizes","_law_made","_law_size_here","_law_inner"] λ_=> ?_
 kd_all
theorem Fb (_:qP Z "_law_kind" 3 12 c_o)(_:qP Z "_law_size" 1 17 c_l):qP Z "_law_small" 3 18 (oP 5 (si c_o c_l)):=by
 refine lF tx.C_1i ["_law_script","_law_at_here","_law_most","_law_kind_here","_law_k"] λ_=> ?_
 kd_all
theorem BN {j:Nat}(a:2<=j)(_:qP Z "_law_pick" 3 2 c_3)(_:qP Z "_law_rule" 3 j c_t):qP Z "_law_rule" 3 (j+1) (oP 6 (tm c_3 c_t)):=by
 refine lF tx.C_t ["_law_script","_law_at_here","_law_deep","_law_way","_law_one","_law_low"] λ_=> ?_
 kd_all
theorem Bk {j:Nat}(a:0<=j)(_:qP Z "_law_leaves" 1 j c_u):qP Z "_law_leaves" 1 (j+1) (oP 3 (rA c_u)):=by
 refine lF tx.C_u ["_law_worth","_law_made","_law_part"] λ_=> ?_
 kd_all
theorem Be {j:Nat}(a:8<=j)(_:qP Z "_law_leaves" 1 8 c_u)(_:qP Z "_law_keeps" 2 j c_d):qP Z "_law_keeps" 2 (j+1) (oP 7 (sv c_u c_d)):=by
 refine lF tx.C_d ["_law_rule_here","_law_worth","_law_numbers","_law_parts","_law_total","_law_number","_law_some"] λ_=> ?_
 kd_all
theorem Br:qP Z "is_whole" 1 1 (oP 1 BX):=by
 refine lF tx.C_g ["thing"] λ_=> ?_
 kd_all
theorem EO (_:qP Z "is_whole" 1 1 c_g):qP Z "is_span" 4 2 (oP 4 (pT c_g)):=by
 refine lF tx.C_1p ["low","high","least","most"] λ_=> ?_
 kd_all
theorem An:qP Z "is_tuple_of" 3 1 (oP 3 Ch):=by
 refine lF tx.C_k ["thing","least","most"] λ_=> ?_
 kd_all
theorem BD:qP Z "is_word" 1 1 (oP 1 Ck):=by
 refine lF tx.C_8 ["thing"] λ_=> ?_
 kd_all
theorem Eu (_:qP Z "is_whole" 1 1 c_g)(_:qP Z "is_tuple_of" 3 1 c_k)(_:qP Z "is_word" 1 1 c_8):qP Z "is_choice" 1 2 (oP 1 (sO c_g c_k c_8)):=by
 refine lF tx.C_1j ["thing"] λ_=> ?_
 kd_all
theorem Fc (_:qP Z "is_tuple_of" 3 1 c_k)(_:qP Z "is_choice" 1 2 c_1j):qP Z "are_choices" 1 3 (oP 2 (sS c_k c_1j)):=by
 refine lF tx.C_1g ["thing","words"] λ_=> ?_
 kd_all
theorem Ab {j:Nat}(a:3<=j)(_:qP Z "is_span" 4 2 c_1p)(_:qP Z "is_kind_within" 2 j c_b)(_:qP Z "are_choices" 1 3 c_1g)(_:qP Z "are_kinds_within" 2 j c_1v):qP Z "is_kind_within" 2 (j+1) (oP 2 (sQ c_1p c_b c_1g c_1v)):=by
 refine lF tx.C_b ["thing","levels"] λ_=> ?_
 kd_all
theorem Hd {j:Nat}(a:3<=j)(_:qP Z "is_tuple_of" 3 1 c_k)(_:qP Z "is_kind_within" 2 j c_b):qP Z "are_kinds_within" 2 (j+1) (oP 2 (sJ c_k c_b)):=by
 refine lF tx.C_1v ["thing","levels"] λ_=> ?_
 kd_all
theorem AS (_:qP Z "is_kind_within" 2 23 c_b):qP Z "is_kind" 1 24 (oP 1 (rY c_b)):=by
 refine lF tx.C_1 ["thing"] λ_=> ?_
 kd_all
theorem Bd (_:qP Z "is_kind" 1 24 c_1):qX Z "need_kind" 1 25 (oP 1 (rK c_1)):=by
 refine nV tx.C_y ["kind"] λ_=> ?_
 kd_all
theorem pA:qP Z "words_of_pick" 1 1 (oP 1 sF):=by
 refine lF tx.C_c ["kind"] λ_=> ?_
 kd_all
theorem Bx {j:Nat}(a:1<=j)(_:qP Z "is_whole" 1 1 c_g)(_:qP Z "is_tuple_of" 3 1 c_k)(_:qP Z "words_of_pick" 1 1 c_c)(_:qP Z "have_parts" 2 j c_1s):qP Z "has_worth" 2 (j+1) (oP 2 (nc c_g c_k c_c c_1s)):=by
 refine lF tx.C_i ["kind","thing"] λ_=> ?_
 kd_all
theorem DC {j:Nat}(a:1<=j)(_:qP Z "has_worth" 2 j c_i):qP Z "have_parts" 2 (j+1) (oP 2 (rP c_i)):=by
 refine lF tx.C_1s ["kinds","parts"] λ_=> ?_
 kd_all
theorem Dn (_:qX Z "need_kind" 1 25 c_y)(_:qP Z "has_worth" 2 21 c_i):qX Z "is_worth" 2 26 (oP 2 (gO c_y c_i)):=by
 refine nV tx.C_15 ["kind","thing"] λ_=> ?_
 kd_all
theorem AD (_:qX Z "is_worth" 2 26 c_15):qX Z "need_worth" 2 27 (oP 2 (oD c_15)):=by
 refine nV tx.C_s ["kind","worth"] λ_=> ?_
 kd_all
theorem pd:qP Z "nearest_to_nought" 1 1 (oP 1 sE):=by
 refine lF tx.C_w ["kind"] λ_=> ?_
 kd_all
theorem pF {j:Nat}(a:1<=j)(_:qP Z "words_of_pick" 1 1 c_c)(_:qP Z "nearest_to_nought" 1 1 c_w)(_:qP Z "weight_of_parts" 2 j c_18):qP Z "weight_within" 2 (j+1) (oP 2 (n9 c_c c_w c_18)):=by
 refine lF tx.C_5 ["kind","worth"] λ_=> ?_
 kd_all
theorem BW {j:Nat}(a:1<=j)(_:qP Z "weight_within" 2 j c_5):qP Z "weight_of_parts" 2 (j+1) (oP 2 (rW c_5)):=by
 refine lF tx.C_18 ["kinds","parts"] λ_=> ?_
 kd_all
theorem tL (_:qX Z "need_worth" 2 27 c_s)(_:qP Z "weight_within" 2 21 c_5):qX Z "weight" 2 28 (oP 2 (rJ c_s c_5)):=by
 refine nV tx.C_2 ["kind","worth"] λ_=> ?_
 kd_all
theorem DO (_:qP Z "is_whole" 1 1 c_g):qP Z "is_bound" 1 2 (oP 1 (Bm c_g)):=by
 refine lF tx.C_1m ["thing"] λ_=> ?_
 kd_all
theorem Ac {j:Nat}(a:2<=j)(_:qP Z "is_word" 1 1 c_8)(_:qP Z "is_rule_within" 2 j c_v)(_:qP Z "is_bound" 1 2 c_1m):qP Z "is_rule_within" 2 (j+1) (oP 2 (rl c_8 c_v c_1m)):=by
 refine lF tx.C_v ["thing","levels"] λ_=> ?_
 kd_all
theorem Bl (_:qP Z "is_rule_within" 2 10 c_v):qP Z "is_rule" 1 11 (oP 1 (Ca c_v)):=by
 refine lF tx.C_e ["thing"] λ_=> ?_
 kd_all
theorem DH (_:qP Z "is_rule" 1 11 c_e):qX Z "need_rule" 1 12 (oP 1 (tf c_e)):=by
 refine nV tx.C_11 ["rule"] λ_=> ?_
 kd_all
theorem tX {j:Nat}(a:0<=j)(_:qP Z "leaves_of" 1 j c_q):qP Z "leaves_of" 1 (j+1) (oP 3 (rZ c_q)):=by
 refine lF tx.C_q ["worth","leaves","part"] λ_=> ?_
 kd_all
theorem DD (_:qP Z "is_whole" 1 1 c_g)(_:qP Z "leaves_of" 1 8 c_q):qP Z "numbers_in" 1 9 (oP 1 (Bc c_g c_q)):=by
 refine lF tx.C_1l ["worth"] λ_=> ?_
 kd_all
theorem EN:qP Z "parts_of" 1 1 (oP 1 o4):=by
 refine lF tx.C_1o ["worth"] λ_=> ?_
 kd_all
theorem D6:qP Z "are_rising" 1 1 (oP 1 tK):=by
 refine lF tx.C_1q ["numbers"] λ_=> ?_
 kd_all
theorem EJ:qP Z "are_unlike" 1 1 (oP 1 BH):=by
 refine lF tx.C_1r ["parts"] λ_=> ?_
 kd_all
theorem Ff (_:qP Z "parts_of" 1 1 c_1o)(_:qP Z "leaves_of" 1 8 c_q)(_:qP Z "numbers_in" 1 9 c_1l)(_:qP Z "are_rising" 1 1 c_1q)(_:qP Z "are_unlike" 1 1 c_1r):qP Z "is_single_kept" 2 10 (oP 2 (sX c_1o c_q c_1l c_1q c_1r)):=by
 refine lF tx.C_1f ["rule","worth"] λ_=> ?_
 kd_all
theorem AM {j:Nat}(a:10<=j)(_:qP Z "is_kept" 2 j c_7)(_:qP Z "is_single_kept" 2 10 c_1f):qP Z "is_kept" 2 (j+1) (oP 2 (rn c_7 c_1f)):=by
 refine lF tx.C_7 ["rule","worth"] λ_=> ?_
 kd_all
theorem FY (_:qP Z "nearest_to_nought" 1 1 c_w):qP Z "number_less" 2 2 (oP 3 (tw c_w)):=by
 refine lF tx.C_1h ["kind","number","nearest"] λ_=> ?_
 kd_all
theorem Dv (_:qP Z "words_of_pick" 1 1 c_c):qP Z "word_less" 2 2 (oP 4 (rX c_c)):=by
 refine lF tx.C_1k ["kind","word","words","place"] λ_=> ?_
 kd_all
theorem BG:qP Z "shorter" 2 1 (oP 2 sy):=by
 refine lF tx.C_9 ["kind","worth"] λ_=> ?_
 kd_all
theorem Bv {j:Nat}(a:2<=j)(_:qP Z "number_less" 2 2 c_1h)(_:qP Z "word_less" 2 2 c_1k)(_:qP Z "shorter" 2 1 c_9)(_:qP Z "parts_less" 2 j c_1t):qP Z "one_step_less" 2 (j+1) (oP 2 (nZ c_1h c_1k c_9 c_1t)):=by
 refine lF tx.C_f ["kind","worth"] λ_=> ?_
 kd_all
theorem ET {j:Nat}(a:2<=j)(_:qP Z "one_step_less" 2 j c_f):qP Z "parts_less" 2 (j+1) (oP 6 (rD c_f)):=by
 refine lF tx.C_1t ["kinds","parts","told","place","part","less"] λ_=> ?_
 kd_all
theorem E6 (_:qP Z "is_kept" 2 18 c_7)(_:qP Z "one_step_less" 2 22 c_f):qP Z "breaking_less" 3 23 (oP 3 (A4 c_7 c_f)):=by
 refine lF tx.C_1a ["kind","worth","rule"] λ_=> ?_
 kd_all
theorem tM (_:qX Z "need_worth" 2 27 c_s)(_:qX Z "need_rule" 1 12 c_11)(_:qP Z "is_kept" 2 18 c_7)(_:qP Z "breaking_less" 3 23 c_1a):qX Z "led_down" 3 28 (oP 5 (ni c_s c_11 c_7 c_1a)):=by
 refine nV tx.C_z ["kind","worth","rule","told","following"] λ_=> ?_
 kd_all
theorem AG {j:Nat}(a:0<=j)(_:qP Z "count_of_parts" 1 j c_19)(_:qP Z "count_shorter" 2 j c_10):qP Z "count_of" 1 (j+1) (oP 1 (tE c_19 c_10)):=by
 refine lF tx.C_4 ["kind"] λ_=> ?_
 kd_all
theorem Fa {j:Nat}(a:0<=j)(_:qP Z "count_of" 1 j c_4):qP Z "count_of_parts" 1 (j+1) (oP 3 (oY c_4)):=by
 refine lF tx.C_19 ["kinds","count","kind"] λ_=> ?_
 kd_all
theorem DN {j:Nat}(a:0<=j)(_:qP Z "count_of_parts" 1 j c_19):qP Z "count_shorter" 2 (j+1) (oP 2 (pL c_19)):=by
 refine lF tx.C_10 ["kind","length"] λ_=> ?_
 kd_all
theorem t6 {j:Nat}(a:20<=j)(_:qP Z "words_of_pick" 1 1 c_c)(_:qP Z "many_at" 2 j c_1u)(_:qP Z "parts_at" 2 j c_1c):qP Z "worth_at" 2 (j+1) (oP 2 (tu c_c c_1u c_1c)):=by
 refine lF tx.C_n ["kind","number"] λ_=> ?_
 kd_all
theorem EK {j:Nat}(a:20<=j)(_:qP Z "count_shorter" 2 20 c_10)(_:qP Z "parts_at" 2 j c_1c):qP Z "many_at" 2 (j+1) (oP 3 (oZ c_10 c_1c)):=by
 refine lF tx.C_1u ["kind","number","length"] λ_=> ?_
 kd_all
theorem EF {j:Nat}(a:20<=j)(_:qP Z "count_of" 1 20 c_4)(_:qP Z "worth_at" 2 j c_n):qP Z "parts_at" 2 (j+1) (oP 6 (oN c_4 c_n)):=by
 refine lF tx.C_1c ["kinds","number","parts","rest","kind","count"] λ_=> ?_
 kd_all
theorem C8 (_:qX Z "need_kind" 1 25 c_y)(_:qP Z "count_of" 1 20 c_4)(_:qP Z "worth_at" 2 40 c_n):qX Z "all_worths" 1 41 (oP 2 (Xo c_y c_4 c_n)):=by
 refine nV tx.C_13 ["kind","count"] λ_=> ?_
 kd_all
theorem Ax (d:FT Z.K Z.mg "least_breaking" (lD 52) ["kind","rule"] Pt)(a:Z.base.BuiltinsAt Z.mg Pt)(_:qX Z "all_worths" 1 41 c_13)(_:qX Z "need_rule" 1 12 c_11)(_:qP Z "is_kept" 2 18 c_7)(U_weight_within:∀b,Z.K.In b->qP { Z with base:=b } "weight_within" 2 21 c_5):qT Z "least_breaking" 2 42 (oP 3 (nH c_13 c_11 c_7 c_5)) Pt (mO "least_breaking"):=by
 refine D5 d a ["kind","rule","breaking"] λ_=> ?_;intro c A outer s H E Y L hT hy hE hr nd hp
 repeat' gp_on
theorem A3:qC Z "_law_word" 1 (oC 2 Cu):=by
 refine DW tx.C_m ["_law_kept","_law_kinds"] λ_=> ?_
 kd_all
theorem Bp (_:qC Z "_law_word" 1 c_m)(_:qX Z "led_down" 3 28 c_z)(_:qT Z "least_breaking" 2 42 c_x Pt (mO "least_breaking")):qT Z "_law_tried" 4 43 (oP 7 (oE c_m c_z c_x)) Pt (mO "least_breaking"):=by
 refine Ec tx.C_h ["_law_what","_law_kind_here","_law_worth","_law_rule_here","_law_kept","_law_answer","e"] λ_=> ?_;intro cdv A outer s H E Y hT hy hE hr nd hp
 repeat' gp_on
 refine Et (i:=6) (k:=4) (ok:=okX) (by rfl) (by rfl) nd (by rfl) (by rfl) (by rfl) (by rfl) (by decide) (by rfl) xq.m_WorthError (by rw[hy];exact xq.e_WorthError) (λa pn xe hp=> ?_)
 repeat' gp_on
theorem EQ (_:qX Z "need_worth" 2 27 c_s)(_:qP Z "one_step_less" 2 22 c_f):qX Z "lesser" 2 28 (oP 2 (se c_s c_f)):=by
 refine nV tx.C_16 ["kind","worth"] λ_=> ?_
 kd_all
theorem Ao {j:Nat}(a:0<=j)(_:qP Z "_law_places" 1 j c_r):qP Z "_law_places" 1 (j+1) (oP 3 (og c_r)):=by
 refine lF tx.C_r ["_law_thing","_law_made","_law_k"] λ_=> ?_
 kd_all
theorem FD:qP Z "_law_at" 2 1 (oP 3 rj):=by
 refine lF tx.C_1d ["_law_thing","_law_place","_law_k"] λ_=> ?_
 kd_all
theorem Ae {j:Nat}(a:0<=j)(_:qP Z "_law_put" 3 j c_a):qP Z "_law_put" 3 (j+1) (oP 4 (oH c_a)):=by
 refine lF tx.C_a ["_law_thing","_law_place","_law_new","_law_k"] λ_=> ?_
 kd_all
theorem Hf (_:qP Z "_law_pick" 3 2 c_3)(_:qP Z "_law_places" 1 40 c_r)(_:qP Z "_law_at" 2 1 c_1d)(_:qP Z "_law_put" 3 40 c_a):qP Z "_law_spoilt_thing" 3 41 (oP 9 (rO c_3 c_r c_1d c_a)):=by
 refine lF tx.C_17 ["_law_script","_law_at_here","_law_thing","_law_places_here","_law_place","_law_here","_law_some","_law_way","_law_k"] λ_=> ?_
 kd_all
theorem D7:qP Z "_law_whole" 3 1 (oP 3 pN):=by
 refine lF tx.C_12 ["_law_thing","_law_low","_law_high"] λ_=> ?_
 kd_all
theorem C4:qP Z "_law_is_word" 1 1 (oP 1 rm):=by
 refine lF tx.C_14 ["_law_thing"] λ_=> ?_
 kd_all
theorem AO {j:Nat}(a:1<=j)(_:qP Z "_law_whole" 3 1 c_12)(_:qP Z "_law_is_word" 1 1 c_14)(_:qP Z "_law_is_kind" 2 j c_j):qP Z "_law_is_kind" 2 (j+1) (oP 6 (oy c_12 c_14 c_j)):=by
 refine lF tx.C_j ["_law_thing","_law_deep","_law_word_here","_law_rest","_law_some","_law_words"] λ_=> ?_
 kd_all
theorem AJ {f:Addr}{a:FuncData}(C:Fn Z.K Z.mg "law" (lD 84) ["_law_script"] f a)(_:qP Z "_law_pick" 3 2 c_3)(_:qP Z "_law_all" 1 9 c_6)(_:qP Z "_law_small" 3 18 c_1i)(_:qP Z "_law_is_kind" 2 13 c_j)(_:qP Z "_law_spoilt_thing" 3 41 c_17)(_:qT Z "_law_tried" 4 43 c_h Pt (mO "least_breaking"))(_:qP Z "_law_rule" 3 10 c_t)(_:qP Z "_law_keeps" 2 16 c_d)(_:qX Z "weight" 2 28 c_2)(_:qX Z "lesser" 2 28 c_16):Jj Z.P Z.w Z.K Z.mg Z.base (lE Z.P Z.w) 44 f a ["_law_script"] (uo Z.cl 1 (oP 16 (sR c_3 c_6 c_1i c_j c_17 c_h c_t c_d c_2 c_16)) Pt (mO "least_breaking")):=by
 refine Bh C ["_law_script","_law_kind_here","_law_rule_here","_law_every","_law_off","_law_rows","_law_least","_law_k","_law_worth","_law_told","_law_due","_law_some","_law_great","_law_thing","_law_odd","_law_bad"] ?_;intro cdv A outer s H E Y hT hy hE hr nd hp
 repeat' gp_on
end
section
variable {Z:Zz}{Pt:Addr}(tx:Tx Z.K Z.mg)(xq:Tq Z.K Z.mg Z.base Z.cl)
include tx xq
theorem Jy:qP Z "weight_within" 2 21 (nE 20):=by
 have d:qP Z "words_of_pick" 1 1 mJ:=pA tx xq;have f:qP Z "nearest_to_nought" 1 1 nX:=pd tx xq;have a:∀n:Nat,qP Z "weight_within" 2 (1+n) (mT n 0)/\qP Z "weight_of_parts" 2 (1+n) (mT n 1):=by
  intro n
  induction n with
  | zero=>exact⟨ma tx.C_5,ma tx.C_18⟩
  | succ n i=>exact⟨pF tx xq (aG _ _) d f i.2,BW tx xq (aG _ _) i.1⟩
 have e:qP Z "weight_within" 2 21 (nE 20):=(a 20).1;have g:qP Z "weight_of_parts" 2 21 (pP 20):=(a 20).2;exact e
theorem CK (xqb:∀b,Z.K.In b->Tq Z.K Z.mg b Z.cl)(tp:FT Z.K Z.mg "least_breaking" (lD 52) ["kind","rule"] Pt)(hBT:Z.base.BuiltinsAt Z.mg Pt){f:Addr}{fd:FuncData}(C:Fn Z.K Z.mg "law" (lD 84) ["_law_script"] f fd):Jj Z.P Z.w Z.K Z.mg Z.base (lE Z.P Z.w) 44 f fd ["_law_script"] (uo Z.cl 1 nQ Pt (mO "least_breaking")):=by
 have U_weight_within:∀b,Z.K.In b->qP { Z with base:=b } "weight_within" 2 21 (nE 20):=λb hb=>Jy (Z:={ Z with base:=b }) tx (xqb b hb);have O_1n:qP Z "_law_cell" 2 1 oV:=FA tx xq;have d:qP Z "_law_pick" 3 2 lT:=Bi tx xq O_1n;have X:qP Z "_law_word_of" 2 3 gN:=Ei tx xq d;have I:qP Z "_law_leaf_kind" 2 4 oX:=Dr tx xq d X;have R_o:∀n:Nat,qP Z "_law_kind" 3 (4+n) (nq n 0):=by
  intro n
  induction n with
  | zero=>exact ma tx.C_o
  | succ n a=>exact tY tx xq (aG _ _) d I a
 have O_o:qP Z "_law_kind" 3 12 (nS 8):=(R_o 8);have O_p:qP Z "_law_rows_of" 1 1 me:=A9 tx xq;have R_6:∀n:Nat,qP Z "_law_all" 1 (1+n) (ou n 0):=by
  intro n
  induction n with
  | zero=>exact ma tx.C_6
  | succ n a=>exact Bg tx xq (aG _ _) a O_p
 have O_6:qP Z "_law_all" 1 9 (m8 8):=(R_6 8);have R_l:∀n:Nat,qP Z "_law_size" 1 (9+n) (sK n 0):=by
  intro n
  induction n with
  | zero=>exact ma tx.C_l
  | succ n a=>exact BP tx xq (aG _ _) O_6 a
 have O_l:qP Z "_law_size" 1 17 (pO 8):=(R_l 8);have r:qP Z "_law_small" 3 18 pQ:=Fb tx xq O_o O_l;have R_t:∀n:Nat,qP Z "_law_rule" 3 (2+n) (nG n 0):=by
  intro n
  induction n with
  | zero=>exact ma tx.C_t
  | succ n a=>exact BN tx xq (aG _ _) d a
 have O_t:qP Z "_law_rule" 3 10 (BL 8):=(R_t 8);have R_u:∀n:Nat,qP Z "_law_leaves" 1 (0+n) (pZ n 0):=by
  intro n
  induction n with
  | zero=>exact ma tx.C_u
  | succ n a=>exact Bk tx xq (aG _ _) a
 have O_u:qP Z "_law_leaves" 1 8 (pE 8):=(R_u 8);have R_d:∀n:Nat,qP Z "_law_keeps" 2 (8+n) (mC n 0):=by
  intro n
  induction n with
  | zero=>exact ma tx.C_d
  | succ n a=>exact Be tx xq (aG _ _) O_u a
 have O_d:qP Z "_law_keeps" 2 16 (rg 8):=(R_d 8);have e:qP Z "is_whole" 1 1 mS:=Br tx xq;have B:qP Z "is_span" 4 2 rQ:=EO tx xq e;have g:qP Z "is_tuple_of" 3 1 mP:=An tx xq;have O_8:qP Z "is_word" 1 1 oo:=BD tx xq;have O_1j:qP Z "is_choice" 1 2 oW:=Eu tx xq e g O_8;have v:qP Z "are_choices" 1 3 pH:=Fc tx xq g O_1j;have G:∀n:Nat,qP Z "is_kind_within" 2 (3+n) (mF n 0)/\qP Z "are_kinds_within" 2 (3+n) (mF n 1):=by
  intro n
  induction n with
  | zero=>exact⟨ma tx.C_b,ma tx.C_1v⟩
  | succ n a=>exact⟨Ab tx xq (aG _ _) B a.1 v a.2,Hd tx xq (aG _ _) g a.1⟩
 have O_b:qP Z "is_kind_within" 2 23 (Ay 20):=(G 20).1;have O_1v:qP Z "are_kinds_within" 2 23 (AL 20):=(G 20).2;have O_1:qP Z "is_kind" 1 24 oJ:=AS tx xq O_b;have U:qX Z "need_kind" 1 25 nC:=Bd tx xq O_1;have i:qP Z "words_of_pick" 1 1 mJ:=pA tx xq;have R_i:∀n:Nat,qP Z "has_worth" 2 (1+n) (m4 n 0)/\qP Z "have_parts" 2 (1+n) (m4 n 1):=by
  intro n
  induction n with
  | zero=>exact⟨ma tx.C_i,ma tx.C_1s⟩
  | succ n a=>exact⟨Bx tx xq (aG _ _) e g i a.2,DC tx xq (aG _ _) a.1⟩
 have O_i:qP Z "has_worth" 2 21 (Aa 20):=(R_i 20).1;have O_1s:qP Z "have_parts" 2 21 (AY 20):=(R_i 20).2;have Q:qX Z "is_worth" 2 26 Xm:=Dn tx xq U O_i;have o:qX Z "need_worth" 2 27 nK:=AD tx xq Q;have J:qP Z "nearest_to_nought" 1 1 nX:=pd tx xq;have R_5:∀n:Nat,qP Z "weight_within" 2 (1+n) (mT n 0)/\qP Z "weight_of_parts" 2 (1+n) (mT n 1):=by
  intro n
  induction n with
  | zero=>exact⟨ma tx.C_5,ma tx.C_18⟩
  | succ n a=>exact⟨pF tx xq (aG _ _) i J a.2,BW tx xq (aG _ _) a.1⟩
 have O_5:qP Z "weight_within" 2 21 (nE 20):=(R_5 20).1;have O_18:qP Z "weight_of_parts" 2 21 (pP 20):=(R_5 20).2;have O_2:qX Z "weight" 2 28 nO:=tL tx xq o O_5;have u:qP Z "is_bound" 1 2 tj:=DO tx xq e;have R_v:∀n:Nat,qP Z "is_rule_within" 2 (2+n) (o6 n 0):=by
  intro n
  induction n with
  | zero=>exact ma tx.C_v
  | succ n a=>exact Ac tx xq (aG _ _) O_8 a u
 have O_v:qP Z "is_rule_within" 2 10 (CD 8):=(R_v 8);have O_e:qP Z "is_rule" 1 11 BC:=Bl tx xq O_v;have j:qX Z "need_rule" 1 12 Xn:=DH tx xq O_e;have R_q:∀n:Nat,qP Z "leaves_of" 1 (0+n) (pG n 0):=by
  intro n
  induction n with
  | zero=>exact ma tx.C_q
  | succ n a=>exact tX tx xq (aG _ _) a
 have O_q:qP Z "leaves_of" 1 8 (oB 8):=(R_q 8);have O_1l:qP Z "numbers_in" 1 9 sw:=DD tx xq e O_q;have O_1o:qP Z "parts_of" 1 1 sN:=EN tx xq;have N:qP Z "are_rising" 1 1 As:=D6 tx xq;have y:qP Z "are_unlike" 1 1 AQ:=EJ tx xq;have q:qP Z "is_single_kept" 2 10 pU:=Ff tx xq O_1o O_q O_1l N y;have R_7:∀n:Nat,qP Z "is_kept" 2 (10+n) (nj n 0):=by
  intro n
  induction n with
  | zero=>exact ma tx.C_7
  | succ n a=>exact AM tx xq (aG _ _) a q
 have k:qP Z "is_kept" 2 18 (nk 8):=(R_7 8);have O:qP Z "number_less" 2 2 oU:=FY tx xq J;have S:qP Z "word_less" 2 2 pJ:=Dv tx xq i;have O_9:qP Z "shorter" 2 1 pp:=BG tx xq;have R_f:∀n:Nat,qP Z "one_step_less" 2 (2+n) (m7 n 0)/\qP Z "parts_less" 2 (2+n) (m7 n 1):=by
  intro n
  induction n with
  | zero=>exact⟨ma tx.C_f,ma tx.C_1t⟩
  | succ n a=>exact⟨Bv tx xq (aG _ _) O S O_9 a.2,ET tx xq (aG _ _) a.1⟩
 have O_f:qP Z "one_step_less" 2 22 (sZ 20):=(R_f 20).1;have O_1t:qP Z "parts_less" 2 22 (AI 20):=(R_f 20).2;have x:qP Z "breaking_less" 3 23 gP:=E6 tx xq k O_f;have O_z:qX Z "led_down" 3 28 nW:=tM tx xq o j k x;have p:∀n:Nat,qP Z "count_of" 1 (0+n) (mV n 0)/\qP Z "count_of_parts" 1 (0+n) (mV n 1)/\qP Z "count_shorter" 2 (0+n) (mV n 2):=by
  intro n
  induction n with
  | zero=>exact⟨ma tx.C_4,ma tx.C_19,ma tx.C_10⟩
  | succ n a=>exact⟨AG tx xq (aG _ _) a.2.1 a.2.2,Fa tx xq (aG _ _) a.1,DN tx xq (aG _ _) a.2.1⟩
 have M:qP Z "count_of" 1 20 (ot 20):=(p 20).1;have O_19:qP Z "count_of_parts" 1 20 (Ai 20):=(p 20).2.1;have O_10:qP Z "count_shorter" 2 20 (gQ 20):=(p 20).2.2;have l:∀n:Nat,qP Z "worth_at" 2 (20+n) (mX n 0)/\qP Z "many_at" 2 (20+n) (mX n 1)/\qP Z "parts_at" 2 (20+n) (mX n 2):=by
  intro n
  induction n with
  | zero=>exact⟨ma tx.C_n,ma tx.C_1u,ma tx.C_1c⟩
  | succ n a=>exact⟨t6 tx xq (aG _ _) i a.2.1 a.2.2,EK tx xq (aG _ _) O_10 a.2.2,EF tx xq (aG _ _) M a.1⟩
 have O_n:qP Z "worth_at" 2 40 (oR 20):=(l 20).1;have O_1u:qP Z "many_at" 2 40 (AZ 20):=(l 20).2.1;have O_1c:qP Z "parts_at" 2 40 (BR 20):=(l 20).2.2;have O_13:qX Z "all_worths" 1 41 KC:=C8 tx xq U M O_n;have O_x:qT Z "least_breaking" 2 42 n8 Pt (mO "least_breaking"):=Ax tx xq tp hBT O_13 j k U_weight_within;have O_m:qC Z "_law_word" 1 nU:=A3 tx xq;have O_h:qT Z "_law_tried" 4 43 mf Pt (mO "least_breaking"):=Bp tx xq O_m O_z O_x;have D:qX Z "lesser" 2 28 Xp:=EQ tx xq o O_f;have R_r:∀n:Nat,qP Z "_law_places" 1 (0+n) (ro n 0):=by
  intro n
  induction n with
  | zero=>exact ma tx.C_r
  | succ n a=>exact Ao tx xq (aG _ _) a
 have O_r:qP Z "_law_places" 1 40 (o7 40):=(R_r 40);have O_1d:qP Z "_law_at" 2 1 gR:=FD tx xq;have R_a:∀n:Nat,qP Z "_law_put" 3 (0+n) (rV n 0):=by
  intro n
  induction n with
  | zero=>exact ma tx.C_a
  | succ n a=>exact Ae tx xq (aG _ _) a
 have O_a:qP Z "_law_put" 3 40 (mB 40):=(R_a 40);have O_17:qP Z "_law_spoilt_thing" 3 41 gS:=Hf tx xq d O_r O_1d O_a;have O_12:qP Z "_law_whole" 3 1 V5:=D7 tx xq;have O_14:qP Z "_law_is_word" 1 1 V6:=C4 tx xq;have R_j:∀n:Nat,qP Z "_law_is_kind" 2 (1+n) (mM n 0):=by
  intro n
  induction n with
  | zero=>exact ma tx.C_j
  | succ n a=>exact AO tx xq (aG _ _) O_12 O_14 a
 have O_j:qP Z "_law_is_kind" 2 13 (sC 12):=(R_j 12);exact AJ tx xq C d O_6 r O_j O_17 O_h O_t O_d O_2 D
end
noncomputable def XX:List Str:=["NoKind","NoWorth","NoRule","TooMany","Ended","NoText","NoBack"]
noncomputable def mI (K:aj)(c:Nat):Value:=match cj K mainGlobals (XX.getD c "") with
 | some (some v)=>v
 | _=> .none
theorem yO {K:aj}{c:Nat}{x:Str}{q:Addr}(a:(XX.getD c "")=x)(h:cj K mainGlobals x=some (some (.ref q))):mI K c= .ref q:=by unfold mI;rw[a,h]
noncomputable def z4u:List Nat:=[0,1,2,3,4,5]
def V8 (p:Nat->Bool):Bool:=z4u.all p
theorem El {c:Nat}(h:okX c=true):c∈z4u:=by
 have h:c < 6:=of_decide_eq_true h;unfold z4u;simp;omega
theorem je {p:Nat->Bool}(h:V8 p=true){c:Nat}(a:okX c=true):p c=true:=aO.mp h c (El a)
noncomputable def gG (K:aj)(v:Value):Bool:=match v with
 | .ref C=>dP K (.ref C) "__getattribute__" == some (some (.builtin "BaseException.__getattribute__")) && (dP K (.ref C) "__getattr__" == some none && (dP K (.ref C) "__class__" == some (some (.builtin "object.__class__")) && (im K (.builtin "object.__class__") "__get__" == some (some (.builtin "getset_descriptor.__get__")) && (iX K (.builtin "object.__class__") == some true && (i8 K C (.type "object") == some true && (i8 K C (.type "BaseException") == some true && (PySem.W.clsIn K C).isSome))))))
 | _=>false
theorem xN {K:aj}{v:Value}(h:gG K v=true):∃C,v= .ref C/\PySem.W.XCls K C:=by
 unfold gG at h;split at h
 ·rename_i C;simp only[ae,beq_iff_eq]at h;obtain⟨k,d,a,e,i,g,f,j⟩:=h;exact⟨C,rfl,k,d,a,e,i,g,f,j⟩
 ·cases h
theorem yP {K:aj}{base:Heap}{g:Str->Option Value}{x:Str}{C:Addr}{d:List Value}{a:String}(KB:K.In base)(G:g x=some (.ref C))(h:dH K C d a=true):OwnCls x C d a g base:=by
 unfold dH at h;split at h
 ·rename_i dd cd f I;split at h
  ·rename_i N J o p i k m l u j;simp only[ae,beq_iff_eq,iD]at h;obtain⟨⟨⟨⟨⟨v,w⟩,q⟩,y⟩,e⟩,r⟩:=h;subst v w;cases cd with
   | mk nm bs M ns D hd sn sub ab col B=>
    dsimp only at u q e r;subst u q;obtain rfl:f= #[o,p,i,k,some (.builtin m),l]:=by
     cases f;simp only at j;rw[j]
    exact⟨G,J,ns,nm,D,bs,hd,sn,sub,ab,col,dd,o,p,i,k,l,_,KB _ _ I,.of_isNs (PySem.W.isNs_of_in KB e),PySem.W.nsMap_none_of_in KB e r,PySem.W.tail_of_in KB y⟩
  ·cases h
 ·cases h
theorem lz1 {e:FuncData}{f:Str}(d:List Value)(g:d.length=1)(h:∀a,bindArgs e ⟨[a],[]⟩=pure ([f].zip [a])):bindArgs e ⟨d,[]⟩=pure ([f].zip d):=match d,g with | [a],_=>h a
theorem lz2 {i:FuncData}{f g:Str}(a:List Value)(j:a.length=2)(h:∀d e,bindArgs i ⟨[d,e],[]⟩=pure ([f,g].zip [d,e])):bindArgs i ⟨a,[]⟩=pure ([f,g].zip a):=match a,j with | [d,e],_=>h d e
theorem lz3 {k:FuncData}{g i j:Str}(a:List Value)(l:a.length=3)(h:∀d e f,bindArgs k ⟨[d,e,f],[]⟩=pure ([g,i,j].zip [d,e,f])):bindArgs k ⟨a,[]⟩=pure ([g,i,j].zip a):=match a,l with | [d,e,f],_=>h d e f
theorem lz4 {o:FuncData}{i k l j:Str}(d:List Value)(p:d.length=4)(h:∀e f g a,bindArgs o ⟨[e,f,g,a],[]⟩=pure ([i,k,l,j].zip [e,f,g,a])):bindArgs o ⟨d,[]⟩=pure ([i,k,l,j].zip d):=match d,p with | [e,f,g,a],_=>h e f g a
theorem fn1 {K:aj}{h:Heap}{o:Str->Option Value}{f:Addr}{p d:Option Addr}{r:Array (Option Value)}{u kV a i cd ct:Value}{x:Str}{st:Stmt}{j:List Str}(X:K.In h)(G:h.Ns mainGlobals o)(e:cj K mainGlobals x=some (some (.ref f)))(l:K.lookup f=some ⟨u,p,.func (cz x x (jm st) (zR st) (zf st) .none kV a i d cd ct),r⟩)(g:eR K cd x=true)(k:cG K (.ref f)=true)
  (q:∀F:Fun K x x st f (cz x x (jm st) (zR st) (zf st) .none kV a i d cd ct),L2.Binds K (cz x x (jm st) (zR st) (zf st) .none kV a i d cd ct) j []):Fn K o x st j f (cz x x (jm st) (zR st) (zf st) .none kV a i d cd ct):=
 have F:=Gx (st:=st) l g k
 ⟨F,q F,bU X G e⟩
theorem zs_of {K:aj}{h:Heap}{d:Str->Option Value}{a:List Str}(X:K.In h)(G:h.Ns mainGlobals d)(e:(a.all λx=>cj K mainGlobals x == some none)=true):∀x,a.contains x=true->d x=none:=λx f=>PySem.W.mg_none_of X G (beq_iff_eq.mp (aO.mp e x (List.contains_iff_mem.mp f)))
noncomputable abbrev Tx' {K:aj}{h:Heap}(_:K.In h)(mg:Str->Option Value):Prop:=Tx K mg
def V1 (K:aj):Bool:=K.all λp=> !(p.2.cls == Value.type "list")
theorem gH {K:aj}(h:V1 K=true){a:Addr}{o:Obj}(e:K.lookup a=some o)(c:o.cls=Value.type "list"):False:=by
 have i:(a,o)∈K:=by
  clear h
  induction K with
  | nil=>cases e
  | cons p r g=>
   obtain⟨b,u⟩:=p
   by_cases f:a=b
   ·subst f;have d :some u=some o:=by simpa[aM] using e
    cases d;exact ag
   ·have d :r.lookup a=some o:=by rw[aM,(beq_eq_false_iff_ne.mpr f)]at e;exact e
    exact ac _ (g d)
 have:=aO.mp h _ i;rw[c]at this;simp at this
noncomputable def BJ (o:Obj):Option Addr:=match o.data with
 | .fields a=>(match (a[11]? :Option Value) with | some (.ref P)=>some P | _=>none)
 | _=>none
structure Es (K:aj) (c P:Addr) (o:Obj):Prop where
 t:K.lookup c=some o
 u:BJ o=some P
 h:eG K c P=true
 n:K.lookup P=none
abbrev TP {K:aj}{h:Heap}(_:K.In h)(mg:Str->Option Value):Prop:=∃f fd c Pt o,Fn K mg "least_breaking" (lD 52) ["kind","rule"] f fd/\fd.code= .ref c/\Es K c Pt o/\h.get? Pt=some (eB #[])
theorem fin_ {l:PySem.W.OpenLaw}{w:World}{K:aj}{h:Heap}{mg:Str->Option Value}{fa:Addr}(X:K.In h)(G:h.Ns mainGlobals mg)(hfa:mg "law"=some (.ref fa))(tx:Tx K mg)(tp:TP X mg){D j i r d g a:Addr}(n_Ended:cj K mainGlobals "Ended"=some (some (.ref D)))(q:cj K mainGlobals "NoKind"=some (some (.ref j)))(u:cj K mainGlobals "NoRule"=some (some (.ref i)))(n_NoText:cj K mainGlobals "NoText"=some (some (.ref r)))(k:cj K mainGlobals "NoWorth"=some (some (.ref d)))(p:cj K mainGlobals "TooMany"=some (some (.ref g)))(I:cj K mainGlobals "WorthError"=some (some (.ref a)))(b_K:V8 (λc=>gG K (mI K c))=true)(B:V8 (λc=>PySem.W.exmOne K (mI K c) (.ref a) == some true)=true)(U:dH K j XW "ValueError.__new__"=true)(S:dH K i XW "ValueError.__new__"=true)(O:dH K d XW "ValueError.__new__"=true)(J:dH K g XW "ValueError.__new__"=true)(b_t_Ended:V8 (λc=>aW K (mI K c) (.ref D) == some (wl c))=true)(b_t_NoKind:V8 (λc=>aW K (mI K c) (.ref j) == some (Jp c))=true)(Q:V8 (λc=>aW K (mI K c) (.ref i) == some (Jq c))=true)(b_t_NoText:V8 (λc=>aW K (mI K c) (.ref r) == some (Jr c))=true)(M:V8 (λc=>aW K (mI K c) (.ref d) == some (jS c))=true)(N:V8 (λc=>aW K (mI K c) (.ref g) == some (jT c))=true)(y:V8 (λc=>aW K (mI K c) (.type "ValueError") == some (j6 c))=true):∃(fd:FuncData) (c Pt:Addr),(∀(s:Shared) (v:Value),BindsTo s fd ⟨[v],[]⟩ [("_law_script",v)])/\h.get? Pt=some (eB #[])/\K.lookup Pt=none/\eG K c Pt=true/\∀base:Heap,K.In base->base.BuiltinsAt mg Pt->Jj l.prog w K mg base (lE l.prog w) 44 fa fd ["_law_script"] (uo (mI K) 1 nQ Pt (mO "least_breaking")):=by
 obtain⟨f,fd,C⟩:=tx.C_0;have e:=hfa.symm.trans C.m;cases e;obtain⟨oc,od,kV,doc,pm,an,cdv,ct,osl,rfl,lk,hcd⟩:=C.F.ex;obtain⟨f2,fd2,c,Pt,o,C2,ec,tk,hm⟩:=tp;have xqb:∀b,K.In b->Tq K mg b (mI K):=λbase KB=>⟨D,j,i,r,d,g,a,⟨λc P=>xN (je b_K P)⟩,(λc P=>beq_iff_eq.mp (je B P)),(yO (x:="NoKind") rfl q),(yO (x:="NoRule") rfl u),(yO (x:="NoWorth") rfl k),(yO (x:="TooMany") rfl p),(bU X G n_Ended),(bU X G q),(bU X G u),(bU X G n_NoText),(bU X G k),(bU X G p),(bU X G I),(yP KB (bU X G q) U),(yP KB (bU X G u) S),(yP KB (bU X G k) O),(yP KB (bU X G p) J),(λc P=>beq_iff_eq.mp (je b_t_Ended P)),(λc P=>beq_iff_eq.mp (je b_t_NoKind P)),(λc P=>beq_iff_eq.mp (je Q P)),(λc P=>beq_iff_eq.mp (je b_t_NoText P)),(λc P=>beq_iff_eq.mp (je M P)),(λc P=>beq_iff_eq.mp (je N P)),(λc P=>beq_iff_eq.mp (je y P))⟩;exact⟨_,c,Pt,λs v=> .of_eq rfl,hm,tk.n,tk.h,λbase KB hBT=>CK (Z:=⟨l.prog,w,K,mg,base,(mI K)⟩) tx (xqb base KB) xqb ⟨f2,fd2,c,C2,ec,tk.h⟩ hBT C⟩
theorem Dm {cl:Nat->Value}{H:Hp}{a e:Addr}{o:Obj}{q:Str}{ns:List Int}(g:nQ [.fz (ns.map T.int)]= .ok (.bl true))(h:H a=some (.frz o (.lst (ns.map V.int))))(f:H e=some (.tbl #[] q)):uo cl 1 nQ e q [.ref a] H (λv _=>v= .bl true) λ_ _ _=>False:=by
 have d:∀ns:List Int,zG H (ns.map V.int) (ns.map T.int):=λns=>by
  induction ns with
  | nil=>exact .nil
  | cons n r i=>exact .cons (.int n) i
 refine⟨f,H,[.fz (ns.map T.int)],rfl,zl.refl H,.cons (.fz h (d ns)) .nil, ?_⟩;rw[g];intro v j _ r;cases r;rfl
theorem walk {l:PySem.W.OpenLaw}{q:Program}{i:List Str}{XP:(Str->Option Value)->Heap->Prop}{v:World->Heap->Prop}{d:DefRec}{K:Params->aj}{ts:List Addr}(hn:l.most=some 63)(r:d.params.defaults=[])
  (J:∀ns:List Int,ns.length<=63->nQ [.fz (ns.map T.int)]= .ok (.bl true)) (N:∀p,V1 (K p)=true)
  (D:∀(w:World) (h:Heap),v w h->(K w.params).In h/\∀P∈ts,h.get? P=some (eB #[]))
  (F:∀(w:World) (j:Str->Option Value) (y:Addr) (h:Heap),(K w.params).In h->h.Ns mainGlobals j->j d.name=some (.ref y)->(∀P∈ts,h.get? P=some (eB #[]))->
   ∃(B:FuncData) (c g:Addr),(∀(s:Shared) (u:Value),BindsTo s B ⟨[u],[]⟩ [("_law_script",u)])/\h.get? g=some (eB #[])/\(K w.params).lookup g=none/\eG (K w.params) c g=true/\∀base:Heap,(K w.params).In base->base.BuiltinsAt j g->Jj l.prog w (K w.params) j base (lE l.prog w) 44 y B ["_law_script"] (uo (mI (K w.params)) 1 nQ g (mO "least_breaking"))):
  PySem.W.WalkO q i XP v l.row.toRowW d [] (λf M=>lc f M):=
 L2.walk_ofT (n:=63) (k:=44) (x:="_law_script") (nm:=(mO "least_breaking")) (CX:=λw=>(lE l.prog w)) (sp:=λw g=>uo (mI (K w.params)) 1 nQ g (mO "least_breaking")) hn (by decide) r ⟨rfl,by decide,by decide,rfl⟩ D (λw a o e c=>gH (N w.params) e c) F (λw H a g o ns O G I=>Dm (J ns O) G I) λ_ _ _ _ _ ⟨_,_,_,_,_,_,_,z⟩=>z
end G
namespace PySem.W.Fast
noncomputable def tw13732668803410116553:=0
noncomputable def tw6407439057076866824:=0
noncomputable def tw5491799886224773167:=0
noncomputable def tw305985413840048717:=0
noncomputable def tw16473033545137223508:=0
noncomputable def tw11378636754553375014:=0
noncomputable def tw13191550456406652647:=0
noncomputable def tw15027637982754940813:=0
noncomputable def tw12487842026652047837:=0
noncomputable def tw1193450149093598707:=0
noncomputable def tw14707315503090392374:=0
noncomputable def tw6487030869438823676:=0
noncomputable def tw16151438195952626818:=0
noncomputable def tw12314994114580709227:=0
noncomputable def tw15209476027624661879:=0
noncomputable def tw16721877964540580532:=0
noncomputable def tw75782193510647477:=0
noncomputable def tw8481600355315019807:=0
noncomputable def tw4866615763781213814:=0
noncomputable def tw9600694056660543981:=0
noncomputable def tw11682282073080266476:=0
noncomputable def tw16177076901084572220:=0
noncomputable def tw3605574140402916598:=0
noncomputable def tw8967620778347338724:=0
noncomputable def tw5398821573079965947:=0
noncomputable def tw18207909903376374138:=0
noncomputable def tw15362165095380421962:=0
noncomputable def tw4427384399028565052:=0
noncomputable def tw5534254887710052549:=0
noncomputable def tw16405419718211383253:=0
noncomputable def tw10195030303901682480:=0
noncomputable def tw10762312360258591876:=0
noncomputable def tw7101802517589147062:=0
noncomputable def tw6744230543475361042:=0
noncomputable def tw3121000317093131549:=0
noncomputable def tw10270402851725499042:=0
noncomputable def tw3744709249688155522:=0
noncomputable def tw11104854816833105287:=0
noncomputable def tw17958154897230398694:=0
noncomputable def tw2553077909950147147:=0
noncomputable def tw6747064216336669459:=0
noncomputable def tw2844159957329067667:=0
noncomputable def tw1595359243826402955:=0
noncomputable def tw4454746185330517272:=0
noncomputable def tw10448447851404474741:=0
noncomputable def tw9893679542017639757:=0
noncomputable def tw9867081631299853172:=0
noncomputable def tw10657896742525137558:=0
noncomputable def tw11222327952527710322:=0
noncomputable def tw14553781283117350384:=0
noncomputable def tw4122247349208475707:=0
noncomputable def tw12261203201518386602:=0
noncomputable def tw15662366071760894864:=0
noncomputable def tw13287186917694707848:=0
noncomputable def tw4835122346164006662:=0
noncomputable def tw18235675773965950457:=0
noncomputable def tw10593375522028957617:=0
noncomputable def tw14728451216650262355:=0
noncomputable def tw15243064794684019652:=0
noncomputable def tw10249782487581198491:=0
noncomputable def tw17983737553150689581:=0
noncomputable def tw16930255432201433792:=0
noncomputable def tw7601142512414321055:=0
noncomputable def tw16825635992722363132:=0
noncomputable def tw9125998161296802474:=0
noncomputable def tw8437351827452919418:=0
noncomputable def tw10607169571616536698:=0
noncomputable def tw10598181163481590515:=0
noncomputable def tw5091069956198556165:=0
noncomputable def tw7234423314586751330:=0
noncomputable def tw14767530893463523325:=0
noncomputable def tw16163020952380862023:=0
noncomputable def tw15011649248481603227:=0
noncomputable def tw11420254479153399494:=0
noncomputable def tw14219493582493076241:=0
noncomputable def tw10809143494528319752:=0
noncomputable def tw8699121714343831694:=0
noncomputable def tw15583922246691731160:=0
noncomputable def tw8119383266318401462:=0
noncomputable def tw12187110795895068879:=0
noncomputable def tw11966698818589371025:=0
noncomputable def tw10081615060216971150:=0
noncomputable def tw180807195738997836:=0
noncomputable def tw15538807680902107205:=0
noncomputable def tw3914837259459460405:=0
noncomputable def tw10368626894946953617:=0
noncomputable def tw6295499109181176863:=0
noncomputable def tw3289294777396623979:=0
noncomputable def tw13797499631525207729:=0
noncomputable def tw8306124346178040858:=0
noncomputable def tw609070330272549743:=0
noncomputable def tw14037832147738360221:=0
noncomputable def tw11228036655019300439:=0
noncomputable def tw9084621893787898117:=0
noncomputable def tw8141713532268695615:=0
noncomputable def tw16189919295425525784:=0
noncomputable def tw13146958571853684834:=0
noncomputable def tw3278372608413676149:=0
noncomputable def tw14706464709235691992:=0
noncomputable def tw2841914536380857932:=0
noncomputable def tw17295843616204028490:=0
noncomputable def tw1746989423572833199:=0
noncomputable def tw2907728148510713254:=0
noncomputable def tw2230151832372157447:=0
noncomputable def tw1421735291630867875:=0
noncomputable def tw8721917040360618027:=0
noncomputable def tw1114253419502224846:=0
noncomputable def tw755519971387000910:=0
noncomputable def tw4418213944800647210:=0
noncomputable def tw7549565746334351286:=0
noncomputable def tw1972963325536684139:=0
noncomputable def tw5712091290882573094:=0
noncomputable def tw4381580826725754876:=0
noncomputable def tw8907496400395497463:=0
noncomputable def tw6593893374002101384:=0
noncomputable def tw953410201467447467:=0
noncomputable def tw10735115661422082286:=0
noncomputable def tw11890561970131582278:=0
noncomputable def tw6538873793447499312:=0
noncomputable def tw14843037237399214428:=0
noncomputable def tw896355471993289131:=0
noncomputable def tw14876499108636375446:=0
noncomputable def tw12327144723239615788:=0
noncomputable def tw11929583290143902687:=0
noncomputable def tw3806662658891081895:=0
noncomputable def tw7665698207371148844:=0
noncomputable def tw15261817074530365868:=0
noncomputable def tw3469964584800387800:=0
noncomputable def tw9110069333923273975:=0
noncomputable def tw15547484208977253604:=0
noncomputable def tw4119747799717760477:=0
noncomputable def tw9983256030084243558:=0
noncomputable def tw13907292942836270451:=0
noncomputable def tw291747085546347091:=0
noncomputable def tw11527604829724320670:=0
noncomputable def tw7256449983320437117:=0
noncomputable def tw16609590562935799600:=0
noncomputable def tw9630857055910491973:=0
noncomputable def tw14435201148225826129:=0
noncomputable def tw8931072193244863005:=0
noncomputable def tw10875403422522358804:=0
noncomputable def tw11963668805099050941:=0
noncomputable def tw8971162694045116228:=0
noncomputable def tw6784448584899759151:=0
noncomputable def tw4181545650467824937:=0
noncomputable def tw12853866429219864371:=0
noncomputable def tw6320409161440257906:=0
noncomputable def tw6499383131715186640:=0
noncomputable def tw305489889157651616:=0
noncomputable def tw8369958413050770497:=0
noncomputable def tw819546999879239255:=0
noncomputable def tw3224487500304909071:=0
noncomputable def tw6594151140854713047:=0
noncomputable def tw1603370639137113629:=0
noncomputable def tw15698134649324246193:=0
noncomputable def tw2874407484031361167:=0
noncomputable def tw16350985662363254498:=0
noncomputable def tw9715224663003957122:=0
noncomputable def tw10848940574604798375:=0
end PySem.W.Fast
open PySem PySem.W PyProof.Rows
set_option maxRecDepth 100000 in
set_option maxHeartbeats 0 in
theorem PySem.Challenge.cw_worthkinds_k51_whole_least_breaking_holds : PySem.Challenge.rw_worthkinds_k51_whole_least_breaking.Holds := by
 w_on; o_law; k_head; (case hw=>w_witness2)
 k_fill
 refine G.walk (l:=PySem.Challenge.rw_worthkinds_k51_whole_least_breaking) rfl rfl G.law_ok ?nl (fun w h Y=>⟨PySem.W.km_in_of Y,PySem.W.km_tabs_of Y⟩) ?F
 case nl=>intro p; kernel_rfl
 case F=>
  intro w mg fa h KX G0 hmg hT
  have tx:G.Tx' KX mg:=by
   constructor
   all_goals first
    | (refine' ⟨_,_,G.fn1 KX G0 ?e ?l ?g ?k (fun F=>F.binds fun _ _ _ _ _ _ us hl=>by first | exact G.lz1 us hl fun _=>rfl | exact G.lz2 us hl fun _ _=>rfl | exact G.lz3 us hl fun _ _ _=>rfl | exact G.lz4 us hl fun _ _ _ _=>rfl)⟩; (case e | l | g | k=>k_is))
    | exact ⟨_,PySem.W.mg_of KX G0 (by k_is),_,rfl⟩
    | exact G.zs_of KX G0 (by kernel_rfl)
  have tp:G.TP KX mg:=by
   refine' ⟨_,_,_,_,_,G.fn1 KX G0 ?e ?l ?g ?k (fun F=>F.binds fun _ _ _ _ _ _ us hl=>by first | exact G.lz1 us hl fun _=>rfl | exact G.lz2 us hl fun _ _=>rfl | exact G.lz3 us hl fun _ _ _=>rfl | exact G.lz4 us hl fun _ _ _ _=>rfl),rfl,⟨?t, ?u, ?h, ?n⟩, ?m⟩; (case e | l | g | k | t=>k_is); (case u=>exact rfl); (case h | n=>kernel_rfl); (case m=>exact hT _ (by decide))
  refine' G.fin_ KX G0 hmg tx tp ?n0 ?n1 ?n2 ?n3 ?n4 ?n5 ?n6 ?b0 ?b1 ?b2 ?b3 ?b4 ?b5 ?b6 ?b7 ?b8 ?b9 ?b10 ?b11 ?b12
  (case n0 | n1 | n2 | n3 | n4 | n5 | n6=>k_is)
  (case b0 | b1 | b2 | b3 | b4 | b5 | b6 | b7 | b8 | b9 | b10 | b11 | b12=>kernel_rfl)
