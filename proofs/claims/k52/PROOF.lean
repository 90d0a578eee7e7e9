import PyProof.Rows.All
import Wide.All
import OpenK.AllK
import Wide.FinOn
import Lean
import PyProof.EqAt
import PyProof.EqKinds
import PyProof.TupleCall
import PyProof.NeKinds
import PyProof.WalksEnum
import PyProof.StrWalks
import PyProof.ExcAttrAll.ValueError
import PyProof.ZipIter
import KE.KRevIter
import PyProof.ListNew
import PyProof.WalksMore
import PyProof.ReprLoop
import PyProof.FactsAll.list
import PyProof.CollectIter
import PyProof.TupleOfGen
import PyProof.Draws
import PyProof.EnumMake
import PyProof.SeqI3
import KE.KMinBuiltin
import PyProof.SetRoads
import PyProof.CollectWalk
import KE.KDictSum
import PyProof.AttrMiss
import PyProof.IsiH_tuple
import KE.KDictOf
import PyProof.FitsBits
import PyProof.SliceList
import PyProof.InstFacts
import PyProof.Rows.StrNews2
import PyProof.StrBlockH
import PyProof.CallStr
import KE.KIntText
import PyProof.Rows.RuleB_pow
import KE.KSortTup
import PyProof.ReprRoads
import KE.KLam
import PySem.Challenge.RW_worthkinds_k52_whole_least_by_kinds
open PySem renaming wpAny_bind->a7,wpAny_pure->am,wpAny_truthy_bool->aS,wpAny_field->aW,wpAny_newObj_type->a_,mem_of_lookup->be,wpAny_callSpecial?_slot->bg,wpAny_setField_rec->bh,wpAny_seqItems->bu,codeAny_builtin->bC,wpAny_call_entry->bF,wpAny_holding->bQ,wpAny_Call_Name_kw->bU,wpAny_passesOwn->bX,sizeLine_eq->bZ,wpAny_pyIter_list->b_,wpAny_of_eq->c6,plainId_quiet->cb,wpAny_tryCatch->cj,wpAny_mono->cx,call_meets->cL,wpAny_letGo->d9,codeAny_mono->db,wpAny_rule->dw,typeIs_int->dz,seqSlot_of->hJ,call->ip
open List renaming mem_cons_of_mem->a8,getElem?_eq_getElem->a9,mem_cons_self->aa,replicate->ab,length_map->xqz,mem_cons->ah,getElem?_map->aj,getElem?_eq_some_iff->ak,length_cons->ar,mem_map->au,size_toArray->av,mem_append_right->ay,map_cons->az,mem_singleton->aA,length_append->aB,getElem?_set_ne->aE,all_eq_true->aG,length_replicate->aI,length_singleton->aJ,getElem?_append_right->aK,getElem?_replicate->aL,map_replicate->aM,getElem?_append_left->aN,lookup_cons->aP,range->aQ,mem_range->aR,getElem?_eq_none->aU,replicate_succ->aV,map_map->aX,mem_append->aZ,mem_of_getElem?->b9,getElem?_set_self->bb,eq_of_mem_replicate->bc,nil_append->bn,length_range->bp,all_cons->bq,length_set->bw,append_assoc->bx,append_nil->bA,of_mem_zip->bB,getElem?_zip_eq_some->bE,pairwise_cons->bG,eq_nil_of_length_eq_zero->bH,flatMap_cons->bI,mem_filter->bK,length_reverse->bN,map_nil->bP,not_mem_nil->bS,mem_flatMap->bT,length_nil->bY,reverse_cons->c7,mem_iff_getElem->c8,range_succ_eq_map->cz,mem_iff_getElem?->cG,mem_append_left->cJ,length_take->cO,any_eq_true->cP,pairwise_iff_getElem->cR,filterMap_cons->cS,getElem?_range->cV,map_congr_left->cW,drop_succ_cons->cX,getElem?_take_of_lt->cY,sum_cons->d3,nodup_cons->d4,length_zip->d5,length_eq_zero_iff->d7,drop_zero->dh,pairwise_map->dq,length_drop->dy,cons_append->dB,map_append->dE,mem_filterMap->dH,foldl->dL,zip_cons_cons->dR,mem_replicate->dS,drop_eq_getElem_cons->dW,flatten_cons->dX,ext_getElem?->d_,any_cons->eC,idxOf_lt_length_iff->eD,prefix_refl->eO,nodup_range->eU,getElem?_cons_succ->eV,take_of_length_le->f6,getElem?_reverse->fq,pairwise_flatMap->fv,getElem_toArray->fB,reverse_reverse->fG,mem_of_mem_take->fH,filter_eq_self->fK,take_succ_cons->fL,getElem_idxOf->fQ,length_zipIdx->fR,any_eq_false->fS,all_map->fW,getElem_inj->g7,drop_length->hU,getElem_mem->hZ,map_reverse->i4,filter_cons->i5,length->i6,range'->i7,forIn_cons->ie,range_succ->ij
open Bool renaming and_eq_true->ac,false_ne_true->ax,false_eq_true->aH,eq_false_iff->bJ,eq_iff_iff->bM,and_eq_true_iff->c9,true_and->cf,or_eq_false_iff->dD,not_true->eG,and_eq_false_iff->fu,and_false->fy,or_eq_true->ig
open PySem.W renaming Frag->ae,kia_one->bj,fnOf->bO,kitOne->cg,keepIn->cK,tabObj->du,codeHdIn->dC,codeIn->dI,cellsFrom_some->eX,instObj->f9,lookIn->fw,kitx_list->fT,kitx_dict->fU,plainGet->g_
open PySem.Heap renaming get?_push_of_some->af,get?_push_size->ag,lt_size->ao,get?_update_other->bz,size_push->bW,SameBut->cu,ExtBut->fA
open Nat renaming le_refl->ai,le_trans->aq,le_add_right->aw,ne_of_lt->aC,lt_of_lt_of_le->aF,zero_le->ba,lt_irrefl->bi,one_mul->bR,lt_of_le_of_lt->bV,le_mul_of_pos_right->cn,mul_le_mul->cq,mul_comm->cy,mul_assoc->cD,lt_succ_of_lt->cH,pow_le_pow_right->cN,ne_of_gt->da,add_comm->df,pow_succ->dm,add_le_add_left->dF,le_succ->dZ,mul_pos->eB,lt_succ_self->eQ,le_of_lt->eW,succ_mul->eY,zero_add->f8,not_lt_zero->fj,min_le_left->fo,lt_succ_of_le->f_,succ_ne_self->hW,add_mul->i9,min_eq_left->ik
open Option.some renaming inj->aD
open PyProof.Rows renaming callWith_type1->aO,slot_tuple_getitem->aY
open Int renaming toNat_natCast->aT,eq_ofNat_of_zero_le->ck,le_trans->dj,emod_lt_of_pos->dQ,le_refl->eA,zero_add->f7,emod_nonneg->fg,natCast_mul->ib,le_antisymm->ii
open PySem.Str renaming ofString->bf
open PySem.F renaming plain_min_loop->bo,called_set->cB,slot_int_rmul->cC,slot_zip_next->cF,args_tuple_add_2->c_,entry_tuple_add->d6,plainAttrs_list->d8,slot_tuple_add->de,slot_tuple_iterator_next->di,entry_min_loop->xqy,slot_tuple_mul->dA,args_int_rmul_2->dY,slot_int_index->eM,entry_int_rmul->eN,args_zip_next_1->eS,slot_list_index->eT,entry_zip_next->e_,fills_int_mul->ff,called_tuple->fE,args_object_init_2->fF,args_tuple_mul_2->fO,slot_tuple_rmul->fX,entry_tuple_mul->fY,plain_tuple_new->fZ
open Ne renaming symm->bv
open False renaming elim->bL
open PyProof.Rows.KeyOrd renaming klt_of_klt_of_kle->ce,kle_of_klt->dk
open PySem.AutoSeq1 renaming wpAny_loadPart'->ci
open Array renaming getElem?_eq_none->cA,length_toList->cU,perm_iff_toList_perm->dO,append_assoc->dP,getD->iq
open PySem.SeqAt renaming EqAt->cI,RcNeAt->dg,RcAt->eZ
open PySem.Around renaming under_plainId->cM,frames_deeper->fx
open PySem.Builtin.Slice renaming slicePlaces->cQ,sliceAdjust->dU
open PySem.Builtin.List renaming listTooLong->d0,listSameRef->eH
open List.Pairwise renaming imp->dr
open PySem.Calls renaming Name_function_global->dG,spliced_cons->fM,spliced_nil->fV
open PySem.Builtin.Tuple renaming tupleItemsOf->dJ,tupleTooMany->dM,tupleExact->eI
open PySem.Walks renaming list->dN
open Option renaming isNone->eJ,getD_none->h9
open PySem.Builtin.Range renaming rangeSize->eK
open PyProof.Rows.F renaming entry_set_update_loop->eR
open PySem.Heap.SameBut renaming update->fJ
open PySem.SeqAt.EqAt renaming of_refs->fN,same->ia
open PySem.Obj renaming data_mapFields->fP,mapSeq->io
open PySem.WalksT renaming enumerate->hV
open Classical renaming skolem->h_
open PySem.Shared renaming heap->i8
open List.cons renaming injEq->il
open PySem.PassesOwn renaming never->im
noncomputable section
set_option maxHeartbeats 4000000
set_option Elab.async false
set_option linter.all false
set_option maxRecDepth 100000
namespace L2
open PySem PySem.Spec PyProof.Rows
noncomputable abbrev Key:=Sum Int Str
noncomputable def Xe:Key->Value->Bool
 | .inl k,v=>Value.isInt k v
 | .inr x,v=>Value.isStrOf x v
noncomputable def keyH (w:World):Key->Int
 | .inl k=>hashInt k
 | .inr x=>hashStr w x
theorem zQ:∀{k:Key} {v:Value},Xe k v=true->(∃i t,k=Sum.inl i/\v=Value.int i t)\/(∃x t,k=Sum.inr x/\v=Value.str x t)
 | .inl i,v,h=>by
  obtain⟨t,e⟩:=Value.isInt_shape h;exact .inl ⟨i,t,rfl,e⟩
 | .inr x,v,h=>by
  obtain⟨t,e⟩:=Value.isStrOf_shape h;exact .inr ⟨x,t,rfl,e⟩
theorem Xf (a b:Int):decide ((Sum.inl a:Key)=Sum.inl b)=(a == b):=by
 by_cases e:a=b
 ·subst e;simp
 ·have h:¬ (Sum.inl a:Key)=Sum.inl b:=λq=>e (Sum.inl.inj q);rw[decide_eq_false h];exact(beq_eq_false_iff_ne.mpr e).symm
theorem Xg (a b:Str):decide ((Sum.inr a:Key)=Sum.inr b)=decide (a=b):=by
 by_cases e:a=b
 ·simp
 ·have h:¬ (Sum.inr a:Key)=Sum.inr b:=λq=>e (Sum.inr.inj q);rw[decide_eq_false h,decide_eq_false e]
theorem Xh (a:Int)(b:Str):decide ((Sum.inl a:Key)=Sum.inr b)=false:=decide_eq_false (λq=>nomatch q)
theorem Xi (a:Str)(b:Int):decide ((Sum.inr a:Key)=Sum.inl b)=false:=decide_eq_false (λq=>nomatch q)
noncomputable def UT (prog:Program)(w:World):PySem.KeyKind prog w Key where
 is:=Xe
 hash:=keyH w
 inj:=λv a b ha hb=>by
  rcases zQ ha with ⟨i,t,rfl,rfl⟩ | ⟨x,t,rfl,rfl⟩
  ·rcases zQ hb with ⟨j,u,rfl,e⟩ | ⟨y,u,rfl,e⟩
   ·injection e with e1 _;rw[e1]
   ·exact nomatch e
  ·rcases zQ hb with ⟨j,u,rfl,e⟩ | ⟨y,u,rfl,e⟩
   ·exact nomatch e
   ·injection e with e1 _;rw[e1]
 byValue:=λk v h=>by
  rcases zQ h with ⟨i,t,rfl,rfl⟩ | ⟨x,t,rfl,rfl⟩ <;> rfl
 pyHash:=λhv h=>by
  rcases zQ hv with ⟨i,t,rfl,rfl⟩ | ⟨x,t,rfl,rfl⟩
  ·exact wpAny_pyHash_int h
  ·exact wpAny_pyHash_str h
 eqBool:=λhu hv h=>by
  rcases zQ hu with ⟨i,t,rfl,rfl⟩ | ⟨x,t,rfl,rfl⟩
  ·rcases zQ hv with ⟨j,u,rfl,rfl⟩ | ⟨y,u,rfl,rfl⟩
   ·rw[Xf]at h;exact wpAny_eqBool_int h
   ·rw[Xh]at h;exact cI.int_str i t y u _ _ _ _ h
  ·rcases zQ hv with ⟨j,u,rfl,rfl⟩ | ⟨y,u,rfl,rfl⟩
   ·rw[Xi]at h;exact cI.str_int x t j u _ _ _ _ h
   ·rw[Xg]at h;exact wpAny_eqBool_str h
 «strs»:=λk x t v h=>by
  rcases zQ h with ⟨i,u,rfl,e⟩ | ⟨y,u,rfl,e⟩
  ·exact nomatch e
  ·injection e with e1 _;subst e1;cases v <;> rfl
end L2
namespace L2
open PySem PySem.Spec PyProof.Rows
inductive V where
 | non | bl (b:Bool) | int (i:Int) | str (x:Str) | byt (b:Array UInt8) | flt (b:UInt64) | ref (a:Addr) | ty (n:String)
 deriving DecidableEq
noncomputable def zU:V->Value->Prop
 | .non,u=>u=Value.none
 | .bl b,u=>u=Value.bool b
 | .int i,u=>∃t,u=Value.int i t
 | .str x,u=>∃t,u=Value.str x t
 | .byt b,u=>∃t,u=Value.bytes b t
 | .flt b,u=>∃t,u=Value.float b t
 | .ref a,u=>u=Value.ref a
 | .ty n,u=>u=Value.type n
noncomputable abbrev zS:List V->List Value->Prop:=Paired zU
theorem zS.length {xs:List V}{us:List Value}(r:zS xs us):xs.length=us.length:=Paired.length r
theorem zS.get:∀{xs:List V} {us:List Value} {i:Nat} {x:V},zS xs us->xs[i]? =some x->∃u,us[i]? =some u/\zU x u
 | _,_,_,_,.nil,e=>by simp at e
 | _,_,0,_,.cons r _,e=>by simp at e;subst e;exact⟨_,rfl,r⟩
 | _,_,i+1,x,.cons _ t,e=>by
  obtain⟨u,h1,h2⟩:=zS.get t (by simpa using e)
  exact⟨u,by simpa using h1,h2⟩
theorem zS.append:∀{xs ys:List V} {us ws:List Value},zS xs us->zS ys ws->zS (xs++ys) (us++ws)
 | _,_,_,_,.nil,s=>s
 | _,_,_,_,.cons r t,s=> .cons r (zS.append t s)
theorem zS.take:∀{xs:List V} {us:List Value} (n:Nat),zS xs us->zS (xs.take n) (us.take n)
 | _,_,0,_=> .nil
 | _,_,_+1,.nil=> .nil
 | _,_,n+1,.cons r t=> .cons r (zS.take n t)
theorem zS.drop:∀{xs:List V} {us:List Value} (n:Nat),zS xs us->zS (xs.drop n) (us.drop n)
 | _,_,0,r=>r
 | _,_,_+1,.nil=> .nil
 | _,_,n+1,.cons _ t=>zS.drop n t
noncomputable def G5:Option V->Option Value->Prop
 | some v,some u=>zU v u
 | none,none=>True
 | _,_=>False
noncomputable def KV {κ:Type}:List (κ×V)->List (κ×Value)->Prop:=Paired λ(p:κ×V) (q:κ×Value)=>p.1=q.1/\zU p.2 q.2
noncomputable def kV:Key->V
 | .inl i=> .int i
 | .inr x=> .str x
inductive HO where
 | lst (xs:List V)
 | tup (xs:List V)
 | dK (kvs:List (Key×V)) | dT (kvs:List (List Key×V))
 | set (S:Int->Bool) (n:Nat)
 | ins (C dx:Addr) (fs:List (Str×V))
 | own (x:Addr)
 | xd (fs:List (Str×V))
 | met (f x:Addr)
 | rng (lo hi:Int)
 | frz (o:Obj) (u:HO)
 | tbl (ps:Array Value) (q:Str)
 | ext (φ:Heap->Prop)
noncomputable abbrev Hp:=Addr->Option HO
noncomputable def upd (H:Hp)(a:Addr)(o:HO):Hp:=λb=>if b=a then some o else H b
theorem zE {H:Hp}{a:Addr}{o:HO}:upd H a o a=some o:=by unfold upd;rw[if_pos rfl]
theorem zn {H:Hp}{a b:Addr}{o:HO}(h:b ≠ a):upd H a o b=H b:=by unfold upd;rw[if_neg h]
theorem zA {H:Hp}{a b:Addr}{o:HO}(h:H a=some o)(h' :H b=none):a ≠ b:=by
 intro e;subst e;rw[h]at h';cases h'
noncomputable def ITN (h:Heap)(a:Addr)(its:Array Value):Prop:=IsTup h a its/\((∃i t,its[0]? =some (Value.int i t))\/∃o,h.get? a=some o/\o.dict=none)
theorem ITN.new (h:Heap)(its:Array Value):ITN (h.push { cls:= .type "tuple",data:= .seq its }) h.objs.size its:=⟨IsTup.new h its,.inr ⟨_,ag _ rfl,rfl⟩⟩
section
variable (P:Program)(w:World)
noncomputable def Zj (H:Hp)(h:Heap)(a:Addr):HO->Prop
 | .lst xs=>xs.length<=sizeLine/\∃(its:List Value) (n:Nat),zS xs its/\h.get? a=some { cls:= .type "list",data:= .seq its.toArray n }
 | .tup xs=>xs.length<=sizeLine/\∃its:List Value,zS xs its/\ITN h a its.toArray
 | .dK kvs=>kvs.length<=sizeLine/\(a == sysModules)=false/\∃vs,KV kvs vs/\h.DictOf (UT P w) a vs
 | .dT kvs=>kvs.length<=sizeLine/\(a == sysModules)=false/\∃xs:List (List Key×Addr×Value),
   Paired (λ(p:List Key×V) (q:List Key×Addr×Value)=>p.1=q.1/\H q.2.1=some (.tup (p.1.map kV))/\zU p.2 q.2.2) kvs xs/\
   ∃o es ep,h.get? a=some o/\o.ExactDict/\o.data= .dict es ep/\es.toList=xs.map (entryOfKey (tupleKind (UT P w)))/\(xs.map (·.1)).Nodup
 | .set S n=>h.SetOf (intKind P w) a S n
 | .ins C dx fs=>H dx=some (.own a)/\fs.length<=1000/\dx ≠ a/\h.get? a=some (f9 C dx)/\
   ∃mA,h.Ns1 dx mA/\(∀f,G5 (fs.lookup f) (mA f))/\PySem.Within mA (fs.map (·.1))
 | .own _=>∃o,h.get? a=some o
 | .xd fs=>∃mA,h.Ns1 a mA/\∀f,G5 (fs.lookup f) (mA f)
 | .rng lo hi=>∃t u v,h.get? a=some { cls:= .type "range",data:= .fields #[.int lo t,.int hi u,.int 1 v] }
 | .frz o u=>h.get? a=some o/\Zj H h a u
 | .tbl ps q=>∃more:Array Value,h.get? a=some { cls:= .none,data:= .fields (ps++more) }/\TriplesOk (ps++more).toList/\∀p cv,codeAmong p (ps++more).toList=some cv->∃c oc vs t,cv= .ref c/\H c=some (.frz oc (.own c))/\oc.data= .fields vs/\vs[1]? =some (.str q t)
 | .met f x=>h.get? a=some (PySem.W.methodObj (.ref f) (.ref x))
 | .ext φ=>φ h/\(∃o,h.get? a=some o)/\∀h1 h2:Heap,φ h1->(∀o,h1.get? a=some o->h2.get? a=some o)->φ h2
noncomputable def HOk (H:Hp)(h:Heap):Prop:=∀a o,H a=some o->Zj P w H h a o
end
section
variable {P:Program}{w:World}{H H' :Hp}{h h' :Heap}{a:Addr}{o:HO}
theorem Zj.lt (x:Zj P w H h a o):a < h.objs.size:=by
 cases o with
 | lst xs=>obtain⟨_,_,_,_,e⟩:=x;exact ao e
 | tup xs=>obtain⟨_,_,_,p,_⟩:=x;exact p.lt
 | dK kvs=>obtain⟨_,_,_,_,o,_,_,e,_⟩:=x;exact ao e
 | dT kvs=>obtain⟨_,_,_,_,o,_,_,e,_⟩:=x;exact ao e
 | set S n=>obtain⟨o,_,_,_,e,_⟩:=x;exact ao e
 | ins C dx fs=>obtain⟨_,_,_,e,_⟩:=x;exact ao e
 | own y=>obtain⟨_,e⟩:=x;exact ao e
 | xd fs=>obtain⟨_,⟨_,_,_,e,_⟩,_⟩:=x;exact ao e
 | rng lo hi=>obtain⟨_,_,_,e⟩:=x;exact ao e
 | frz ob u=>obtain⟨e,_⟩:=x;exact ao e
 | tbl ps q=>obtain⟨_,e,_⟩:=x;exact ao e
 | met f y=>exact ao (x)
 | ext φ=>obtain⟨_,⟨_,e⟩,_⟩:=x;exact ao e
theorem Paired.mapP {α β:Type}{F G:α->β->Prop}:∀{l₁:List α} {l₂:List β},Paired F l₁ l₂->(∀a b,F a b->G a b)->Paired G l₁ l₂
 | _,_,.nil,_=> .nil
 | _,_,.cons r t,f=> .cons (f _ _ r) (Paired.mapP t f)
theorem Zj.stay (x:Zj P w H h a o)(k:∀b u,(b=a\/H b=some (.own a))->h.get? b=some u->h'.get? b=some u)
  (ho:∀b,H b=some (.own a)->H' b=some (.own a)) (ht:∀b xs,H b=some (.tup xs)->H' b=some (.tup xs)) (hf:∀b o u,H b=some (.frz o u)->H' b=some (.frz o u):=by exact λ_ _ _ q=>q):Zj P w H' h' a o:=by
 induction o with
 | lst xs=>obtain⟨z,its,n,r,e⟩:=x;exact⟨z,its,n,r,k _ _ (.inl rfl) e⟩
 | tup xs=>obtain⟨z,its,r,⟨ob,e,c⟩,q⟩:=x;exact⟨z,its,r,⟨ob,k _ _ (.inl rfl) e,c⟩,q.imp id λ⟨o2,e2,d2⟩=>⟨o2,k _ _ (.inl rfl) e2,d2⟩⟩
 | dK kvs=>obtain⟨z,y,vs,r,ob,es,ep,e,c⟩:=x;exact⟨z,y,vs,r,ob,es,ep,k _ _ (.inl rfl) e,c⟩
 | dT kvs=>
  obtain⟨z,y,xs,r,ob,es,ep,e,c⟩:=x;exact⟨z,y,xs,Paired.mapP r λp q z=>⟨z.1,ht _ _ z.2.1,z.2.2⟩,ob,es,ep,k _ _ (.inl rfl) e,c⟩
 | set S n=>obtain⟨ob,es,ep,t,e,c⟩:=x;exact⟨ob,es,ep,t,k _ _ (.inl rfl) e,c⟩
 | ins C dx fs=>
  obtain⟨d,z,ne,e,mA,⟨od,es,ep,e2,c⟩,r⟩:=x;exact⟨ho _ d,z,ne,k _ _ (.inl rfl) e,mA,⟨od,es,ep,k _ _ (.inr d) e2,c⟩,r⟩
 | own y=>obtain⟨ob,e⟩:=x;exact⟨ob,k _ _ (.inl rfl) e⟩
 | xd fs=>obtain⟨mA,⟨od,es,ep,e,c⟩,r⟩:=x;exact⟨mA,⟨od,es,ep,k _ _ (.inl rfl) e,c⟩,r⟩
 | rng lo hi=>obtain⟨t,u,v,e⟩:=x;exact⟨t,u,v,k _ _ (.inl rfl) e⟩
 | frz ob u ih=>obtain⟨e,q⟩:=x;exact⟨k _ _ (.inl rfl) e,ih q⟩
 | tbl ps q=>
  obtain⟨m,e,tr,al⟩:=x;exact⟨m,k a _ (.inl rfl) e,tr,λp cv z=>let ⟨c,oc,vs,t,e1,e2,e3⟩:=al p cv z;⟨c,oc,vs,t,e1,hf _ _ _ e2,e3⟩⟩
 | met f y=>
  have e:=x;exact k a _ (.inl rfl) e
 | ext φ=>obtain⟨p,⟨o,e⟩,st⟩:=x;exact⟨st _ _ p λo q=>k _ _ (.inl rfl) q,⟨o,k _ _ (.inl rfl) e⟩,st⟩
theorem HOk.lt (x:HOk P w H h)(e:H a=some o):a < h.objs.size:=(x a o e).lt
theorem HOk.fresh (x:HOk P w H h)(e:h.objs.size<=a):H a=none:=by
 cases q:H a with
 | none=>rfl
 | some u=>exact absurd (aF (x.lt q) e) (bi _)
theorem HOk.kept (x:HOk P w H h)(k:∀b u,h.get? b=some u->h'.get? b=some u):HOk P w H h' :=λa o e=>
 (x a o e).stay (λb u _ q=>k b u q) (λ_ q=>q) λ_ _ q=>q
theorem HOk.laid (x:HOk P w H h)(k:∀b u,h.get? b=some u->h'.get? b=some u)(hp:h.objs.size<=a)(new:Zj P w (upd H a o) h' a o):HOk P w (upd H a o) h' :=λb u e=>by
 have hn:=x.fresh hp
 by_cases hb:b=a
 ·subst hb;rw[zE]at e;cases e;exact new
 ·rw[zn hb]at e;exact(x b u e).stay (λc v _ q=>k c v q) (λc q=>by rw[zn (zA q hn)];exact q) (λc xs q=>by rw[zn (zA q hn)];exact q) λc o u q=>by rw[zn (zA q hn)];exact q
end
noncomputable def Rd (H:Hp)(a:Addr)(u:HO):Prop:=H a=some u\/∃o,H a=some (.frz o u)
theorem Rd.ok {P:Program}{w:World}{H:Hp}{h:Heap}{a:Addr}{u:HO}(r:Rd H a u)(x:HOk P w H h):Zj P w H h a u:=by
 rcases r with r | ⟨o,r⟩
 ·exact x a u r
 ·obtain⟨_,q⟩:=x a _ r;exact q
noncomputable def Mut:Option HO->Prop
 | some (.lst _)=>True
 | some (.dK _)=>True
 | some (.dT _)=>True
 | some (.set _ _)=>True
 | some (.ins _ _ _)=>True
 | some (.ext _)=>True
 | _=>False
section
variable {P:Program}{w:World}{H:Hp}{h h' :Heap}{x e:Addr}{o' :HO}
theorem HOk.write (ok:HOk P w H h)(mu:Mut (H x))(he:e=x\/H e=some (.own x))(k:∀b u,b ≠ e->h.get? b=some u->h'.get? b=some u)(heo:∃u,h'.get? e=some u)
  (new:Zj P w (upd H x o') h' x o'):HOk P w (upd H x o') h' :=λb u q=>by
 have nown:∀c y,H c=some (.own y)->c ≠ x:=λc y r z=>by subst z;rw[r]at mu;exact mu
 have ntup:∀c xs,H c=some (.tup xs)->c ≠ x:=λc xs r z=>by subst z;rw[r]at mu;exact mu
 by_cases hb:b=x
 ·subst hb;rw[zE]at q;cases q;exact new
 ·rw[zn hb]at q
  by_cases hbe:b=e
  ·have q' :H b=some (.own x):=by
    rcases he with z | z
    ·exact absurd (hbe.trans z) hb
    ·rw[hbe];exact z
   rw[q]at q';cases q';obtain⟨v,hv⟩:=heo;exact⟨v,by rw[hbe];exact hv⟩
  ·refine(ok b u q).stay (λc v hc r=>k c v ?_ r) (λc r=>by rw[zn (nown c b r)];exact r) (λc xs r=>by rw[zn (ntup c xs r)];exact r) λc o u r=>by rw[zn (λz=>by subst z;rw[r]at mu;exact mu)];exact r
   rcases hc with rfl | hc
   ·exact hbe
   ·rintro rfl
    rcases he with z | z
    ·exact nown c b hc z
    ·rw[hc]at z;cases z;exact hb rfl
end
structure Un (fs ex:List Addr) (H H' :Hp) (h h' :Heap):Prop where
 keep:∀b o,h.get? b=some o->H b=none->b ∉ fs->b ∉ ex->h'.get? b=some o
 slot:∀b o,h.get? b=some o->H b=none->b∈fs->b ∉ ex->∃sl,h'.get? b=some { o with slots:=sl }
 free:∀b o,h.get? b=some o->H b=none->b ∉ ex->H' b=none
 there:∀b o,h.get? b=some o->b ∉ ex->∃o',h'.get? b=some o'
 tups:∀b xs,H b=some (.tup xs)->H' b=some (.tup xs)
 frzs:∀b o u,H b=some (.frz o u)->H' b=some (.frz o u)
 tbls:∀b ps q,H b=some (.tbl ps q)->H' b=some (.tbl ps q)
section
variable {fs fs' ex ex' :List Addr}{H H1 H2:Hp}{h h1 h2 h' :Heap}{a x e:Addr}{o:HO}
theorem Un.any (u:Un fs ex H H1 h h1){b:Addr}{ob:Obj}(q:h.get? b=some ob)(n:H b=none)(hx:b ∉ ex):∃sl,h1.get? b=some { ob with slots:=sl }:=by
 by_cases hb:b∈fs
 ·exact u.slot b ob q n hb hx
 ·exact⟨ob.slots,u.keep b ob q n hb hx⟩
theorem Un.kept (k:∀b u,h.get? b=some u->h'.get? b=some u):Un fs ex H H h h' :=
 ⟨λb ob q _ _ _=>k b ob q,λb ob q _ _ _=>⟨ob.slots,k b ob q⟩,λ_ _ _ n _=>n,λb ob q _=>⟨ob,k b ob q⟩,λ_ _ q=>q,λ_ _ _ q=>q,λ_ _ _ q=>q⟩
theorem Un.refl:Un fs ex H H h h:=Un.kept λ_ _ q=>q
theorem Un.laid (k:∀b u,h.get? b=some u->h'.get? b=some u)(hp:h.objs.size<=a)(hn:H a=none):Un fs ex H (upd H a o) h h' where
 keep:=λb u q _ _ _=>k b u q
 slot:=λb u q _ _ _=>⟨u.slots,k b u q⟩
 free:=λb u q n _=>by rw[zn (aC (aF (ao q) hp))];exact n
 there:=λb u q _=>⟨u,k b u q⟩
 tups:=λb xs q=>by rw[zn (zA q hn)];exact q
 frzs:=λb u xs q=>by rw[zn (zA q hn)];exact q
 tbls:=λb ps q e=>by rw[zn (zA e hn)];exact e
theorem Un.write (mu:Mut (H x))(he:e=x\/H e=some (.own x))(k:∀b u,b ≠ e->h.get? b=some u->h'.get? b=some u)(heo:∃u,h'.get? e=some u):Un fs ex H (upd H x o) h h' :=by
 have hx:∀b,H b=none->b ≠ x:=λb n z=>by subst z;rw[n]at mu;exact mu
 have hb:∀b,H b=none->b ≠ e:=λb n z=>by
  subst z;rcases he with r | r
  ·exact hx b n r
  ·rw[n]at r;cases r
 have hm:∀b u,H b=some u->¬ Mut (some u)->b ≠ x:=λb u q nm z=>by subst z;rw[q]at mu;exact nm mu
 refine⟨λb u q n _ _=>k b u (hb b n) q,λb u q n _ _=>⟨u.slots,k b u (hb b n) q⟩,λb u q n _=>by rw[zn (hx b n)];exact n,λb u q _=> ?_,
  λb xs q=>by rw[zn (hm b _ q λz=>z)];exact q,λb u xs q=>by rw[zn (hm b _ q λz=>z)];exact q,λb ps q e=>by rw[zn (hm b _ e λz=>z)];exact e⟩
 by_cases hbe:b=e
 ·subst hbe;exact heo
 ·exact⟨u,k b u hbe q⟩
end
noncomputable def trk (h:Heap)(H:Hp):List Addr:=(aQ h.objs.size).filter λa=>(H a).isSome
noncomputable def X3 (h:Heap)(H:Hp):Heap:=PySem.W.hideAll h (trk h H)
theorem UU (h:Heap)(H:Hp):(X3 h H).objs.size=h.objs.size:=PySem.W.hideAll_size _ _
theorem wH {h:Heap}{H:Hp}{b:Addr}{o:Obj}(e:h.get? b=some o)(n:H b=none):(X3 h H).get? b=some o:=
 PySem.W.hideAll_get _ e λhm=>by
  have q:=(bK.mp hm).2;rw[n]at q;simp at q
theorem V8 {h:Heap}{H:Hp}{b:Addr}{o:Obj}(e:(X3 h H).get? b=some o):h.get? b=some o/\H b=none:=by
 have e' :=PySem.W.of_hideAll _ e;refine⟨e', ?_⟩;cases q:H b with
 | none=>rfl
 | some x=>
  have hm:b∈trk h H:=bK.mpr ⟨aR.mpr (ao e'),by simp[q]⟩
  have z:(X3 h H).get? b=none:=PySem.W.hideAll_none _ hm;rw[z]at e;cases e
end L2
namespace L2
open PySem PySem.Spec PyProof.Rows
structure Mod (K:ae) (mg:Str->Option Value) (base:Heap):Prop where
 kin:K.In base
 glob:base.Ns mainGlobals mg
 blt:∃mb,base.Ns builtinsNs mb/\∀x:Str,x ≠ "__name__"->mb x=bootBuiltins x
 nolimit:base.NoLimit
structure Cx where
 prog:Program
 w:World
 K:ae
 mg:Str->Option Value
 base:Heap
 A:Around
 N:List Str
 s₀:Shared
 H₀:Hp
 env:Env
 outer:List Env
 stack:List Env
 ex:List Addr
 fn:Str->Bool
 calm:Bool
 pn:List (Addr×Obj)
 xe:Value->Shared->Prop
noncomputable def frs (l:List Env):List Addr:=l.filterMap (·.frame)
noncomputable abbrev Cx.fs (X:Cx):List Addr:=frs X.outer
noncomputable def Vis (sc:Scope)(x:Str):Prop:=sc.names.lookup x=some .local\/sc.names.lookup x=some .cell\/sc.names.lookup x=some .free
noncomputable def Loc (sc:Scope)(x:Str):Prop:=sc.names.lookup x=some .local\/sc.names.lookup x=some .cell
noncomputable def Look (env:Env)(h:Heap)(m:Str->Option Value)(x:Str)(u:Value):Prop:=
 (env.kindOf x=some .local/\m x=some u)\/((env.kindOf x=some .cell\/env.kindOf x=some .free)/\∃c,env.cells.lookup x=some c/\h.IsCell c (some u))
structure Cx.Ok (X:Cx):Prop where
 mod:Mod X.K X.mg X.base
 kind:X.env.scope.kind= .function
 glob:X.env.globals=mainGlobals
 blt:X.env.builtins=builtinsNs
 above:X.s₀.heap.objs.size<=X.env.locals
 inj:∀x y c,X.env.cells.lookup x=some c->X.env.cells.lookup y=some c->x=y
 has:∀x,(X.env.kindOf x=some .cell\/X.env.kindOf x=some .free)->∃c,X.env.cells.lookup x=some c
 cab:∀x c,X.fn x=true->X.env.cells.lookup x=some c->X.s₀.heap.objs.size<=c
 hd:X.calm=true->X.A.handled=none
 frames:X.A.frames=some X.stack
 stk:X.stack=X.outer\/(X.stack=X.env :: X.outer/\X.env.frame=some X.env.locals)
 exf:∀b∈X.ex,b ≠ X.env.locals/\∀x c,X.env.cells.lookup x=some c->c ≠ b
 bs:∀b o,X.base.get? b=some o->X.s₀.heap.get? b=some o/\X.H₀ b=none
 bsz:X.base.objs.size<=X.s₀.heap.objs.size
 noex:∀b o,X.base.get? b=some o->b ∉ X.ex
 exfs:∀b∈X.ex,b ∉ X.fs
 funs:X.s₀.heap.FunFrames X.base X.outer
 frf:∀b∈X.fs,X.H₀ b=none
structure Inv (X:Cx) (pins:List (Addr×Obj)) (σ:List (Option V)) (H:Hp) (s:Shared):Prop where
 ok:X.Ok
 os:s.os=X.s₀.os
 bare:AllBare s.gens
 base:Un X.fs X.ex X.H₀ H X.s₀.heap s.heap
 loc:∃m,s.heap.Ns X.env.locals m/\∀(i:Nat) (x:Str) (v:V),X.N[i]? =some x->σ[i]? =some (some v)->Vis X.env.scope x->∃u,zU v u/\Look X.env s.heap m x u
 cell:∀x c,X.env.cells.lookup x=some c->∃v,s.heap.IsCell c v
 free:H X.env.locals=none
 freeC:∀x c,X.env.cells.lookup x=some c->H c=none
 pin:∀p∈X.pn++pins,s.heap.get? p.1=some p.2/\H p.1=none/\p.1 ≠ X.env.locals/\p.1 ∉ X.fs/\∀v,p.2.data ≠ .cell v
 hok:HOk X.prog X.w H s.heap
 len:σ.length=X.N.length
section
variable {X:Cx}{pins:List (Addr×Obj)}{σ:List (Option V)}{H H' :Hp}{s:Shared}{h' :Heap}
theorem Cx.Ok.nofr (ok:X.Ok){b:Addr}{o:Obj}(e:X.base.get? b=some o):b ∉ X.fs:=λhb=>by
 have:=(ok.funs.mem hb).1;rw[e]at this;cases this
theorem Inv.bs (I:Inv X pins σ H s):∀b o,X.base.get? b=some o->s.heap.get? b=some o/\H b=none:=λb o e=>
 ⟨I.base.keep b o (I.ok.bs b o e).1 (I.ok.bs b o e).2 (I.ok.nofr e) (I.ok.noex b o e),I.base.free b o (I.ok.bs b o e).1 (I.ok.bs b o e).2 (I.ok.noex b o e)⟩
theorem Inv.bk (I:Inv X pins σ H s):∀b o,X.base.get? b=some o->s.heap.get? b=some o:=λb o e=>(I.bs b o e).1
theorem Inv.mod (I:Inv X pins σ H s):Mod X.K X.mg X.base:=I.ok.mod
theorem Inv.kIn (I:Inv X pins σ H s):X.K.In s.heap:=I.ok.mod.kin.keeps I.bk
theorem Inv.lt (I:Inv X pins σ H s):X.env.locals < s.heap.objs.size:=let ⟨_,hn,_⟩:=I.loc;hn.lt
theorem Inv.sz (I:Inv X pins σ H s):X.s₀.heap.objs.size<=s.heap.objs.size:=aq I.ok.above (eW I.lt)
theorem Inv.nofs (I:Inv X pins σ H s){a:Addr}(h:s.heap.objs.size<=a):a ∉ X.fs:=λhb=>by
 obtain⟨_,o,ho,_⟩:=I.ok.funs.mem hb;exact absurd (aF (ao ho) (aq I.sz h)) (bi _)
theorem Inv.cne (I:Inv X pins σ H s):∀x c,X.env.cells.lookup x=some c->c ≠ X.env.locals:=λx c e z=>by
 obtain⟨v,o,ho,hd⟩:=I.cell x c e;obtain⟨m,⟨o',es,ep,ho',hd',_⟩,_⟩:=I.loc;rw[z,ho']at ho;cases ho;rw[hd']at hd;cases hd
theorem Inv.funs (I:Inv X pins σ H s):s.heap.FunFrames X.base X.outer:=by
 have all:∀(l:List Env),(∀b∈frs l,b∈X.fs)->X.s₀.heap.FunFrames X.base l->s.heap.FunFrames X.base l:=by
  intro l
  induction l with
  | nil=>intro _ _;trivial
  | cons env r ih=>
   intro hs hl;obtain⟨hk,⟨L,o,hf,hn,ho,hd⟩,hr⟩:=hl;have hL:=hs L (by unfold frs;rw[cS,hf];exact aa)
   obtain⟨sl,e⟩:=I.base.slot L o ho (I.ok.frf L hL) hL λz=>I.ok.exfs L z hL;exact⟨hk,⟨L,_,hf,hn,e,hd⟩,ih (λb hb=>hs b (by unfold frs;rw[cS,hf];exact a8 _ hb)) hr⟩
 exact all _ (λ_ hb=>hb) I.ok.funs
theorem Inv.stack (I:Inv X pins σ H s):s.heap.FunFrames X.base X.stack:=by
 rcases I.ok.stk with e | ⟨e,hf⟩
 ·rw[e];exact I.funs
 ·rw[e];obtain⟨m,hn,_⟩:=I.loc;refine .cons (by rw[I.ok.kind];decide) hf hn ?_ I.funs
  exact Heap.get?_none_of_le (aq I.ok.bsz I.ok.above)
theorem Inv.stkSub (I:Inv X pins σ H s):∀b∈frs X.stack,b∈X.env.locals :: X.fs:=λb hb=>by
 rcases I.ok.stk with e | ⟨e,hf⟩
 ·rw[e]at hb;exact a8 _ hb
 ·rw[e]at hb;unfold frs at hb;rw[cS,hf]at hb;exact hb
theorem Inv.stkFree (I:Inv X pins σ H s):∀b∈frs X.stack,H b=none:=λb hb=>by
 rcases ah.mp (I.stkSub b hb) with e | hb
 ·rw[e];exact I.free
 ·obtain⟨_,o,ho,_⟩:=I.ok.funs.mem hb;exact I.base.free b o ho (I.ok.frf b hb) λz=>I.ok.exfs b z hb
theorem Inv.step {g' :Array GenState}{t' :Nat}{d' :Drawn}{ch:List Addr}(I:Inv X pins σ H s)
  (hch:∀b∈ch,(b∈X.ex\/X.s₀.heap.objs.size<=b)/\b ≠ X.env.locals/\(∀x c,X.env.cells.lookup x=some c->c ≠ b)/\∀p∈X.pn++pins,p.1 ≠ b)
  (keep:∀b o,b ≠ X.env.locals->b ∉ X.fs->b ∉ ch->s.heap.get? b=some o->H b=none->h'.get? b=some o)
  (slot:∀b o,b ≠ X.env.locals->b∈X.fs->b ∉ ch->s.heap.get? b=some o->H b=none->∃sl,h'.get? b=some { o with slots:=sl }) (free:∀b o,b ∉ ch->s.heap.get? b=some o->H b=none->H' b=none)
  (there:∀b o,b ∉ ch->s.heap.get? b=some o->∃o',h'.get? b=some o')
  (tups:∀b xs,H b=some (.tup xs)->H' b=some (.tup xs)) (frzs:∀b o u,H b=some (.frz o u)->H' b=some (.frz o u)) (tbls:∀b ps q,H b=some (.tbl ps q)->H' b=some (.tbl ps q))
  (ns:∀m,s.heap.Ns X.env.locals m->h'.Ns X.env.locals m) (hok:HOk X.prog X.w H' h') (hg:AllBare g'):
  Inv X pins σ H' { s with heap:=h',gens:=g',drawn:=d',toks:=t' }:=by
 have neL:∀b o,X.s₀.heap.get? b=some o->b ≠ X.env.locals:=λb o e=>aC (aF (ao e) I.ok.above);have neC:∀b o,X.s₀.heap.get? b=some o->b ∉ X.ex->b ∉ ch:=λb o e hx hb=>by
  rcases(hch b hb).1 with z | z
  ·exact hx z
  ·exact absurd (aF (ao e) z) (bi _)
 have cellK:∀x c,X.env.cells.lookup x=some c->∀v,s.heap.IsCell c v->h'.IsCell c v:=λx c e v ⟨o,ho,hd⟩=>by
  have nch:=λz=>(hch c z).2.2.1 x c e rfl
  by_cases hc:c∈X.fs
  ·obtain⟨sl,q⟩:=slot c o (I.cne x c e) hc nch ho (I.freeC x c e);exact⟨_,q,hd⟩
  ·exact⟨o,keep c o (I.cne x c e) hc nch ho (I.freeC x c e),hd⟩
 refine⟨I.ok,I.os,hg,⟨λb o e n hb hx=> ?_,λb o e n hb hx=> ?_,λb o e n hx=> ?_,λb o e hx=> ?_,λb xs e=>tups b xs (I.base.tups b xs e),λb o xs e=>frzs b o xs (I.base.frzs b o xs e),λb ps q e=>tbls b ps q (I.base.tbls b ps q e)⟩, ?_,λx c e=> ?_, ?_,λx c e=> ?_,λp hp=> ?_,hok,I.len⟩
 ·exact keep b o (neL b o e) hb (neC b o e hx) (I.base.keep b o e n hb hx) (I.base.free b o e n hx)
 ·obtain⟨sl,e1⟩:=I.base.slot b o e n hb hx;obtain⟨sl',e2⟩:=slot b _ (neL b o e) hb (neC b o e hx) e1 (I.base.free b o e n hx);exact⟨sl',e2⟩
 ·obtain⟨o',e1⟩:=I.base.there b o e hx;exact free b o' (neC b o e hx) e1 (I.base.free b o e n hx)
 ·obtain⟨o',e1⟩:=I.base.there b o e hx;exact there b o' (neC b o e hx) e1
 ·obtain⟨m,hn,hl⟩:=I.loc;refine⟨m,ns m hn,λi x v e1 e2 e3=> ?_⟩;obtain⟨u,r,l⟩:=hl i x v e1 e2 e3;refine⟨u,r, ?_⟩;rcases l with l | ⟨k,c,e,z⟩
  ·exact .inl l
  ·exact .inr ⟨k,c,e,cellK x c e _ z⟩
 ·obtain⟨v,z⟩:=I.cell x c e;exact⟨v,cellK x c e v z⟩
 ·obtain⟨m,⟨o,_,_,ho,_⟩,_⟩:=I.loc;exact free _ o (λz=>(hch _ z).2.1 rfl) ho I.free
 ·obtain⟨v,o,ho,hd⟩:=I.cell x c e;exact free c o (λz=>(hch c z).2.2.1 x c e rfl) ho (I.freeC x c e)
 ·obtain⟨e,n,ne,nf,d⟩:=I.pin p hp;have nch:=λz=>(hch p.1 z).2.2.2 p hp rfl;exact⟨keep p.1 p.2 ne nf nch e n,free p.1 p.2 nch e n,ne,nf,d⟩
theorem Inv.un {t' :Nat}(I:Inv X pins σ H s)(u:Un X.fs [] H H' s.heap h')(hok:HOk X.prog X.w H' h'):Inv X pins σ H' { s with heap:=h',toks:=t' }:=by
 obtain⟨m,⟨o,es,ep,ho,r⟩,_⟩:=id I.loc;obtain⟨sl,hL⟩:=u.any ho I.free (by simp)
 exact I.step (ch:=[]) (λ_ z=>nomatch z) (λb o _ hb _ e n=>u.keep b o e n hb (by simp)) (λb o _ hb _ e n=>u.slot b o e n hb (by simp)) (λb o _ e n=>u.free b o e n (by simp)) (λb o _ e=>u.there b o e (by simp)) u.tups u.frzs u.tbls (λm' hm=>by
  obtain⟨o',es',ep',ho',r'⟩:=hm;rw[ho]at ho';cases ho';exact⟨_,es',ep',hL,r'⟩) hok I.bare
theorem Inv.call {g' :Array GenState}{t' :Nat}{d' :Drawn}{ch:List Addr}(I:Inv X pins σ H s)(u:Un (frs X.stack) ch H H' s.heap h')(hok:HOk X.prog X.w H' h')(hg:AllBare g')
  (hch:∀b∈ch,(b∈X.ex\/X.s₀.heap.objs.size<=b)/\b ≠ X.env.locals/\(∀x c,X.env.cells.lookup x=some c->c ≠ b)/\∀p∈X.pn++pins,p.1 ≠ b):
  Inv X pins σ H' { s with heap:=h',gens:=g',drawn:=d',toks:=t' }:=by
 obtain⟨m,⟨o,es,ep,ho,r⟩,_⟩:=id I.loc;obtain⟨sl,hL⟩:=u.any ho I.free λz=>(hch _ z).2.1 rfl;exact I.step hch (λb o hL hb hc e n=>u.keep b o e n (λz=>(ah.mp (I.stkSub b z)).elim hL hb) hc) (λb o _ _ hc e n=>u.any e n hc) (λb o hc e n=>u.free b o e n hc) (λb o hc e=>u.there b o e hc) u.tups u.frzs u.tbls (λm' hm=>by
  obtain⟨o',es',ep',ho',r'⟩:=hm;rw[ho]at ho';cases ho';exact⟨_,es',ep',hL,r'⟩) hok hg
theorem Inv.turned {t' :Nat}{it:Addr}(I:Inv X pins σ H s)(k:∀b o,b ≠ it->s.heap.get? b=some o->h'.get? b=some o)(hn:H it=none)(hL:it ≠ X.env.locals)
  (h1:it∈X.ex\/X.s₀.heap.objs.size<=it) (h2:∀x c,X.env.cells.lookup x=some c->c ≠ it) (h3:∀p∈X.pn++pins,p.1 ≠ it):Inv X pins σ H { s with heap:=h',toks:=t' }:=by
 have nit:∀b u,H b=some u->b ≠ it:=λb u e z=>by rw[z,hn]at e;cases e
 refine I.step (ch:=[it]) (λb hb=> ?_) (λb o _ _ hc e _=>k b o (λz=>hc (by simp[z])) e) (λb o _ _ hc e _=>⟨o.slots,k b o (λz=>hc (by simp[z])) e⟩) (λ_ _ _ _ n=>n)
  (λb o hc e=>⟨o,k b o (λz=>hc (by simp[z])) e⟩) (λ_ _ e=>e) (λ_ _ _ e=>e) (λ_ _ _ e=>e) (λm hm=> ?_) (λb u e=> ?_) I.bare
 ·have e:=by simpa using hb
  subst e;exact⟨h1,hL,h2,h3⟩
 ·obtain⟨o,es,ep,ho,r⟩:=hm;exact⟨o,es,ep,k _ o (bv hL) ho,r⟩
 ·refine(I.hok b u e).stay (λc v hc q=>k c v ?_ q) (λ_ q=>q) λ_ _ q=>q;rcases hc with z | z
  ·rw[z];exact nit b u e
  ·exact nit c _ z
theorem Inv.tok (I:Inv X pins σ H s)(t:Nat):Inv X pins σ H { s with toks:=t }:=I.un Un.refl I.hok
theorem Inv.kept {t' :Nat}(I:Inv X pins σ H s)(k:∀b u,s.heap.get? b=some u->h'.get? b=some u):Inv X pins σ H { s with heap:=h',toks:=t' }:=I.un (Un.kept k) (I.hok.kept k)
theorem Inv.laid {a:Addr}{o:HO}{t' :Nat}(I:Inv X pins σ H s)(k:∀b u,s.heap.get? b=some u->h'.get? b=some u)(hp:s.heap.objs.size<=a)(new:Zj X.prog X.w (upd H a o) h' a o):
  Inv X pins σ (upd H a o) { s with heap:=h',toks:=t' }:=I.un (Un.laid k hp (I.hok.fresh hp)) (I.hok.laid k hp new)
theorem Inv.write {x e:Addr}{o:HO}{t' :Nat}(I:Inv X pins σ H s)(mu:Mut (H x))(he:e=x\/H e=some (.own x))(k:∀b u,b ≠ e->s.heap.get? b=some u->h'.get? b=some u)(heo:∃u,h'.get? e=some u)
  (new:Zj X.prog X.w (upd H x o) h' x o):Inv X pins σ (upd H x o) { s with heap:=h',toks:=t' }:=I.un (Un.write mu he k heo) (I.hok.write mu he k heo new)
theorem Inv.pins_of {pins' :List (Addr×Obj)}(I:Inv X pins σ H s)(h:∀p∈pins',s.heap.get? p.1=some p.2/\H p.1=none/\p.1 ≠ X.env.locals/\p.1 ∉ X.fs/\∀v,p.2.data ≠ .cell v):Inv X pins' σ H s:=
 ⟨I.ok,I.os,I.bare,I.base,I.loc,I.cell,I.free,I.freeC,λp hp=>(aZ.mp hp).elim (λz=>I.pin p (cJ _ z)) (h p),I.hok,I.len⟩
theorem uw {N:List Str}(hN:N.Nodup){i j:Nat}{x:Str}(a:N[i]? =some x)(b:N[j]? =some x):i=j:=by
 obtain⟨h1,e1⟩:=ak.mp a;obtain⟨h2,e2⟩:=ak.mp b;exact(g7 hN).mp (e1.trans e2.symm)
theorem Wm {M:Model}{A:Around}{E:Value->Shared->Prop}{i:Nat}{x:Str}{v:V}{u:Value}{Q:Unit->Shared->Prop}(I:Inv X pins σ H s)(hN:X.N.Nodup)(hi:X.N[i]? =some x)(hx:Loc X.env.scope x)(r:zU v u)
  (h:∀s',Inv X pins (σ.set i (some v)) H s' ->(∃a,cu a s.heap s'.heap/\(a=X.env.locals\/X.env.cells.lookup x=some a))->Q () s') (hf:X.fn x=true\/X.env.scope.names.lookup x=some .local:=by first | exact .inl rfl | exact .inr rfl | assumption):wpAny M A (storeName X.env x u) Q E s:=by
 obtain⟨m,hn,hl⟩:=id I.loc;have hcls:(X.env.scope.kind == .class || (X.env.scope.kind == .module && X.env.locals != X.env.globals))=false:=by rw[I.ok.kind];rfl
 have hiσ:i < σ.length:=by rw[I.len];exact(ak.mp hi).1
 have cne:=I.cne;have tracked:∀{a:Addr} {h' :Heap},(∃o,s.heap.get? a=some o/\H a=none)->cu a _ h' ->HOk _ X.w H h' :=λ{a h'} ha hs b ob e=>by
  obtain⟨_,_,hfree⟩:=ha;refine(I.hok b ob e).stay (λc w' hc q=>(hs.2 c ?_).trans q) (λ_ q=>q) λ_ _ q=>q
  rintro rfl
  rcases hc with rfl | hc
  ·rw[hfree]at e;cases e
  ·rw[hfree]at hc;cases hc
 rcases hx with hk | hk
 ·refine wpAny_storeName_local hk hn (λh' hn' hs=> ?_) hcls;obtain⟨oL,_,_,hoL,_⟩:=id hn;refine h _ ⟨I.ok,I.os,I.bare,⟨λb o e n hb hx=> ?_,λb o e n hb hx=> ?_,I.base.free,λb o e hx=> ?_,I.base.tups,I.base.frzs,I.base.tbls⟩,⟨_,hn',λj y v' e1 e2 e3=> ?_⟩,λy c e=> ?_,I.free,I.freeC,λp hp=> ?_,tracked ⟨oL,hoL,I.free⟩ hs,by simpa using I.len⟩ ⟨_,hs,.inl rfl⟩
  ·exact(hs.2 b (aC (aF (ao e) I.ok.above))).trans (I.base.keep b o e n hb hx)
  ·obtain⟨sl,e1⟩:=I.base.slot b o e n hb hx;exact⟨sl,(hs.2 b (aC (aF (ao e) I.ok.above))).trans e1⟩
  ·obtain⟨o',e1⟩:=I.base.there b o e hx;exact⟨o',(hs.2 b (aC (aF (ao e) I.ok.above))).trans e1⟩
  ·by_cases hj:j=i
   ·subst hj;rw[hi]at e1;cases e1;rw[bb hiσ]at e2;cases e2;exact⟨u,r,.inl ⟨hk,by simp⟩⟩
   ·rw[aE (bv hj)]at e2;obtain⟨u',r',q⟩:=hl j y v' e1 e2 e3;refine⟨u',r', ?_⟩;rcases q with ⟨k,e⟩ | ⟨k,c,e,z⟩
    ·refine .inl ⟨k, ?_⟩;have:y ≠ x:=λe=>hj (uw hN e1 (e ▸ hi));simp[this,e]
    ·exact .inr ⟨k,c,e,z.sameBut hs (cne y c e)⟩
  ·obtain⟨w',z⟩:=I.cell y c e;exact⟨w',z.sameBut hs (cne y c e)⟩
  ·obtain⟨e,n,ne,nf,d⟩:=I.pin p hp;exact⟨(hs.2 p.1 ne).trans e,n,ne,nf,d⟩
 ·have hfn:X.fn x=true:=by
   rcases hf with z | z
   ·exact z
   ·rw[z]at hk;cases hk
  obtain⟨c,hc⟩:=I.ok.has x (.inl hk);obtain⟨w',z⟩:=I.cell x c hc;refine wpAny_storeName_cell I.ok.kind hk hc z (λh' hc' hs=> ?_);obtain⟨oc,hoc,hocd⟩:=id z;refine h _ ⟨I.ok,I.os,I.bare,⟨λb o e n hb hx=> ?_,λb o e n hb hx=> ?_,I.base.free,λb o e hx=> ?_,I.base.tups,I.base.frzs,I.base.tbls⟩,⟨m,hn.sameBut hs (bv (cne x c hc)),λj y v' e1 e2 e3=> ?_⟩,λy c' e=> ?_,I.free,I.freeC,λp hp=> ?_,tracked ⟨oc,hoc,I.freeC x c hc⟩ hs,by simpa using I.len⟩ ⟨c,hs,.inr hc⟩
  ·exact(hs.2 b (aC (aF (ao e) (I.ok.cab x c hfn hc)))).trans (I.base.keep b o e n hb hx)
  ·obtain⟨sl,e1⟩:=I.base.slot b o e n hb hx;exact⟨sl,(hs.2 b (aC (aF (ao e) (I.ok.cab x c hfn hc)))).trans e1⟩
  ·obtain⟨o',e1⟩:=I.base.there b o e hx;exact⟨o',(hs.2 b (aC (aF (ao e) (I.ok.cab x c hfn hc)))).trans e1⟩
  ·by_cases hj:j=i
   ·subst hj;rw[hi]at e1;cases e1;rw[bb hiσ]at e2;cases e2;exact⟨u,r,.inr ⟨.inl hk,c,hc,hc'⟩⟩
   ·rw[aE (bv hj)]at e2;obtain⟨u',r',q⟩:=hl j y v' e1 e2 e3;refine⟨u',r', ?_⟩;rcases q with q | ⟨k,c',e,z'⟩
    ·exact .inl q
    ·refine .inr ⟨k,c',e,z'.sameBut hs ?_⟩
     rintro rfl
     exact hj (uw hN e1 (I.ok.inj _ _ _ e hc ▸ hi))
  ·by_cases hcc:c' =c
   ·subst hcc;exact⟨_,hc'⟩
   ·obtain⟨w2,z2⟩:=I.cell y c' e;exact⟨w2,z2.sameBut hs hcc⟩
  ·obtain⟨e,n,ne,nf,d⟩:=I.pin p hp;refine⟨(hs.2 p.1 ?_).trans e,n,ne,nf,d⟩;intro q;rw[q,hoc]at e;have q' :=aD e;exact d w' (by rw[← q'];exact hocd)
theorem Jn {M:Model}{A:Around}{E:Value->Shared->Prop}{i:Nat}{x:Str}{v:V}{u:Value}{Q:Unit->Shared->Prop}(I:Inv X pins σ H s)(hN:X.N.Nodup)(hi:X.N[i]? =some x)(hx:Loc X.env.scope x)(r:zU v u)
  (h:∀s',Inv X pins (σ.set i (some v)) H s' ->Q () s') (hf:X.fn x=true\/X.env.scope.names.lookup x=some .local:=by first | exact .inl rfl | exact .inr rfl | assumption):wpAny M A (storeName X.env x u) Q E s:=
 Wm I hN hi hx r (λs' I' _=>h s' I') hf
theorem Inv.call' {s' :Shared}{ch:List Addr}(I:Inv X pins σ H s)(ho:s'.os=s.os)(u:Un (frs X.stack) ch H H' s.heap s'.heap)(hok:HOk X.prog X.w H' s'.heap)(hg:AllBare s'.gens)
  (hch:∀b∈ch,(b∈X.ex\/X.s₀.heap.objs.size<=b)/\b ≠ X.env.locals/\(∀x c,X.env.cells.lookup x=some c->c ≠ b)/\∀p∈X.pn++pins,p.1 ≠ b):Inv X pins σ H' s' :=by
 obtain⟨h',g',d',t',o'⟩:=s';have e:=ho;subst e;exact I.call u hok hg hch
end
noncomputable abbrev XK:=Value->Option Addr->Hp->Prop
noncomputable abbrev St:=List (Option V)
noncomputable abbrev VK:=V->Hp->Prop
noncomputable abbrev TE:=St->Hp->VK->Prop
noncomputable abbrev TT:=St->Hp->(Bool->Hp->Prop)->Prop
noncomputable abbrev TA:=St->Hp->(List V->Hp->Prop)->Prop
structure vg where
 nx:St->Hp->Prop
 rt:VK
 bk:St->Hp->Prop:=λ_ _=>False
 ct:St->Hp->Prop:=λ_ _=>False
noncomputable abbrev TS:=vg->St->Hp->Prop
noncomputable def EP (X:Cx)(pins:List (Addr×Obj))(σ:St)(Q:VK)(u:Value)(s' :Shared):Prop:=∃v H',Inv X pins σ H' s' /\zU v u/\Q v H'
noncomputable def TP (X:Cx)(pins:List (Addr×Obj))(σ:St)(Q:Bool->Hp->Prop)(b:Bool)(s' :Shared):Prop:=∃H',Inv X pins σ H' s' /\Q b H'
noncomputable def AP (X:Cx)(pins:List (Addr×Obj))(σ:St)(Q:List V->Hp->Prop)(us:List Value)(s' :Shared):Prop:=∃vs H',Inv X pins σ H' s' /\zS vs us/\Q vs H'
noncomputable def SP (X:Cx)(pins:List (Addr×Obj))(D:vg)(f:Flow)(s' :Shared):Prop:=
 match f with
 | .next=>∃σ' H',Inv X pins σ' H' s' /\D.nx σ' H'
 | .brk=>∃σ' H',Inv X pins σ' H' s' /\D.bk σ' H'
 | .cont=>∃σ' H',Inv X pins σ' H' s' /\D.ct σ' H'
 | .ret u=>∃v σ' H',Inv X pins σ' H' s' /\zU v u/\D.rt v H'
noncomputable def PE (X:Cx)(e:Expr)(t:TE):Prop:=
 ∀(pins:List (Addr×Obj)) (s:Shared) (σ:St) (H:Hp) (Q:VK),Inv X pins σ H s->t σ H Q->wpAny (model X.prog X.w) X.A (eval e X.env) (EP X pins σ Q) X.xe s
noncomputable def PT (X:Cx)(e:Expr)(t:TT):Prop:=
 ∀(pins:List (Addr×Obj)) (s:Shared) (σ:St) (H:Hp) (Q:Bool->Hp->Prop),Inv X pins σ H s->t σ H Q->wpAny (model X.prog X.w) X.A (isTrue e X.env (eval e X.env)) (TP X pins σ Q) X.xe s
noncomputable def PW (X:Cx)(e:Expr)(t:TT):Prop:=
 ∀(whole:Sem Value) (pins:List (Addr×Obj)) (s:Shared) (σ:St) (H:Hp) (Q:Bool->Hp->Prop),Inv X pins σ H s->t σ H Q->wpAny (model X.prog X.w) X.A (isTrue e X.env whole) (TP X pins σ Q) X.xe s
theorem PW.pt {X:Cx}{e:Expr}{t:TT}(h:PW X e t):PT X e t:=h _
noncomputable def PA (X:Cx)(es:List Expr)(t:TA):Prop:=
 ∀(pos:Pos) (pins:List _) (s:Shared) (σ:St) (H:Hp) (Q:List V->Hp->Prop),Inv X pins σ H s->t σ H Q->wpAny (model X.prog X.w) X.A (spliced (backTo pos (starEach es X.env))) (AP X pins σ Q) X.xe s
noncomputable def PS (X:Cx)(st:Stmt)(t:TS):Prop:=
 ∀(pins:List (Addr×Obj)) (s:Shared) (σ:St) (H:Hp) (D:vg),Inv X pins σ H s->t D σ H->wpAny (model X.prog X.w) X.A (exec st X.env) (SP X pins D) X.xe s
noncomputable def PSs (X:Cx)(st:List Stmt)(t:TS):Prop:=
 ∀(pins:List (Addr×Obj)) (s:Shared) (σ:St) (H:Hp) (D:vg),Inv X pins σ H s->t D σ H->wpAny (model X.prog X.w) X.A (execs st X.env) (SP X pins D) X.xe s
theorem thn {α:Type}{t:Sem α}{Q Q' :α->Shared->Prop}{M:Model}{A:Around}{E:Value->Shared->Prop}{s:Shared}(h:wpAny M A t Q E s)(hQ:∀a s,Q a s->Q' a s):wpAny M A t Q' E s:=cx h hQ λ_ _ x=>x
end L2
namespace L2
open PySem PySem.Spec PyProof.Rows
section
variable {X:Cx}
theorem bin {a b:Expr}{ta tb:TE}(ha:PE X a ta)(hb:PE X b tb){pins:List (Addr×Obj)}{s:Shared}{σ:St}{H:Hp}{R:V->V->Hp->Prop}(I:Inv X pins σ H s)(h:ta σ H λx H1=>tb σ H1 λy H2=>R x y H2)
  {α:Type} {Q:α->Shared->Prop} {f:Value->Value->Sem α}
  (hf:∀v u s2 x y H2,Inv X pins σ H2 s2->zU x v->zU y u->R x y H2->wpAny (model X.prog X.w) X.A (f v u) Q X.xe s2):
  wpAny (model X.prog X.w) X.A (eval a X.env) (λv s₁=>wpAny (model X.prog X.w) X.A (eval b X.env) (λu s₂=>wpAny (model X.prog X.w) X.A (f v u) Q X.xe s₂) X.xe s₁) X.xe s:=by
 refine thn (ha _ s σ H _ I h) λv s1 ⟨x,H1,I1,r1,q1⟩=> ?_;refine thn (hb _ s1 σ H1 _ I1 q1) λu s2 ⟨y,H2,I2,r2,q2⟩=> ?_;exact hf v u s2 x y H2 I2 r1 r2 q2
noncomputable def V9 (i:Nat):TE:=λσ H Q=>∃v,σ[i]? =some (some v)/\Q v H
noncomputable def tC (v:V):TE:=λ_ H Q=>Q v H
theorem Xj {i:Nat}{x:Str}{pos:Pos}(hN:X.N[i]? =some x)(hv:Vis X.env.scope x)(hd:(x == ("__debug__":Str))=false:=by decide)(hcd:(x == ("__classdict__":Str))=false:=by decide):PE X (.Name x pos) (V9 i):=by
 intro pins s σ H Q I h;obtain⟨v,e,h⟩:=h;obtain⟨m,hn,hl⟩:=I.loc;obtain⟨u,r,l⟩:=hl i x v hN e hv;have fin:EP X _ σ Q u s:=⟨v,H,I,r,h⟩;rcases l with ⟨hk,hm⟩ | ⟨hk,c,hc,hcell⟩
 ·exact wpAny_Name (wpAny_loadName_local I.ok.kind hk hn hm fin) hd
 ·rcases hk with hk | hk
  ·exact wpAny_Name (wpAny_loadName_cell I.ok.kind hk hc hcell fin) hd
  ·exact wpAny_Name (wpAny_loadName_free I.ok.kind hk hc hcell fin hcd) hd
theorem Xk {i j pos}:PE X (.Constant (.int i) j pos) (tC (.int i)):=λ_ _ _ H _ I h=>wpAny_Constant_int ⟨.int i,H,I.tok _,⟨_,rfl⟩,h⟩
theorem G6 {b j pos}:PE X (.Constant (.bool b) j pos) (tC (.bl b)):=λ_ _ _ H _ I h=>Constant_bool ⟨.bl b,H,I,rfl,h⟩
theorem Xl {j pos}:PE X (.Constant .none j pos) (tC .non):=λ_ _ _ H _ I h=>Constant_none ⟨.non,H,I,rfl,h⟩
theorem vh {x j pos}:PE X (.Constant (.str x) j pos) (tC (.str x)):=λ_ _ _ H _ I h=>Calls.Constant_str ⟨.str x,H,I.tok _,⟨_,rfl⟩,h⟩
noncomputable def Gl (X:Cx)(x:Str):Prop:=X.env.kindOf x=some .globalImplicit
theorem UV {E:Value->Shared->Prop}{pins:List (Addr×Obj)}{s:Shared}{σ:St}{H:Hp}{x:Str}{u:Value}{pos:Pos}{Q:Value->Shared->Prop}(I:Inv X pins σ H s)(hg:Gl X x)(hm:X.mg x=some u)(h:Q u s)
  (hd:(x == ("__debug__":Str))=false:=by decide):wpAny (model X.prog X.w) X.A (eval (.Name x pos) X.env) Q E s:=
 dG I.ok.kind hg (Calls.loadGlobal_global (by rw[I.ok.glob];exact I.mod.glob.keeps I.bk) hm h) hd
theorem ZP {E:Value->Shared->Prop}{pins:List (Addr×Obj)}{s:Shared}{σ:St}{H:Hp}{x:Str}{u:Value}{pos:Pos}{Q:Value->Shared->Prop}(I:Inv X pins σ H s)(hg:Gl X x)(hm:X.mg x=none)(hv:bootBuiltins x=some u)(h:Q u s)
  (hn:x ≠ "__name__":=by decide) (hd:(x == ("__debug__":Str))=false:=by decide):wpAny (model X.prog X.w) X.A (eval (.Name x pos) X.env) Q E s:=by
 obtain⟨mb,h1,h2⟩:=I.mod.blt;exact dG I.ok.kind hg (Calls.loadGlobal_builtin (by rw[I.ok.glob];exact I.mod.glob.keeps I.bk) hm (by rw[I.ok.blt];exact h1.keeps I.bk) ((h2 x hn).trans hv) h) hd
theorem Va {x:Str}{v:V}{u:Value}{pos:Pos}(hg:Gl X x)(hm:X.mg x=some u)(r:zU v u)(hd:(x == ("__debug__":Str))=false:=by decide):PE X (.Name x pos) (tC v):=
 λ_ _ _ H _ I h=>UV I hg hm ⟨v,H,I,r,h⟩ hd
theorem Vb {x:Str}{v:V}{u:Value}{pos:Pos}(hg:Gl X x)(hm:X.mg x=none)(hv:bootBuiltins x=some u)(r:zU v u)(hn:x ≠ "__name__":=by decide)(hd:(x == ("__debug__":Str))=false:=by decide):PE X (.Name x pos) (tC v):=
 λ_ _ _ H _ I h=>ZP I hg hm hv ⟨v,H,I,r,h⟩ hn hd
variable {a b:Expr}{ta tb:TE}{pos:Pos}
variable {tA tB' :TT}{rest:List Expr}
noncomputable def tAnd (t u:TT):TT:=λσ H Q=>t σ H λc H1=>if c=true then u σ H1 Q else Q false H1
noncomputable def tOr (t u:TT):TT:=λσ H Q=>t σ H λc H1=>if c=true then Q true H1 else u σ H1 Q
noncomputable def tNot (t:TT):TT:=λσ H Q=>t σ H λc H1=>Q (!c) H1
theorem Vc (ha:PT X a tA):PW X (.BoolOp .And [a] pos) tA:=by
 intro wh pins s σ H Q I h;refine isTrue_and (thn (ha _ s σ H Q I h) λc s1 e=> ?_);cases c with
 | true=>exact isTrue_and_nil e
 | false=>exact e
theorem Xm (ha:PT X a tA):PW X (.BoolOp .Or [a] pos) tA:=by
 intro wh pins s σ H Q I h;refine isTrue_or (thn (ha _ s σ H Q I h) λc s1 e=> ?_);cases c with
 | false=>exact isTrue_or_nil e
 | true=>exact e
theorem Xn (ha:PT X a tA)(hb:PW X (.BoolOp .And (b :: rest) pos) tB'):PW X (.BoolOp .And (a :: b :: rest) pos) (tAnd tA tB'):=by
 intro wh pins s σ H Q I h;refine isTrue_and (thn (ha _ s σ H _ I h) λc s1 ⟨H1,I1,q1⟩=> ?_);cases c with
 | true=>exact hb wh _ s1 σ H1 Q I1 q1
 | false=>exact⟨H1,I1,q1⟩
theorem G7 (ha:PT X a tA)(hb:PW X (.BoolOp .Or (b :: rest) pos) tB'):PW X (.BoolOp .Or (a :: b :: rest) pos) (tOr tA tB'):=by
 intro wh pins s σ H Q I h;refine isTrue_or (thn (ha _ s σ H _ I h) λc s1 ⟨H1,I1,q1⟩=> ?_);cases c with
 | true=>exact⟨H1,I1,q1⟩
 | false=>exact hb wh _ s1 σ H1 Q I1 q1
theorem Xo (ha:PT X a tA):PT X (.UnaryOp .Not a pos) (tNot tA):=by
 intro pins s σ H Q I h;exact isTrue_not (ha _ s σ H (λc H1=>Q _ H1) I h)
noncomputable def G8 (ta tb:TE):TE:=λσ H Q=>ta σ H λx H1=>∃c,x= .bl c/\if c=true then tb σ H1 Q else Q (.bl false) H1
noncomputable def tOrV (ta tb:TE):TE:=λσ H Q=>ta σ H λx H1=>∃c,x= .bl c/\if c=true then Q (.bl true) H1 else tb σ H1 Q
noncomputable def G9 (ta:TE):TE:=λσ H Q=>ta σ H λx H1=>∃c,x= .bl c/\Q (.bl (!c)) H1
theorem Xp {op}{t:TE}(h:PE X a t):PE X (.BoolOp op [a] pos) t:=λpins s σ H Q I hw=>BoolOp_one (h _ s σ H Q I hw)
theorem Xq (ha:PE X a ta)(hb:PE X (.BoolOp .And (b :: rest) pos) tb):PE X (.BoolOp .And (a :: b :: rest) pos) (G8 ta tb):=by
 intro pins s σ H Q I h;refine BoolOp_and (thn (ha _ s σ H _ I h) λv s1 ⟨x,H1,I1,r1,q1⟩=> ?_);obtain⟨c,rfl,q1⟩:=q1;cases r1;refine aS ?_;cases c with
 | true=>exact hb _ s1 σ H1 Q I1 q1
 | false=>exact⟨.bl _,H1,I1,rfl,q1⟩
theorem Ga (ha:PE X a ta)(hb:PE X (.BoolOp .Or (b :: rest) pos) tb):PE X (.BoolOp .Or (a :: b :: rest) pos) (tOrV ta tb):=by
 intro pins s σ H Q I h;refine BoolOp_or (thn (ha _ s σ H _ I h) λv s1 ⟨x,H1,I1,r1,q1⟩=> ?_);obtain⟨c,rfl,q1⟩:=q1;cases r1;refine aS ?_;cases c with
 | false=>exact hb _ s1 σ H1 Q I1 q1
 | true=>exact⟨.bl _,H1,I1,rfl,q1⟩
theorem Xr (ha:PE X a ta):PE X (.UnaryOp .Not a pos) (G9 ta):=by
 intro pins s σ H Q I h;refine UnaryOp_ (thn (ha _ s σ H _ I h) λv s1 ⟨x,H1,I1,r1,q1⟩=> ?_);obtain⟨c,rfl,q1⟩:=q1;cases r1;exact not_of (aS ⟨.bl _,H1,I1,rfl,q1⟩)
noncomputable def tIf (t:TT)(ta tb:TE):TE:=λσ H Q=>t σ H λc H1=>if c=true then ta σ H1 Q else tb σ H1 Q
theorem qS {c:Expr}(hc:PT X c tA)(ha:PE X a ta)(hb:PE X b tb):PE X (.IfExp c a b pos) (tIf tA ta tb):=by
 intro pins s σ H Q I h;refine wpAny_IfExp (thn (hc _ s σ H _ I h) λd s1 ⟨H1,I1,q1⟩=> ?_);cases d with
 | true=>exact ha _ s1 σ H1 Q I1 q1
 | false=>exact hb _ s1 σ H1 Q I1 q1
end
end L2
namespace L2
open PySem PySem.Spec PyProof.Rows
noncomputable def SqL (K:ae)(H:Hp)(a:Addr)(xs:List V):Prop:=
 Rd H a (.lst xs)\/
  ∃(o:Obj) (its:Array Value) (n:Nat),K.lookup a=some o/\o.cls= .type "list"/\o.dict=none/\o.data= .seq its n/\its.size<=sizeLine/\zS xs its.toList
noncomputable def SqT (K:ae)(H:Hp)(a:Addr)(xs:List V):Prop:=
 Rd H a (.tup xs)\/
  ∃(o:Obj) (its:Array Value) (n:Nat),K.lookup a=some o/\o.cls= .type "tuple"/\o.data= .seq its n/\its.size<=sizeLine/\zS xs its.toList
noncomputable def absV:Value->Option V
 | .none=>some .non
 | .bool b=>some (.bl b)
 | .int i _=>some (.int i)
 | .str x _=>some (.str x)
 | .bytes b _=>some (.byt b)
 | .float b _=>some (.flt b)
 | .ref a=>some (.ref a)
 | .type n=>some (.ty n)
 | _=>none
theorem zU.abs {x:V}{u:Value}(r:zU x u):absV u=some x:=by
 cases x with
 | non=>cases r;rfl
 | bl _=>cases r;rfl
 | int _=>obtain⟨t,rfl⟩:=r;rfl
 | str _=>obtain⟨t,rfl⟩:=r;rfl
 | byt _=>obtain⟨t,rfl⟩:=r;rfl
 | flt _=>obtain⟨t,rfl⟩:=r;rfl
 | ref _=>cases r;rfl
 | ty _=>cases r;rfl
theorem zU.inj {x y:V}{u:Value}(r:zU x u)(q:zU y u):x=y:=aD (r.abs.symm.trans q.abs)
theorem zS.inj:∀{xs ys:List V} {us:List Value},zS xs us->zS ys us->xs=ys
 | _,_,_,.nil,.nil=>rfl
 | _,_,_,.cons r t,.cons r' t' =>by rw[r.inj r',zS.inj t t']
section
variable {X:Cx}{pins:List (Addr×Obj)}{σ:St}{H:Hp}{s:Shared}{a:Addr}{xs ys:List V}
theorem SqL.of {K:ae}(h:H a=some (.lst xs)):SqL K H a xs:= .inl (.inl h)
theorem SqT.of {K:ae}(h:H a=some (.tup xs)):SqT K H a xs:= .inl (.inl h)
theorem Inv.list (I:Inv X pins σ H s)(h:SqL X.K H a xs):∃its:List Value,zS xs its/\PlainL s.heap a its.toArray/\xs.length<=sizeLine:=by
 rcases h with h | ⟨o,its,n,hk,hc,hd,hs,hz,r⟩
 ·obtain⟨z,its,n,r,e⟩:=h.ok I.hok;exact⟨its,r,⟨_,n,e,rfl,rfl,rfl⟩,z⟩
 ·refine⟨its.toList,r,⟨o,n,I.kIn a o hk,hc,hd,by simpa using hs⟩, ?_⟩
  have e:=r.length;simp only[cU]at e;omega
theorem Inv.tuple (I:Inv X pins σ H s)(h:SqT X.K H a xs):∃its:List Value,zS xs its/\IsTup s.heap a its.toArray/\xs.length<=sizeLine:=by
 rcases h with h | ⟨o,its,n,hk,hc,hs,hz,r⟩
 ·obtain⟨z,its,r,p,_⟩:=h.ok I.hok;exact⟨its,r,p,z⟩
 ·refine⟨its.toList,r,⟨o,I.kIn a o hk,hc,n,by simpa using hs⟩, ?_⟩
  have e:=r.length;simp only[cU]at e;omega
theorem Inv.list_inj (I:Inv X pins σ H s)(h:SqL X.K H a xs)(h' :SqL X.K H a ys):xs=ys:=by
 obtain⟨its,r,⟨o,n,e,_,_,d⟩,_⟩:=I.list h;obtain⟨its',r',⟨o',n',e',_,_,d'⟩,_⟩:=I.list h';rw[e]at e';cases e';rw[d]at d';injection d' with d1 _;have:=by simpa using congrArg Array.toList d1
 subst this;exact r.inj r'
theorem Inv.tuple_inj (I:Inv X pins σ H s)(h:SqT X.K H a xs)(h' :SqT X.K H a ys):xs=ys:=by
 obtain⟨its,r,⟨o,e,_,n,d⟩,_⟩:=I.tuple h;obtain⟨its',r',⟨o',e',_,n',d'⟩,_⟩:=I.tuple h';rw[e]at e';cases e';rw[d]at d';injection d' with d1 _;have:=by simpa using congrArg Array.toList d1
 subst this;exact r.inj r'
end
noncomputable abbrev Cx.wish (X:Cx)(E:Value->Shared->Prop):Cx:={ X with xe:=E }
noncomputable abbrev Cx.nox (X:Cx):Cx:=X.wish λ_ _=>False
theorem Cx.Ok.wish {X:Cx}(ok:X.Ok)(E:Value->Shared->Prop):(X.wish E).Ok:=
 ⟨ok.mod,ok.kind,ok.glob,ok.blt,ok.above,ok.inj,ok.has,ok.cab,ok.hd,ok.frames,ok.stk,ok.exf,ok.bs,ok.bsz,ok.noex,ok.exfs,ok.funs,ok.frf⟩
theorem Cx.Ok.unwish {X:Cx}{E:Value->Shared->Prop}(ok:(X.wish E).Ok):X.Ok:=
 ⟨ok.mod,ok.kind,ok.glob,ok.blt,ok.above,ok.inj,ok.has,ok.cab,ok.hd,ok.frames,ok.stk,ok.exf,ok.bs,ok.bsz,ok.noex,ok.exfs,ok.funs,ok.frf⟩
section
variable {X:Cx}{pins:List (Addr×Obj)}{σ:St}{H:Hp}{s:Shared}{E:Value->Shared->Prop}
theorem Inv.wish (I:Inv X pins σ H s)(E:Value->Shared->Prop):Inv (X.wish E) pins σ H s:=⟨I.ok.wish E,I.os,I.bare,I.base,I.loc,I.cell,I.free,I.freeC,I.pin,I.hok,I.len⟩
theorem Inv.unwish (I:Inv (X.wish E) pins σ H s):Inv X pins σ H s:=⟨I.ok.unwish,I.os,I.bare,I.base,I.loc,I.cell,I.free,I.freeC,I.pin,I.hok,I.len⟩
theorem SP.unwish {D:vg}{f:Flow}{s' :Shared}(h:SP (X.wish E) pins D f s'):SP X pins D f s' :=by
 cases f with
 | next=>obtain⟨σ',H',I,q⟩:=h;exact⟨σ',H',I.unwish,q⟩
 | brk=>obtain⟨σ',H',I,q⟩:=h;exact⟨σ',H',I.unwish,q⟩
 | cont=>obtain⟨σ',H',I,q⟩:=h;exact⟨σ',H',I.unwish,q⟩
 | ret u=>obtain⟨v,σ',H',I,r,q⟩:=h;exact⟨v,σ',H',I.unwish,r,q⟩
theorem PSs.nox {st:List Stmt}{t:TS}(h:PSs X.nox st t):PSs X st t:=λpins s σ H D I hw=>
 cx (h _ s σ H D (I.wish _) hw) (λ_ _ q=>q.unwish) λ_ _ z=>bL z
end
section
variable {X:Cx}{st:Stmt}{rest:List Stmt}{t u:TS}{e:Expr}{te:TE}{pos:Pos}
noncomputable def Gb:TS:=λD σ H=>D.nx σ H
noncomputable def tSeq (t u:TS):TS:=λD σ H=>t { D with nx:=u D } σ H
theorem Vd:PSs X [] Gb:=λ_ _ σ H _ I h=>wpAny_execs_nil ⟨σ,H,I,h⟩
theorem qU (h1:PS X st t)(h2:PSs X rest u):PSs X (st :: rest) (tSeq t u):=by
 intro pins s σ H D I h;refine wpAny_execs_cons (thn (h1 _ s σ H _ I h) λf s1 q=> ?_);cases f with
 | next=>
  obtain⟨σ',H',I',q⟩:=q;exact h2 _ s1 σ' H' D I' q
 | ret v=>exact q
 | brk=>exact q
 | cont=>exact q
theorem Ve (h1:PS X st t):PSs X [st] t:=by
 intro pins s σ H D I h;refine wpAny_execs_cons (thn (h1 _ s σ H D I h) λf s1 q=> ?_);cases f with
 | next=>exact wpAny_execs_nil q
 | ret v=>exact q
 | brk=>exact q
 | cont=>exact q
theorem Inv.quiet {pins:List (Addr×Obj)}{σ:St}{H:Hp}{s:Shared}(I:Inv X pins σ H s):interactive X.env=false:=by simp[interactive,I.ok.kind]
noncomputable def Gc (te:TE):TS:=λD σ H=>te σ H λ_ H1=>D.nx σ H1
theorem ua (he:PE X e te)(hs:swapsWith e none pos.line X.env=pure false:=by rfl):PS X (.Expr e pos) (Gc te):=by
 intro pins s σ H D I h;exact wpAny_Expr_any (thn (he _ s σ H _ I h) λv s1 ⟨x,H1,I1,r1,q1⟩=>⟨σ,H1,I1,q1⟩) I.quiet hs
noncomputable def tRet (te:TE):TS:=λD σ H=>te σ H D.rt
theorem vi (he:PE X e te):PS X (.Return (some e) pos) (tRet te):=by
 intro pins s σ H D I h;exact wpAny_Return_some (thn (he _ s σ H _ I h) λv s1 ⟨x,H1,I1,r1,q1⟩=>⟨x,σ,H1,I1,r1,q1⟩)
noncomputable def tIfS (c:TT)(t u:TS):TS:=λD σ H=>c σ H λb H1=>if b=true then t D σ H1 else u D σ H1
theorem Ge {c:Expr}{a b:List Stmt}{tc:TT}(hc:PT X c tc)(ha:PSs X a t)(hb:PSs X b u):PS X (.If c a b pos) (tIfS tc t u):=by
 intro pins s σ H D I h;refine wpAny_If (thn (hc _ s σ H _ I h) λd s1 ⟨H1,I1,q1⟩=> ?_);cases d with
 | true=>exact ha _ s1 σ H1 D I1 q1
 | false=>exact hb _ s1 σ H1 D I1 q1
end
noncomputable abbrev TG:=V->St->Hp->(St->Hp->Prop)->Prop
noncomputable abbrev TGs:=List V->St->Hp->(St->Hp->Prop)->Prop
noncomputable def PG (X:Cx)(target:Expr)(t:TG):Prop:=
 ∀(pins:List (Addr×Obj)) (s:Shared) (σ:St) (H:Hp) (v:V) (u:Value) (Q:St->Hp->Prop),Inv X pins σ H s->zU v u->t v σ H Q->
  wpAny (model X.prog X.w) X.A (assign target X.env u) (λ_ s' =>∃σ' H',Inv X pins σ' H' s' /\Q σ' H') X.xe s
noncomputable def PGs (X:Cx)(ts:List Expr)(t:TGs):Prop:=
 ∀(pins:List (Addr×Obj)) (s:Shared) (σ:St) (H:Hp) (vs:List V) (us:List Value) (Q:St->Hp->Prop),Inv X pins σ H s->zS vs us->t vs σ H Q->
  wpAny (model X.prog X.w) X.A (assignInOrder ((assignEach ts X.env).map (·.2)) us) (λ_ s' =>∃σ' H',Inv X pins σ' H' s' /\Q σ' H') X.xe s
section
variable {X:Cx}{pos:Pos}
noncomputable def wI (i:Nat):TG:=λv σ H Q=>Q (σ.set i (some v)) H
theorem jQ {i:Nat}{x:Str}(hN:X.N.Nodup)(hi:X.N[i]? =some x)(hx:Loc X.env.scope x)(hf:X.fn x=true\/X.env.scope.names.lookup x=some .local:=by first | exact .inl rfl | exact .inr rfl | assumption):PG X (.Name x pos) (wI i):=by
 intro pins s σ H v u Q I r h;exact wpAny_assign_Name (Jn I hN hi hx r (λs' I' =>⟨_,H,I',h⟩) hf)
noncomputable def Gf:TGs:=λvs σ H Q=>vs=[]/\Q σ H
noncomputable def UW (t:TG)(u:TGs):TGs:=λvs σ H Q=>∃v r,vs=v :: r/\t v σ H λσ' H' =>u r σ' H' Q
theorem UX:PGs X [] Gf:=by
 intro pins s σ H vs us Q I r h;obtain⟨e,h⟩:=h;exact assignInOrder_nil ⟨σ,H,I,h⟩
theorem Jo {e:Expr}{es:List Expr}{t:TG}{u:TGs}(h1:PG X e t)(h2:PGs X es u)
  (hs:(assignEach (e :: es) X.env).map (·.2)=assign e X.env :: (assignEach es X.env).map (·.2):=by rfl):PGs X (e :: es) (UW t u):=by
 intro pins s σ H vs us Q I r h;obtain⟨v,vr,e1,h⟩:=h;subst e1;cases r with
 | cons r rr=>
  rw[hs];refine assignInOrder_cons (thn (h1 _ s σ H _ _ _ I r h) λ_ s1 ⟨σ1,H1,I1,q1⟩=> ?_);exact h2 _ s1 σ1 H1 _ _ Q I1 rr q1
noncomputable def gi (K:ae)(n:Nat)(t:TGs):TG:=λv σ H Q=>∃a xs,v= .ref a/\SqT K H a xs/\xs.length=n/\t xs σ H Q
theorem vj {es:List Expr}{k:Nat}{t:TGs}{n:Nat}(hc:X.calm=true)(h:PGs X es t)
  (hn:(assignEach es X.env).length=n:=by rfl) (hst:(assignEach es X.env).findIdx? (·.1)=none:=by rfl):PG X (.Tuple es k pos) (gi X.K n t):=by
 intro pins s σ H v u Q I r hw;obtain⟨a,xs,e1,hq,hl,hw⟩:=hw;subst e1;cases r;obtain⟨its,rv,ht,hz⟩:=I.tuple hq;refine assign_Tuple_tuple (I.ok.hd hc) ht (by simp[hn,← hl,rv.length]) hst λh' hx=> ?_
 have I1:Inv X _ σ H { s with heap:=h' }:=I.kept λb o e=>hx b o (aC (ao e)) e;exact h _ _ σ H xs _ Q I1 (by simpa using rv) hw
noncomputable def tAsg (te:TE)(g:TG):TS:=λD σ H=>te σ H λx H1=>g x σ H1 D.nx
theorem Xs {tg e:Expr}{te:TE}{g:TG}(he:PE X e te)(hg:PG X tg g)(hs:swapsWithSole [tg] e pos.line X.env=pure false:=by rfl)(hw:swappedStores [tg] e X.env=pure none:=by rfl)
  (h1:(assignEach [tg] X.env).map (·.2)=[assign tg X.env]:=by rfl):PS X (.Assign [tg] e pos) (tAsg te g):=by
 intro pins s σ H D I h;refine wpAny_Assign_stores (thn (he _ s σ H _ I h) λv s1 ⟨x,H1,I1,r1,q1⟩=> ?_) hs hw;rw[h1];exact thn (hg _ s1 σ H1 x v _ I1 r1 q1) λ_ s2 q=>q
theorem UY {i:Nat}{x:Str}{e:Expr}{te:TE}{pos' :Pos}(hN:X.N.Nodup)(hi:X.N[i]? =some x)(hx:Loc X.env.scope x)(he:PE X e te)(hs:swapsWith e (some (.Name x pos')) pos.line X.env=pure false:=by rfl)(hf:X.fn x=true\/X.env.scope.names.lookup x=some .local:=by first | exact .inl rfl | exact .inr rfl | assumption):
  PS X (.Assign [.Name x pos'] e pos) (tAsg te (wI i)):=by
 intro pins s σ H D I h;refine wpAny_Assign_Name (thn (he _ s σ H _ I h) λv s1 ⟨y,H1,I1,r1,q1⟩=> ?_) hs;exact Jn I1 hN hi hx r1 (λs2 I2=>⟨_,H1,I2,q1⟩) hf
noncomputable def tPar (i j:Nat)(ta:TA):TS:=λD σ H=>ta σ H λvs H1=>∃v w,vs=[v,w]/\D.nx ((σ.set i (some v)).set j (some w)) H1
theorem Xt {i j:Nat}{x y:Str}{a b:Expr}{ta:TA}{px py pt:Pos}{kt k2 pt2}(hc:X.calm=true)(hN:X.N.Nodup)(hi:X.N[i]? =some x)(hj:X.N[j]? =some y)(hij:i ≠ j)
  (hx:X.env.scope.names.lookup x=some .local) (hy:X.env.scope.names.lookup y=some .local) (ha:PA X [a,b] ta)
  (hw:swappedStores [.Tuple [.Name x px,.Name y py] kt pt] (.Tuple [a,b] k2 pt2) X.env=pure (some [x,y]))
  (hs:swapsWithSole [.Tuple [.Name x px,.Name y py] kt pt] (.Tuple [a,b] k2 pt2) pos.line X.env=pure false:=by rfl):
  PS X (.Assign [.Tuple [.Name x px,.Name y py] kt pt] (.Tuple [a,b] k2 pt2) pos) (tPar i j ta):=by
 intro pins s σ H D I h;refine a7 (wpAny_standAt ?_);refine a7 (am ?_);refine a7 (Tuple_ (thn (ha _ _ s σ H _ I h) λus s1 ⟨vs,H1,I1,r1,q1⟩=> ?_));obtain⟨v,w,e1,q1⟩:=q1;subst e1;obtain⟨u1,u2,rfl,rv,rw'⟩:∃u1 u2,us=[u1,u2]/\zU v u1/\zU w u2:=by
  cases r1 with
  | cons p q=>
   cases q with
   | cons p' q' =>
    cases q';exact⟨_,_,rfl,p,p'⟩
 refine a_ ?_ (by show 2<=sizeLine;decide)
 have I2:Inv X _ σ H1 { s1 with heap:=s1.heap.push { cls:= .type "tuple",data:= .seq [u1,u2].toArray } }:=I1.kept λb o e=>af _ e;rw[hw];refine a7 (am ?_);refine a7 (dw (a7 (unpackItems_tuple (items:= #[u1,u2]) (I.ok.hd hc) (IsTup.new _ _) λh' hx' => ?_)));have I3:=I2.kept (t' :=s1.toks) λb o e=>hx' b o (aC (ao e)) e;refine a7 (assignInOrder_cons (wpAny_bindName (Jn I3 hN hj (.inl hy) rw' (λs2 I4=> ?_) (.inr hy))));refine assignInOrder_cons (wpAny_bindName (Jn I4 hN hi (.inl hx) rv (λs3 I5=>assignInOrder_nil (am ?_)) (.inr hx)));rw[List.set_comm _ _ (bv hij)]at I5;exact⟨_,H1,I5,q1⟩
end
section
variable {X:Cx}{pos:Pos}
noncomputable def Xu (c:TT)(tb:TS):TS:=λD σ H=>∃W:Nat->St->Hp->Prop,(∃m,W m σ H)/\∀m σ H,W m σ H->
 c σ H λb H1=>if b=true then ∃N:St->Hp->Prop,(∀σ' H',N σ' H' ->∃m',m' < m/\W m' σ' H')/\tb { D with nx:=N,ct:=N,bk:=D.nx } σ H1 else D.nx σ H1
theorem qV {c:Expr}{body:List Stmt}{tc:TT}{tb:TS}(hp:PassesOwn (model X.prog X.w) X.A X.env X.xe)(hc:PT X c tc)(hb:PSs X body tb):PS X (.While c body [] pos) (Xu tc tb):=by
 intro pins s σ H D I h;obtain⟨W,⟨m0,w0⟩,turn⟩:=h;refine wpAny_While (codeAny_whileLoop (λn s' =>∃σ' H',Inv X _ σ' H' s' /\W n σ' H') ?_ m0 ⟨σ,H,I,w0⟩)
 rintro n s1 ⟨σ1,H1,I1,w1⟩
 refine bX hp (thn (hc _ s1 σ1 H1 _ I1 (turn n σ1 H1 w1)) λb s2 ⟨H2,I2,q2⟩=> ?_);cases b with
 | true=>
  obtain⟨N,hN,q2⟩:=q2;refine bX hp (thn (hb _ s2 σ1 H2 _ I2 q2) λf s3 q3=> ?_);cases f with
  | next=>
   obtain⟨σ3,H3,I3,n3⟩:=q3;obtain⟨m',hm,w3⟩:=hN σ3 H3 n3;exact⟨m',hm,σ3,H3,I3,w3⟩
  | cont=>
   obtain⟨σ3,H3,I3,n3⟩:=q3;obtain⟨m',hm,w3⟩:=hN σ3 H3 n3;exact⟨m',hm,σ3,H3,I3,w3⟩
  | brk=>exact q3
  | ret v=>exact q3
 | false=>
  exact wpAny_execs_nil ⟨σ1,H2,I2,q2⟩
end
structure It where
 go:Nat->Hp->Prop
 yld:Nat->Hp->V->Hp->Prop
 stop:Nat->Hp->Prop
noncomputable def wb (X:Cx)(pins:List (Addr×Obj))(H:Hp)(b:Addr):Prop:=
 H b=none/\b ≠ X.env.locals/\b ∉ X.fs/\(b∈X.ex\/X.s₀.heap.objs.size<=b)/\(∀x c,X.env.cells.lookup x=some c->c ≠ b)/\∀p∈X.pn++pins,p.1 ≠ b
theorem Inv.fpOk {X:Cx}{pins:List (Addr×Obj)}{σ:St}{H H' :Hp}{s:Shared}{b:Addr}(I:Inv X pins σ H s)(hb:s.heap.objs.size<=b)(hn:H' b=none):wb X pins H' b:=by
 refine⟨hn,da (aF I.lt hb),I.nofs hb,.inr (aq I.sz hb),λx c e z=> ?_,λp hp z=> ?_⟩
 ·obtain⟨v,q⟩:=I.cell x c e;exact absurd (aF q.lt (by rw[z];exact hb)) (bi _)
 ·exact absurd (aF (ao (I.pin p hp).1) (by rw[z];exact hb)) (bi _)
structure UO (P:Program) (w:World) (K:ae) (tg:Expr) (J:It) (fp:List Addr) (it:Addr) (tn:Nat->Heap->Prop):Prop where
 mem:it∈fp
 obj:∀i h,tn i h->∀b∈fp,∃o,h.get? b=some o/\∀v,o.data ≠ .cell v
 keep:∀i h h',tn i h->(∀b∈fp,∀o,h.get? b=some o->h'.get? b=some o)->tn i h'
 item:∀(X:Cx),X.prog=P->X.w=w->X.K=K->X.calm=true->∀(i:Nat) (pins:List (Addr×Obj)) (s:Shared) (σ:St) (H:Hp) (E:Value->Shared->Prop),Inv X pins σ H s->(∀b∈fp,wb X pins H b)->tn i s.heap->J.go i H->
  wpAny (model P w) X.A (pyNext (.ref it)) (λr s1=>∃u,r=some u/\
   wpAny (model P w) X.A (letOwnedTupleGo tg (.ref it) u) (λ_ s2=>∃x H',Inv X pins σ H' s2/\zU x u/\J.yld i H x H' /\tn (i+1) s2.heap/\∀b∈fp,H' b=none) E s1) E s
 done:∀(X:Cx),X.prog=P->X.w=w->X.K=K->X.calm=true->∀(i:Nat) (pins:List (Addr×Obj)) (s:Shared) (σ:St) (H:Hp) (E:Value->Shared->Prop),Inv X pins σ H s->(∀b∈fp,wb X pins H b)->tn i s.heap->J.stop i H->
  wpAny (model P w) X.A (pyNext (.ref it)) (λr s1=>r=none/\Inv X pins σ H s1) E s
 self:∀(A:Around) (i:Nat) (s:Shared) (Q:Value->Shared->Prop) (E:Value->Shared->Prop),tn i s.heap->Q (.ref it) s->wpAny (model P w) A (pyIter (.ref it)) Q E s
noncomputable abbrev TI:=St->Hp->(It->Hp->Prop)->Prop
noncomputable def PIE (X:Cx)(pins:List (Addr×Obj))(σ:St)(tg:Expr)(R:It->Hp->Prop)(itv:Value)(s2:Shared):Prop:=
 ∃(it:Addr) (fp:List Addr) (tn:Nat->Heap->Prop) (J:It) (H' :Hp),itv= .ref it/\Inv X pins σ H' s2/\UO X.prog X.w X.K tg J fp it tn/\tn 0 s2.heap/\(∀b∈fp,wb X pins H' b)/\R J H'
noncomputable def PI (X:Cx)(tg iter:Expr)(wi:TI):Prop:=
 ∀(pins:List (Addr×Obj)) (s:Shared) (σ:St) (H:Hp) (R:It->Hp->Prop),Inv X pins σ H s->wi σ H R->
  wpAny (model X.prog X.w) X.A (eval iter X.env) (λv s1=>wpAny (model X.prog X.w) X.A (pyIter v) (PIE X pins σ tg R) X.xe s1) X.xe s
theorem Uj {M:Model}{A:Around}{E:Value->Shared->Prop}{s:Shared}{tg:Expr}{it:Addr}{u:Value}{o:Obj}{n:String}{vs:Array Value}{Q:Unit->Shared->Prop}(ho:s.heap.get? it=some o)(hc:o.cls= .type n)(hd:o.data= .fields vs)
  (hn:["enumerate","zip","dict_itemiterator","dict_reverseitemiterator","odict_iterator","itertools.zip_longest","itertools.pairwise"].contains n=false) (hQ:Q () s):wpAny M A (letOwnedTupleGo tg (.ref it) u) Q E s:=by
 cases tg <;> first
  | exact am hQ
  | (cases u <;> first
    | exact am hQ
    | (refine a7 (wpAny_load ho ?_);rw[hc,hd];show wpAny M A (if (["enumerate","zip","dict_itemiterator","dict_reverseitemiterator","odict_iterator","itertools.zip_longest","itertools.pairwise"].contains n && vs[0]? == some _)=true then _ else _) Q E s;rw[if_neg (by intro h;rw[hn]at h;cases h)];exact am hQ))
noncomputable def Itl (K:ae)(a:Addr):It:=
 ⟨λi H=>∃xs x,SqL K H a xs/\xs[i]? =some x,λi H x H' =>H' =H/\∀xs,SqL K H a xs->xs[i]? =some x,λi H=>∃xs,SqL K H a xs/\xs.length<=i⟩
noncomputable def Itt (K:ae)(a:Addr):It:=
 ⟨λi H=>∃xs x,SqT K H a xs/\xs[i]? =some x,λi H x H' =>H' =H/\∀xs,SqT K H a xs->xs[i]? =some x,λi H=>∃xs,SqT K H a xs/\xs.length<=i⟩
noncomputable def Itr (lo:Int)(n:Nat):It:=⟨λi _=>i < n,λi H x H' =>H' =H/\x= .int (lo+i),λi _=>n<=i⟩
theorem UZ {P:Program}{w:World}{K:ae}{tg:Expr}(a it:Addr):UO P w K tg (Itl K a) [it] it (λi h=>h.IsListIter it a i) where
 mem:=by simp
 obj:=λi h st b hb=>by
  have e:b=it:=by simpa using hb
  subst e;obtain⟨o,e,c,d⟩:=st;exact⟨o,e,λv z=>by rw[d]at z;cases z⟩
 keep:=λi h h' st k=>st.at λo e=>k it (by simp) o e
 item:=by
  intro X hP hw hK hc i pins s σ H E I hf st hg;subst hP hw hK;obtain⟨xs,x,hq,hx⟩:=hg;obtain⟨its,rv,p,hz⟩:=I.list hq;obtain⟨u,hu,ru⟩:=rv.get hx;obtain⟨f0,f1,f2,f3,f4,f5⟩:=hf it (by simp)
  refine wpAny_pyNext_list_item st p.isList (x:=u) (by simpa using hu) λh' st' sb=> ?_
  have I1:Inv X pins σ H { s with heap:=h' }:=I.turned (t' :=s.toks) (λb o hb e=>(sb.2 b hb).trans e) f0 f1 f3 f4 f5;obtain⟨o,e,c,d⟩:=id st';exact⟨u,rfl,Uj (s:={ s with heap:=h' }) e c d (by decide) ⟨x,H,I1,ru,⟨rfl,λys hy=>by rw[I.list_inj hy hq];exact hx⟩,st',λb hb=>(hf b hb).1⟩⟩
 done:=by
  intro X hP hw hK hc i pins s σ H E I hf st hg;subst hP hw hK;obtain⟨xs,hq,hx⟩:=hg;obtain⟨its,rv,p,hz⟩:=I.list hq;obtain⟨f0,f1,f2,f3,f4,f5⟩:=hf it (by simp)
  have hl:=rv.length;exact wpAny_pyNext_list_end (I.ok.hd hc) st p.isList (by simp;omega) λh' eb=>⟨rfl,I.turned (t' :=s.toks) (λb o hb e=>eb b o hb e) f0 f1 f3 f4 f5⟩
 self:=λ_ _ _ _ _ st h=>wpAny_pyIter_listiter st h
theorem Uk {P:Program}{w:World}{K:ae}{tg:Expr}(a it:Addr):UO P w K tg (Itt K a) [it] it (λi h=>h.IsTupleIter it a i) where
 mem:=by simp
 obj:=λi h st b hb=>by
  have e:b=it:=by simpa using hb
  subst e;obtain⟨o,e,c,d⟩:=st;exact⟨o,e,λv z=>by rw[d]at z;cases z⟩
 keep:=λi h h' st k=>st.at λo e=>k it (by simp) o e
 item:=by
  intro X hP hw hK hc i pins s σ H E I hf st hg;subst hP hw hK;obtain⟨xs,x,hq,hx⟩:=hg;obtain⟨its,rv,p,hz⟩:=I.tuple hq;obtain⟨u,hu,ru⟩:=rv.get hx;obtain⟨f0,f1,f2,f3,f4,f5⟩:=hf it (by simp)
  refine wpAny_pyNext_tuple_item st (show s.heap.IsTuple a its.toArray from p) (x:=u) (by simpa using hu) λh' st' sb=> ?_
  have I1:Inv X pins σ H { s with heap:=h' }:=I.turned (t' :=s.toks) (λb o hb e=>(sb.2 b hb).trans e) f0 f1 f3 f4 f5;obtain⟨o,e,c,d⟩:=id st';exact⟨u,rfl,Uj (s:={ s with heap:=h' }) e c d (by decide) ⟨x,H,I1,ru,⟨rfl,λys hy=>by rw[I.tuple_inj hy hq];exact hx⟩,st',λb hb=>(hf b hb).1⟩⟩
 done:=by
  intro X hP hw hK hc i pins s σ H E I hf st hg;subst hP hw hK;obtain⟨xs,hq,hx⟩:=hg;obtain⟨its,rv,p,hz⟩:=I.tuple hq;obtain⟨f0,f1,f2,f3,f4,f5⟩:=hf it (by simp)
  have hl:=rv.length;exact wpAny_pyNext_tuple_end (I.ok.hd hc) st (show s.heap.IsTuple a its.toArray from p) (by simp;omega) λh' eb=>⟨rfl,I.turned (t' :=s.toks) (λb o hb e=>eb b o hb e) f0 f1 f3 f4 f5⟩
 self:=λ_ _ _ _ _ st h=>wpAny_pyIter_tupleiter st h
theorem Ul {P:Program}{w:World}{K:ae}{tg:Expr}(it:Addr)(lo:Int)(n:Nat):UO P w K tg (Itr lo n) [it] it (λi h=>IsRangeIter h it (lo+(i:Nat)*1) ((n:Int) - (i:Nat)) 1) where
 mem:=by simp
 obj:=λi h st b hb=>by
  have e:b=it:=by simpa using hb
  subst e;exact⟨_,st,λv z=>by
   have z' :Data.fields _=Data.cell v:=z;cases z'⟩
 keep:=λi h h' st k=>k it (by simp) _ st
 item:=by
  intro X hP hw hK hc i pins s σ H E I hf st hg;subst hP hw hK;obtain⟨f0,f1,f2,f3,f4,f5⟩:=hf it (by simp)
  have W:=Walks.range (prog:=X.prog) (w:=X.w) (I.ok.hd hc) it lo 1 n;refine W.item i s _ _ hg st λv h' tk hv st' kk=> ?_;obtain⟨t,rfl⟩:=hv;have I1:Inv X pins σ H { s with heap:=h',toks:=tk }:=I.turned (λb o hb e=>kk b o (by simpa using hb) e) f0 f1 f3 f4 f5
  refine⟨_,rfl,Uj (s:={ s with heap:=h',toks:=tk }) (n:="range_iterator") st' rfl rfl (by decide) ⟨.int (lo+i),H,I1,⟨t, ?_⟩,⟨rfl,rfl⟩,st',λb hb=>(hf b hb).1⟩⟩
  rw[Int.mul_one]
 done:=by
  intro X hP hw hK hc i pins s σ H E I hf st hg;subst hP hw hK;obtain⟨f0,f1,f2,f3,f4,f5⟩:=hf it (by simp)
  exact wpAny_pyNext_range_end (I.ok.hd hc) st (by have:n<=i:=hg;omega) λh' eb=>⟨rfl,I.turned (t' :=s.toks) (λb o hb e=>eb b o hb e) f0 f1 f3 f4 f5⟩
 self:=λ_ _ _ _ _ st h=>wpAny_pyIter_rangeiter st h
end L2
namespace L2
open PySem PySem.Spec PyProof.Rows
section
variable {X:Cx}{tg:Expr}
theorem ux {pins:List (Addr×Obj)}{σ:St}{H:Hp}{s:Shared}{R:It->Hp->Prop}{E:Value->Shared->Prop}{lo hi:Int}{t u v:Tok}{tk:Nat}(I:Inv X pins σ H s)(h1: -(2 ^ 62)<=lo)(h2:lo < 2 ^ 62)(h3: -(2 ^ 62)<=hi)(h4:hi < 2 ^ 62)
  (q:R (Itr lo (hi - lo).toNat) H):wpAny (model X.prog X.w) X.A (pyIter (.ref s.heap.objs.size)) (PIE X pins σ tg R) E { s with heap:=s.heap.push { cls:= .type "range",data:= .fields #[.int lo t,.int hi u,.int 1 v] },toks:=tk }:=by
 refine wpAny_pyIter_range (IsRange.new ..) (small_one h1 h2 h3 h4) ?_;have I1:Inv X _ σ H { s with heap:=s.heap.push { cls:= .type "range",data:= .fields #[.int lo t,.int hi u,.int 1 v] },toks:=tk }:=I.kept λb o e=>af _ e;refine⟨(s.heap.push _).objs.size,[(s.heap.push _).objs.size],_,_,H,rfl,
  I1.kept λb o e=>af _ e,Ul _ lo _, ?_,λb hb=> ?_,q⟩
 ·have e1:lo+((0:Nat))*1=lo:=by simp
  have e2:(((hi - lo).toNat):Int) - ((0:Nat))=eK lo hi 1:=by rw[rangeSize_one];split <;> omega
  rw[e1,e2];exact ag _ rfl
 ·have e:b=(s.heap.push { cls:= .type "range",data:= .fields #[.int lo t,.int hi u,.int 1 v] }).objs.size:=by simpa using hb
  subst e;exact I1.fpOk (ai _) (I1.hok.fresh (ai _))
noncomputable def Gg (ta:TA):TI:=λσ H R=>ta σ H λvs H1=>∃j:Int,vs=[.int j]/\ -(2 ^ 62)<=j/\j < 2 ^ 62/\R (Itr 0 j.toNat) H1
noncomputable def Gh (ta:TA):TI:=λσ H R=>ta σ H λvs H1=>∃i j:Int,vs=[.int i,.int j]/\(-(2 ^ 62)<=i/\i < 2 ^ 62/\ -(2 ^ 62)<=j/\j < 2 ^ 62)/\R (Itr i (j - i).toNat) H1
theorem y0 {a:Expr}{ta:TA}{p pos:Pos}(hg:Gl X "range")(hm:X.mg "range"=none)(ha:PA X [a] ta)(hs:starEach [a] X.env=[(false,eval a X.env)]:=by rfl):PI X tg (.Call (.Name "range" p) [a] [] pos) (Gg ta):=by
 intro pins s σ H R I h;refine Call_ (ZP I hg hm boot_range (aO (thn (ha pos _ s σ H _ I h) λus s1 ⟨vs,H1,I1,r1,q1⟩=> ?_) hs rfl));obtain⟨j,e,q1,q2,q⟩:=q1;subst e;cases r1 with
 | cons r rr=>
  cases rr;obtain⟨t,rfl⟩:=r;exact call_range_1 (ux I1 (by omega) (by omega) q1 q2 (by simpa using q))
theorem y3 {a b:Expr}{ta:TA}{p pos:Pos}(hg:Gl X "range")(hm:X.mg "range"=none)(ha:PA X [a,b] ta)(hs:starEach [a,b] X.env=[(false,eval a X.env),(false,eval b X.env)]:=by rfl)(hs2:starEach [b] X.env=[(false,eval b X.env)]:=by rfl):
  PI X tg (.Call (.Name "range" p) [a,b] [] pos) (Gh ta):=by
 intro pins s σ H R I h;refine Call_ (ZP I hg hm boot_range (aO (thn (ha pos _ s σ H _ I h) λus s1 ⟨vs,H1,I1,r1,q1⟩=> ?_) (by rw[hs,hs2]) (by rw[hs2];rfl)))
 obtain⟨i,j,e,⟨q1,q2,q3,q4⟩,q⟩:=q1;subst e;cases r1 with
 | cons r rr=>
  cases rr with
  | cons r' rr=>
   cases rr;obtain⟨t,rfl⟩:=r;obtain⟨t',rfl⟩:=r';exact call_range_2 (ux I1 q1 q2 q3 q4 q)
noncomputable def tFor (wi:TI)(g:TG)(tb:TS):TS:=λD σ H=>wi σ H λJ H1=>∃W:Nat->Nat->St->Hp->Prop,(∃m,W 0 m σ H1)/\∀i m σ H,W i m σ H->
 (J.stop i H/\D.nx σ H)\/(J.go i H/\∃N:St->Hp->Prop,(∀σ' H',N σ' H' ->∃m',m' < m/\W (i+1) m' σ' H')/\∀x H',J.yld i H x H' ->g x σ H' λσ2 H2=>tb { D with nx:=N,ct:=N,bk:=D.nx } σ2 H2)
noncomputable def uy (fp:List Addr)(h:Heap):List (Addr×Obj):=fp.filterMap λb=>(h.get? b).map λo=>(b,o)
theorem j9 {fp:List Addr}{h:Heap}{b:Addr}{o:Obj}(hb:b∈fp)(e:h.get? b=some o):(b,o)∈uy fp h:=dH.mpr ⟨b,hb,by rw[e];rfl⟩
theorem y6 {fp:List Addr}{h:Heap}{p:Addr×Obj}(hp:p∈uy fp h):p.1∈fp/\h.get? p.1=some p.2:=by
 obtain⟨b,hb,e⟩:=dH.mp hp;cases q:h.get? b with
 | none=>rw[q]at e;cases e
 | some o=>
  rw[q]at e;have e' :=aD e;subst e';exact⟨hb,q⟩
theorem Inv.pinned {pins:List (Addr×Obj)}{σ:St}{H:Hp}{s:Shared}{fp:List Addr}(I:Inv X pins σ H s)(hf:∀b∈fp,wb X pins H b)(ho:∀b∈fp,∃o,s.heap.get? b=some o/\∀v,o.data ≠ .cell v):Inv X (pins++uy fp s.heap) σ H s:=
 I.pins_of λp hp=>(aZ.mp hp).elim (λz=>I.pin p (ay _ z)) λz=>by
  obtain⟨hb,e⟩:=y6 z;obtain⟨f0,f1,f2,_⟩:=hf p.1 hb;obtain⟨o,e',d⟩:=ho p.1 hb;rw[e]at e';cases e';exact⟨e,f0,f1,f2,d⟩
theorem Inv.unpinned {pins pl:List (Addr×Obj)}{σ:St}{H:Hp}{s:Shared}(I:Inv X (pins++pl) σ H s):Inv X pins σ H s:=I.pins_of λp hp=>I.pin p (ay _ (cJ _ hp))
theorem Xv {iter:Expr}{body:List Stmt}{wi:TI}{g:TG}{tb:TS}{pos:Pos}(hp:PassesOwn (model X.prog X.w) X.A X.env X.xe)(hc:X.calm=true)(hi:PI X tg iter wi)(hg:PG X tg g)(hb:PSs X body tb)
  (hs:∀x,foldedSetIterable iter X.env x=pure x:=by intro _;rfl):PS X (.For tg iter body [] pos) (tFor wi g tb):=by
 intro pins s σ H D I h;refine wpAny_For (thn (hi _ s σ H _ I h) λv s1 h1=>thn h1 λitv s2 h2=> ?_) hs;obtain⟨it,fp,tn,J,H2,e,I2,T,st2,f2,W,⟨m0,w0⟩,turn⟩:=h2;subst e;have stat:∀{H' :Hp},(∀b∈fp,H' b=none)->∀b∈fp,wb X _ H' b:=λhn b hb=>⟨hn b hb,(f2 b hb).2⟩;refine codeAny_forLoop_any (λn s' =>∃i σ' H',Inv X _ σ' H' s' /\tn i s'.heap/\(∀b∈fp,H' b=none)/\W i n σ' H') ?_ m0 ⟨0,σ,H2,I2,st2,λb hb=>(f2 b hb).1,w0⟩
 rintro n s3 ⟨i,σ3,H3,I3,st3,fr3,w3⟩
 rcases turn i n σ3 H3 w3 with ⟨stop,qn⟩ | ⟨go,N,hN,step⟩
 ·refine bX hp (thn (T.done X rfl rfl rfl hc i _ s3 σ3 H3 _ I3 (stat fr3) st3 stop) λr s4 ⟨hr,I4⟩=> ?_);subst hr;exact wpAny_execs_nil ⟨σ3,H3,I4,qn⟩
 ·refine bX hp (thn (T.item X rfl rfl rfl hc i _ s3 σ3 H3 _ I3 (stat fr3) st3 go) λr s4 ⟨u,hr,h4⟩=> ?_);subst hr;refine bX hp (thn h4 λ_ s5 ⟨x,H5,I5,r5,y5,st5,fr5⟩=> ?_);have I5' :=I5.pinned (stat fr5) (T.obj _ _ st5);refine bX hp (thn (hg _ s5 σ3 H5 x u _ I5' r5 (step x H5 y5)) λ_ s6 ⟨σ6,H6,I6,q6⟩=> ?_);refine bX hp (thn (hb _ s6 σ6 H6 _ I6 q6) λf s7 q7=> ?_);have again:∀{σ7:St} {H7:Hp},Inv X (pins++uy fp _) σ7 H7 s7->N σ7 H7->∃m,m < n/\∃i σ' H',Inv X _ σ' H' s7/\tn i _/\(∀b∈fp,H' b=none)/\W i m σ' H' :=λ{σ7 H7} I7 n7=>by
   obtain⟨m',hm,w7⟩:=hN σ7 H7 n7;refine⟨m',hm,i+1,σ7,H7,I7.unpinned,T.keep _ _ _ st5 λb hb o e=>(I7.pin _ (ay _ (ay _ (j9 hb e)))).1,λb hb=> ?_,w7⟩;obtain⟨o,e,d⟩:=T.obj _ _ st5 b hb;exact(I7.pin _ (ay _ (ay _ (j9 hb e)))).2.1
  cases f with
  | next=>obtain⟨σ7,H7,I7,n7⟩:=q7;exact again I7 n7
  | cont=>obtain⟨σ7,H7,I7,n7⟩:=q7;exact again I7 n7
  | brk=>obtain⟨σ7,H7,I7,q7⟩:=q7;exact⟨σ7,H7,I7.unpinned,q7⟩
  | ret v=>obtain⟨x7,σ7,H7,I7,r7,q7⟩:=q7;exact⟨x7,σ7,H7,I7.unpinned,r7,q7⟩
end
end L2
namespace L2
open PySem PySem.Spec PyProof.Rows
noncomputable abbrev R2:=V->V->Hp->VK->Prop
noncomputable def OpR (X:Cx)(f:Value->Value->Sem Value)(r:R2):Prop:=
 ∀(pins:List (Addr×Obj)) (s:Shared) (σ:St) (H:Hp) (x y:V) (v u:Value) (Q:VK),Inv X pins σ H s->zU x v->zU y u->r x y H Q->
  wpAny (model X.prog X.w) X.A (f v u) (EP X pins σ Q) X.xe s
noncomputable def UnR (X:Cx)(f:Value->Sem Value)(r:V->Hp->VK->Prop):Prop:=
 ∀(pins:List (Addr×Obj)) (s:Shared) (σ:St) (H:Hp) (x:V) (v:Value) (Q:VK),Inv X pins σ H s->zU x v->r x H Q->
  wpAny (model X.prog X.w) X.A (f v) (EP X pins σ Q) X.xe s
noncomputable def Zo (X:Cx)(f:Value)(r:List V->Hp->VK->Prop):Prop:=
 ∀(pins:List (Addr×Obj)) (s:Shared) (σ:St) (H:Hp) (xs:List V) (us:List Value) (Q:VK),Inv X pins σ H s->zS xs us->r xs H Q->
  wpAny (model X.prog X.w) X.A (call f us) (EP X pins σ Q) X.xe s
noncomputable def TruR (X:Cx)(r:V->Hp->(Bool->Hp->Prop)->Prop):Prop:=
 ∀(pins:List _) (s:Shared) (σ:St) (H:Hp) (x:V) (v:Value) (Q:Bool->Hp->Prop),Inv X pins σ H s->zU x v->r x H Q->
  wpAny (model X.prog X.w) X.A (truthy v) (TP X pins σ Q) X.xe s
noncomputable def tOp (r:R2)(ta tb:TE):TE:=λσ H Q=>ta σ H λx H1=>tb σ H1 λy H2=>r x y H2 Q
noncomputable def tUn (r:V->Hp->VK->Prop)(ta:TE):TE:=λσ H Q=>ta σ H λx H1=>r x H1 Q
noncomputable def rI (C:Int->Int->Prop)(g:Int->Int->V):R2:=λx y H Q=>∃i j,x= .int i/\y= .int j/\C i j/\Q (g i j) H
noncomputable def rI0 (g:Int->Int->V):R2:=λx y H Q=>∃i j,x= .int i/\y= .int j/\Q (g i j) H
noncomputable def rU (g:Int->V):V->Hp->VK->Prop:=λx H Q=>∃i,x= .int i/\Q (g i) H
section
variable {X:Cx}{a b c:Expr}{ta tb tc:TE}{pos:Pos}
theorem Gi (ha:PE X a ta)(hb:PE X b tb){pins:List (Addr×Obj)}{s:Shared}{σ:St}{H:Hp}{R:V->V->Hp->Prop}(I:Inv X pins σ H s)
  (h:ta σ H λx H1=>tb σ H1 λy H2=>R x y H2) {Q:Value->Shared->Prop} {f:Value->Value->Sem Value}
  (hf:∀v u s2 x y H2,Inv X pins σ H2 s2->zU x v->zU y u->R x y H2->wpAny (model X.prog X.w) X.A (f v u) Q X.xe s2):
  wpAny (model X.prog X.w) X.A (eval a X.env) (λv s₁=>wpAny (model X.prog X.w) X.A (eval b X.env) (λu s₂=>wpAny (model X.prog X.w) X.A (f v u) Q X.xe s₂) X.xe s₁) X.xe s:=by
 refine thn (ha _ s σ H _ I h) λv s1 ⟨x,H1,I1,r1,q1⟩=> ?_;refine thn (hb _ s1 σ H1 _ I1 q1) λu s2 ⟨y,H2,I2,r2,q2⟩=> ?_;exact hf v u s2 x y H2 I2 r1 r2 q2
theorem Gj {op:Operator}{r:R2}(ho:OpR X (binaryOp op) r)(ha:PE X a ta)(hb:PE X b tb):PE X (.BinOp a op b pos) (tOp r ta tb):=by
 intro pins s σ H Q I h;exact wpAny_BinOp (Gi ha hb I h λv u s2 x y H2 I2 rx ry q=>ho _ s2 σ H2 x y v u Q I2 rx ry q)
theorem Gk {op:UnaryOp}{r:V->Hp->VK->Prop}(ho:UnR X (unaryOp op) r)(ha:PE X a ta):PE X (.UnaryOp op a pos) (tUn r ta):=by
 intro pins s σ H Q I h;exact UnaryOp_ (thn (ha _ s σ H _ I h) λv s1 ⟨x,H1,I1,r1,q1⟩=>ho _ s1 σ H1 x v Q I1 r1 q1)
theorem opI {f:Value->Value->Sem Value}{C:Int->Int->Prop}{g:Int->Int->Int}
  (rule:∀(i j:Int) (t u:Tok) (s:Shared) (Q:Value->Shared->Prop) (E:Value->Shared->Prop),C i j->Q (.int (g i j) s.toks) { s with toks:=s.toks+1 }->wpAny (model X.prog X.w) X.A (f (.int i t) (.int j u)) Q E s):
  OpR X f (rI C λi j=> .int (g i j)):=by
 intro pins s σ H x y v u Q I rx ry h;obtain⟨i,j,rfl,rfl,hc,q⟩:=h;obtain⟨t,rfl⟩:=rx;obtain⟨t',rfl⟩:=ry;exact rule i j t t' s _ _ hc ⟨.int _,H,I.tok _,⟨_,rfl⟩,q⟩
theorem opI0 {f:Value->Value->Sem Value}{g:Int->Int->Int}
  (rule:∀(i j:Int) (t u:Tok) (s:Shared) (Q:Value->Shared->Prop) (E:Value->Shared->Prop),Q (.int (g i j) s.toks) { s with toks:=s.toks+1 }->wpAny (model X.prog X.w) X.A (f (.int i t) (.int j u)) Q E s):
  OpR X f (rI0 λi j=> .int (g i j)):=by
 intro pins s σ H x y v u Q I rx ry h;obtain⟨i,j,rfl,rfl,q⟩:=h;obtain⟨t,rfl⟩:=rx;obtain⟨t',rfl⟩:=ry;exact rule i j t t' s _ _ ⟨.int _,H,I.tok _,⟨_,rfl⟩,q⟩
theorem gj {f:Value->Value->Sem Value}{g:Int->Int->Bool}
  (rule:∀(i j:Int) (t u:Tok) (s:Shared) (Q:Value->Shared->Prop) (E:Value->Shared->Prop),Q (.bool (g i j)) s->wpAny (model X.prog X.w) X.A (f (.int i t) (.int j u)) Q E s):
  OpR X f (rI0 λi j=> .bl (g i j)):=by
 intro pins s σ H x y v u Q I rx ry h;obtain⟨i,j,rfl,rfl,q⟩:=h;obtain⟨t,rfl⟩:=rx;obtain⟨t',rfl⟩:=ry;exact rule i j t t' s _ _ ⟨.bl _,H,I,rfl,q⟩
noncomputable def CDiv (i j:Int):Prop:=0 < j/\j < 1073741824
noncomputable def Wi (i j:Int):Prop:=(-(2 ^ 64) < i/\i < 2 ^ 64)\/(-(2 ^ 64) < j/\j < 2 ^ 64)
theorem Wi.ok {i j:Int}(h:Wi i j):IntMulOk i j:=by
 rcases h with ⟨h1,h2⟩ | ⟨h1,h2⟩
 ·exact .of_left (intBits_le_64 h1 h2)
 ·exact .of_right (intBits_le_64 h1 h2)
theorem Xw:OpR X (binaryOp .Add) (rI0 λi j=> .int (i+j)):=opI0 λ_ _ _ _ _ _ _ q=>add_int q
theorem Xx:OpR X (binaryOp .Sub) (rI0 λi j=> .int (i - j)):=opI0 λ_ _ _ _ _ _ _ q=>sub_int q
theorem Xy:OpR X (binaryOp .Mult) (rI Wi λi j=> .int (i*j)):=opI λ_ _ _ _ _ _ _ hc q=>mul_int q hc.ok
theorem Vf:OpR X (binaryOp .FloorDiv) (rI CDiv λi j=> .int (i / j)):=opI λi j _ _ _ _ _ hc q=>by
 have h1:=hc.1;have h2:=hc.2;exact floordiv_int (by omega) (by rw[Int.fdiv_eq_ediv_of_nonneg i (by omega)];exact q) (.inl (PyProof.noPylong_small (by omega)))
theorem Xz:OpR X (binaryOp .Mod) (rI (λ_ j=>0 < j) λi j=> .int (i % j)):=opI λi j _ _ _ _ _ hc q=>by
 exact mod_int' (by omega) (by rw[Int.fmod_eq_emod_of_nonneg i (by omega)];exact q)
theorem unI {f:Value->Sem Value}{g:Int->Int}
  (rule:∀(i:Int) (t:Tok) (s:Shared) (Q:Value->Shared->Prop) (E:Value->Shared->Prop),Q (.int (g i) s.toks) { s with toks:=s.toks+1 }->wpAny (model X.prog X.w) X.A (f (.int i t)) Q E s):
  UnR X f (rU λi=> .int (g i)):=by
 intro pins s σ H x v Q I rx h;obtain⟨i,rfl,q⟩:=h;obtain⟨t,rfl⟩:=rx;exact rule i t s _ _ ⟨.int _,H,I.tok _,⟨_,rfl⟩,q⟩
theorem XA:UnR X (unaryOp .USub) (rU λi=> .int (-i)):=unI λ_ _ _ _ _ q=>neg_int q
theorem y7:OpR X (binaryOp .Add) (λx y H Q=>∃i k,x= .int i/\y= .bl k/\Q (.int (i+b2i k)) H):=by
 intro pins s σ H x y v u Q I rx ry h;obtain⟨i,k,rfl,rfl,q⟩:=h;obtain⟨t,rfl⟩:=rx;cases ry;exact add_int_bool ⟨.int _,H,I.tok _,⟨_,rfl⟩,q⟩
end
section
variable {X:Cx}{a b c:Expr}{ta tb tc:TE}{pos:Pos}
theorem Gm:OpR X (compareOp .Lt) (rI0 λi j=> .bl (decide (i < j))):=gj λ_ _ _ _ _ _ _ q=>lt_int q
theorem Gn:OpR X (compareOp .LtE) (rI0 λi j=> .bl (decide (i<=j))):=gj λ_ _ _ _ _ _ _ q=>le_int q
theorem Go:OpR X (compareOp .Gt) (rI0 λi j=> .bl (decide (j < i))):=gj λ_ _ _ _ _ _ _ q=>gt_int q
theorem Gp:OpR X (compareOp .GtE) (rI0 λi j=> .bl (decide (j<=i))):=gj λ_ _ _ _ _ _ _ q=>ge_int q
theorem ZQ (b:Expr){op:CmpOp}(h:op ≠ .In:=by decide)(h2:op ≠ .NotIn:=by decide):behindInMarks op b=false:=by
 have e1:(op == CmpOp.In)=false:=by cases op <;> first | rfl | exact absurd rfl h
 have e2:(op == CmpOp.NotIn)=false:=by cases op <;> first | rfl | exact absurd rfl h2
 cases b <;> simp[behindInMarks,e1,e2]
theorem Vg {op:CmpOp}{r:R2}(ho:OpR X (compareOp op) r)(ha:PE X a ta)(hb:PE X b tb)(hm:behindInMarks op b=false):PE X (.Compare a [op] [b] pos) (tOp r ta tb):=by
 intro pins s σ H Q I h;exact wpAny_Compare1 (Gi ha hb I h λv u s2 x y H2 I2 rx ry q=>ho _ s2 σ H2 x y v u Q I2 rx ry q) hm
noncomputable def XB (t:TE):TT:=λσ H Q=>t σ H λx H' =>∃k,x= .bl k/\Q k H'
theorem Vh {op:CmpOp}{r:R2}(ho:OpR X (compareOp op) r)(ha:PE X a ta)(hb:PE X b tb)(hm:behindInMarks op b=false):PT X (.Compare a [op] [b] pos) (XB (tOp r ta tb)):=by
 intro pins s σ H Q I h;refine wpAny_isTrue_Compare1 (thn (ha _ s σ H _ I h) λv s1 ⟨x,H1,I1,r1,q1⟩=>thn (hb _ s1 σ H1 _ I1 q1) λu s2 ⟨y,H2,I2,r2,q2⟩=>
  thn (ho _ s2 σ H2 x y v u _ I2 r1 r2 q2) λc s3 ⟨z,H3,I3,r3,k,e,q3⟩=> ?_) hm
 subst e;cases r3;exact aS ⟨H3,I3,q3⟩
noncomputable def vk (r r' :R2)(ta tb tc:TE):TE:=λσ H Q=>ta σ H λx H1=>tb σ H1 λy H2=>r x y H2 λz H3=>∃k,z= .bl k/\
 (if k=true then tc σ H3 λw' H4=>r' y w' H4 Q else Q (.bl false) H3)
theorem qW {op op' :CmpOp}{r r' :R2}(ho:OpR X (compareOp op) r)(ho' :OpR X (compareOp op') r')(ha:PE X a ta)(hb:PE X b tb)(hc:PE X c tc)
  (hm:lastMarks [op,op'] [b,c]=false:=by with_unfolding_all rfl):PE X (.Compare a [op,op'] [b,c] pos) (vk r r' ta tb tc):=by
 intro pins s σ H Q I h;refine Compare_chain (thn (ha _ s σ H _ I h) λv s1 ⟨x,H1,I1,r1,q1⟩=>chain_link (thn (hb _ s1 σ H1 _ I1 q1) λu s2 ⟨y,H2,I2,r2,q2⟩=>
  thn (ho _ s2 σ H2 x y v u _ I2 r1 r2 q2) λd s3 ⟨z,H3,I3,r3,k,e,q3⟩=> ?_)) hm
 subst e;cases r3;refine aS ?_;cases k with
 | false=>exact ite_ff ⟨.bl _,H3,I3,rfl,q3⟩
 | true=>exact ite_tt (chain_last (thn (hc _ s3 σ H3 _ I3 q3) λw' s4 ⟨z',H4,I4,r4,q4⟩=>ho' _ s4 σ H4 y z' u w' Q I4 r2 r4 q4))
theorem qX {op op' :CmpOp}{r r' :R2}(ho:OpR X (compareOp op) r)(ho' :OpR X (compareOp op') r')(ha:PE X a ta)(hb:PE X b tb)(hc:PE X c tc)
  (hm:lastMarks [op,op'] [b,c]=false:=by with_unfolding_all rfl):PT X (.Compare a [op,op'] [b,c] pos) (XB (vk r r' ta tb tc)):=by
 intro pins s σ H Q I h;refine isTrue_chain (thn (ha _ s σ H _ I h) λv s1 ⟨x,H1,I1,r1,q1⟩=>test_link (thn (hb _ s1 σ H1 _ I1 q1) λu s2 ⟨y,H2,I2,r2,q2⟩=>
  thn (ho _ s2 σ H2 x y v u _ I2 r1 r2 q2) λd s3 ⟨z,H3,I3,r3,k,e,q3⟩=> ?_)) hm
 subst e;cases r3;refine aS ?_;cases k with
 | false=>
  obtain⟨k',e',q'⟩:=q3;cases e';exact ite_ff ⟨H3,I3,q'⟩
 | true=>
  refine ite_tt (test_last (thn (hc _ s3 σ H3 _ I3 q3) λw' s4 ⟨z',H4,I4,r4,q4⟩=>thn (ho' _ s4 σ H4 y z' u w' _ I4 r2 r4 q4) λd' s5 ⟨z2,H5,I5,r5,k2,e2,q5⟩=> ?_));subst e2;cases r5;exact aS ⟨H5,I5,q5⟩
noncomputable def TruV (K:ae)(x:V)(H:Hp)(k:Bool):Prop:=
 match x with
 | .non=>k=false
 | .bl b=>k=b
 | .int i=>k=(i != 0)
 | .str y=>y.length<=sizeLine/\k=((y.length:Int) != 0)
 | .byt y=>y.size<=sizeLine/\k=((y.size:Int) != 0)
 | .ref p=>(∃xs,SqL K H p xs/\k= !xs.isEmpty)\/(∃xs,SqT K H p xs/\k= !xs.isEmpty)\/∃kvs,H p=some (.dK kvs)/\k= !kvs.isEmpty
 | _=>False
theorem Um {κ:Type}{kvs:List (κ×V)}{vs:List (κ×Value)}(r:KV kvs vs):(!vs.isEmpty)= !kvs.isEmpty:=by
 cases r <;> rfl
theorem wj {xs:List V}{its:List Value}(r:zS xs its):(!its.toArray.isEmpty)= !xs.isEmpty:=by
 cases r <;> simp
theorem Wn:(sizeLine:Nat) < 2 ^ 63:=by decide
theorem XD:TruR X (λx H Q=>∃k,TruV X.K x H k/\Q k H):=by
 intro pins s σ H x v Q I rx h;obtain⟨k,e,q⟩:=h;have hs:=bZ;cases x with
 | non=>
  cases rx;have e' :k=false:=e;subst e';exact truthy_none ⟨H,I,q⟩
 | bl b=>
  cases rx;have e' :k=b:=e;subst e';exact aS ⟨H,I,q⟩
 | int i=>
  obtain⟨t,rfl⟩:=rx;have e' :k=(i != 0):=e;subst e';exact PySem.P.truthy_int ⟨H,I,q⟩
 | str y=>
  obtain⟨t,rfl⟩:=rx;obtain⟨hy,e'⟩:y.length<=sizeLine/\k=((y.length:Int) != 0):=e;subst e';exact PySem.P.truthy_str (by omega) ⟨H,I.tok _,q⟩
 | byt y=>
  obtain⟨t,rfl⟩:=rx;obtain⟨hy,e'⟩:y.size<=sizeLine/\k=((y.size:Int) != 0):=e;subst e';exact PySem.W.truthy_bytes (by omega) ⟨H,I.tok _,q⟩
 | ref p=>
  cases rx;have e' :=e;rcases e' with ⟨xs,hx,e'⟩ | ⟨xs,hx,e'⟩ | ⟨kvs,hx,e'⟩
  ·subst e';obtain⟨its,r,pl,hz⟩:=I.list hx;have hlen:=r.length;exact wpAny_truthy_list pl.isList (by simp only[av];omega) ⟨H,I.tok _,by rw[wj r];exact q⟩
  ·subst e';obtain⟨its,r,pl,hz⟩:=I.tuple hx;have hlen:=r.length;exact truthy_tuple pl (by simp only[av];omega) ⟨H,I.tok _,by rw[wj r];exact q⟩
  ·subst e';obtain⟨hz,hS,vs,r,m⟩:kvs.length<=sizeLine/\(p == sysModules)=false/\∃vs,KV kvs vs/\s.heap.DictOf _ p vs:=I.hok p _ hx;have hlen:=Paired.length r;exact wpAny_truthy_dict hS m (by omega) ⟨H,I.tok _,by rw[Um r];exact q⟩
 | _=>exact(e).elim
theorem qY (ha:PE X a ta)(he:∀whole,isTrue a X.env whole=(do let v ← whole;standAt a.pos;holding [v] (truthy v))):
  PT X a (λσ H Q=>ta σ H λx H' =>∃k,TruV X.K x H' k/\Q k H'):=by
 intro pins s σ H Q I h;exact isTrue_plain (thn (ha _ s σ H _ I h) λv s1 ⟨x,H1,I1,r1,q1⟩=>XD _ s1 σ H1 x v Q I1 r1 q1) (he _)
theorem Uo:OpR X (binaryOp .Add) (λx y H Q=>∃i j,x= .str i/\y= .str j/\i.length+j.length<=sizeLine/\Q (.str (i++j)) H):=by
 intro pins s σ H x y v u Q I rx ry h;obtain⟨i,j,rfl,rfl,hz,q⟩:=h;obtain⟨t,rfl⟩:=rx;obtain⟨t',rfl⟩:=ry;exact add_str (λt' tk=>⟨.str _,H,I.tok _,⟨_,rfl⟩,q⟩) hz
theorem Zx {x:V}{us:List Value}(r:zS [x] us):∃u,us=[u]/\zU x u:=by
 cases r with
 | cons r1 r2=>cases r2;exact⟨_,rfl,r1⟩
theorem y8 {x y:V}{us:List Value}(r:zS [x,y] us):∃u w',us=[u,w']/\zU x u/\zU y w' :=by
 cases r with
 | cons r1 r2=>
  cases r2 with
  | cons r3 r4=>cases r4;exact⟨_,_,rfl,r1,r3⟩
theorem qZ:Zo X (.builtin "abs") (λxs H Q=>∃i,xs=[.int i]/\Q (.int (if i < 0 then -i else i)) H):=by
 intro pins s σ H xs us Q I r h;obtain⟨i,rfl,q⟩:=h;obtain⟨u,rfl,t,rfl⟩:=Zx r;exact call_abs_int λu tk=>⟨.int _,H,I.tok _,⟨_,rfl⟩,q⟩
theorem y9 (hc:X.calm=true):Zo X (.builtin "max") (λxs H Q=>∃i j,xs=[.int i,.int j]/\Q (.int (if j > i then j else i)) H):=by
 intro pins s σ H xs us Q I r h;obtain⟨i,j,rfl,q⟩:=h;obtain⟨u,w',rfl,⟨t,rfl⟩,⟨t',rfl⟩⟩:=y8 r;refine max_two_ints (I.ok.hd hc) λh' tk k=>⟨_,H,I.kept k, ?_,q⟩
 by_cases hj:j > i
 ·rw[if_pos hj,if_pos hj];exact⟨_,rfl⟩
 ·rw[if_neg hj,if_neg hj];exact⟨_,rfl⟩
theorem ya (hc:X.calm=true):Zo X (.builtin "min") (λxs H Q=>∃i j,xs=[.int i,.int j]/\Q (.int (if j < i then j else i)) H):=by
 intro pins s σ H xs us Q I r h;obtain⟨i,j,rfl,q⟩:=h;obtain⟨u,w',rfl,⟨t,rfl⟩,⟨t',rfl⟩⟩:=y8 r;refine min_two_ints (I.ok.hd hc) λh' tk k=>⟨_,H,I.kept k, ?_,q⟩
 by_cases hj:j < i
 ·rw[if_pos hj,if_pos hj];exact⟨_,rfl⟩
 ·rw[if_neg hj,if_neg hj];exact⟨_,rfl⟩
theorem yb:Zo X (.type "int") (λxs H Q=>(∃i,xs=[.int i]/\Q (.int i) H)\/∃k,xs=[.bl k]/\Q (.int (if k then 1 else 0)) H):=by
 intro pins s σ H xs us Q I r h;rcases h with ⟨i,rfl,q⟩ | ⟨k,rfl,q⟩
 ·obtain⟨u,rfl,t,rfl⟩:=Zx r;exact call_int_int ⟨.int i,H,I,⟨_,rfl⟩,q⟩
 ·obtain⟨u,rfl,r1⟩:=Zx r;cases r1;exact call_int_bool ⟨.int _,H,I.tok _,⟨_,rfl⟩,q⟩
end
end L2
namespace L2
open PySem PySem.Spec PyProof.Rows
structure Gq (h:Heap) (x dx C:Addr) (mA:Str->Option Value):Prop where
 obj:h.get? x=some (f9 C dx)
 ns:h.Ns1 dx mA
 ne:dx ≠ x
theorem yc {h:Heap}{dx:Addr}{mA:Str->Option Value}(n:h.Ns1 dx mA):∃od,h.get? dx=some od/\∀name,fw name od=some (mA name):=by
 obtain⟨o,es,ep,ho,hd,hk,_,hm⟩:=n;refine⟨o,ho,λname=> ?_⟩;have e:=hm name;unfold nsFind findBy at e;rw[← Array.find?_toList]at e;unfold fw;rw[hd];dsimp only;split
 ·rename_i y q;rw[q]at e;exact congrArg _ e
 ·rename_i q;rw[q]at e;have a:es.toList.any (·.refKey)=false:=by
   rw[fS];intro y hy;obtain⟨z,t,hkey⟩:=hk y (Array.mem_toList_iff.mp hy);simp[DictEntry.refKey,hkey]
  have a' :¬ es.toList.any (·.refKey)=true:=by rw[a];exact ax
  rw[if_neg a'];exact congrArg _ e
theorem Gq.look {h:Heap}{x dx C:Addr}{mA:Str->Option Value}(I:Gq h x dx C mA):∃od,PySem.W.InstAt h x (f9 C dx) C (some od)/\∀name,fw name od=some (mA name):=
 let ⟨od,ho,hl⟩:=yc I.ns
 ⟨od,⟨I.obj,rfl,rfl,ho⟩,hl⟩
section
variable {P:Program}{w:World}{H H' :Hp}{h h' :Heap}{a C dx:Addr}{fs fs' :List (Str×V)}
theorem Vi (hok:HOk P w H h)(e:H a=some (.ins C dx fs)):∃mA,Gq h a dx C mA/\(∀f,G5 (fs.lookup f) (mA f))/\PySem.Within mA (fs.map (·.1))/\fs.length<=1000/\H dx=some (.own a):=by
 obtain⟨d,z,ne,ob,mA,n,r,q⟩:=(show Zj P w H h a _ from hok a _ e);exact⟨mA,⟨ob,n,ne⟩,r,q,z,d⟩
end
structure Cls (K:ae) (C:Addr):Prop where
 pg:g_ K C Str.empty=true
 hd:PySem.W.hasDictIn K C=true
 po:PySem.W.plainOver K C=true
 sa:PySem.W.findIn K (.ref C) "__setattr__"=some (some (.builtin "object.__setattr__"))
theorem Cls.get {K:ae}{C:Addr}(c:Cls K C)(f:Str):g_ K C f=true:=c.pg
section
variable {X:Cx}{pins:List (Addr×Obj)}{σ:St}{H:Hp}{s:Shared}{A:Around}{E:Value->Shared->Prop}{Q:Value->Shared->Prop}{c:Value}{b:Bool}
inductive Up (K:ae) (H:Hp):V->Value->Prop where
 | non:Up K H .non (.type "NoneType")
 | bl (x:Bool):Up K H (.bl x) (.type "bool")
 | int (i:Int):Up K H (.int i) (.type "int")
 | str (x:Str):Up K H (.str x) (.type "str")
 | flt (x:UInt64):Up K H (.flt x) (.type "float")
 | lst {a:Addr} {xs:List V} (e:H a=some (.lst xs)):Up K H (.ref a) (.type "list")
 | frz {a:Addr} {o:Obj} {xs:List V} (e:H a=some (.frz o (.lst xs))):Up K H (.ref a) (.type "list")
 | tup {a:Addr} {xs:List V} (e:H a=some (.tup xs)):Up K H (.ref a) (.type "tuple")
 | dK {a:Addr} {kvs:List (Key×V)} (e:H a=some (.dK kvs)):Up K H (.ref a) (.type "dict")
 | dT {a:Addr} {kvs:List (List Key×V)} (e:H a=some (.dT kvs)):Up K H (.ref a) (.type "dict")
 | ins {a C dx:Addr} {fs:List (Str×V)} (e:H a=some (.ins C dx fs)) (cl:Cls K C) (ha:PySem.W.findIn K (.ref C) "__class__"=some (some (.builtin "object.__class__")))
   (hn:PySem.W.specialIn K (.builtin "object.__class__") "__get__"=some (some (.builtin "getset_descriptor.__get__"))) (htk:PySem.W.takesIn K (.builtin "object.__class__")=some true)
   (hm:PySem.W.mroIn K C (.type "object")=some true):Up K H (.ref a) (.ref C)
theorem yd {x:V}{u t:Value}(I:Inv X pins σ H s)(rx:zU x u)(ty:Up X.K H x t)(e:cg X.K t c=some b)(h:∀tk,Q (.bool b) { s with toks:=tk }):
  wpAny (model X.prog X.w) A (call (.builtin "isinstance") [u,c]) Q E s:=by
 cases ty with
 | non=>cases (rx);exact bj PySem.W.kitx_none I.kIn True.intro e (λz=>nomatch z) h
 | bl y=>cases (rx);exact bj PySem.W.kitx_bool I.kIn True.intro e (λz=>nomatch z) h
 | int i=>obtain⟨t,q⟩:=(rx);cases q;exact bj PySem.W.kitx_int I.kIn True.intro e (λz=>nomatch z) h
 | str y=>obtain⟨t,q⟩:=(rx);cases q;exact bj PySem.W.kitx_str I.kIn True.intro e (λz=>nomatch z) h
 | flt y=>obtain⟨t,q⟩:=(rx);cases q;exact bj PySem.W.kitx_float I.kIn True.intro e (λz=>nomatch z) h
 | @lst a xs ea=>
  cases (rx);obtain⟨_,_,n,_,h1⟩:=(show Zj _ X.w H _ a _ from I.hok a _ ea);exact bj fT I.kIn ⟨_,h1,rfl⟩ e (λz=>nomatch z) h
 | @frz a ob xs ea=>
  cases (rx);obtain⟨_,_,_,n,_,h1⟩:=(show Zj _ X.w H _ a _ from I.hok a _ ea);exact bj fT I.kIn ⟨_,h1,rfl⟩ e (λz=>nomatch z) h
 | @tup a xs ea=>
  cases (rx);obtain⟨_,_,_,p,_⟩:=(show Zj _ X.w H _ a _ from I.hok a _ ea);obtain⟨o,h1,h2,_⟩:=p;exact bj PySem.W.kitx_tuple I.kIn ⟨o,h1,h2⟩ e (λz=>nomatch z) h
 | @dK a kvs ea=>
  cases (rx);obtain⟨_,_,vs,_,p⟩:=(show Zj _ X.w H _ a _ from I.hok a _ ea);obtain⟨o,es,ep,h1,h2,_⟩:=p;exact bj fU I.kIn ⟨o,h1,h2.1⟩ e (λz=>nomatch z) h
 | @dT a kvs ea=>
  cases (rx);obtain⟨_,_,xs,_,o,es,ep,h1,h2,_⟩:=(show Zj _ X.w H _ a _ from I.hok a _ ea);exact bj fU I.kIn ⟨o,h1,h2.1⟩ e (λz=>nomatch z) h
 | @ins a C dx fs ea cl ha hn htk hm=>
  cases (rx);obtain⟨mA,O,_⟩:=Vi I.hok ea;obtain⟨od,J,_⟩:=O.look;exact bj (PySem.W.kitx_own (cl.get _) cl.hd ha hn htk hm) I.kIn J e (λz=>nomatch z) h
end
end L2
namespace L2
open PySem PySem.Spec PyProof.Rows
structure jg (k:Nat) (A:Around):Prop where
 hd:A.handled=none
 dp:A.depth+3*k+5 < recursionLimit
 un:A.units+16*k+200 < cLine
 gd:A.guards=some []
theorem jg.mono {j k:Nat}{A:Around}(r:jg k A)(h:j<=k):jg j A:=⟨r.hd,by have:=r.dp;omega,by have:=r.un;omega,r.gd⟩
theorem jg.deeper {k:Nat}{A:Around}(r:jg (k+1) A)(env:Env):jg k (A.deeper env):=
 ⟨r.hd,by have:=r.dp;show A.depth+1+3*k+5 < _;omega,by have:=r.un;show A.units+3+16*k+200 < _;omega,r.gd⟩
theorem jg.depth {k:Nat}{A:Around}(r:jg k A):A.depth < recursionLimit:=by have:=r.dp;omega
theorem jg.units {k:Nat}{A:Around}(r:jg k A):A.units+64 < cLine:=by have:=r.un;omega
noncomputable def tNil:TA:=λ_ H Q=>Q [] H
noncomputable def XF (ta:TE)(tr:TA):TA:=λσ H Q=>ta σ H λx H1=>tr σ H1 λxs H2=>Q (x :: xs) H2
section
variable {X:Cx}{e:Expr}{es:List Expr}{te:TE}{t:TA}{pos:Pos}
theorem zX:PA X [] tNil:=λ_ _ _ _ H Q I h=>fV ⟨[],H,I,.nil,h⟩
theorem zy (ha:PE X e te)(hr:PA X es t)(hs:starEach (e :: es) X.env=(false,eval e X.env) :: starEach es X.env:=by rfl):PA X (e :: es) (XF te t):=by
 intro pos pins s σ H Q I h;rw[hs];refine fM (thn (ha _ s σ H _ I h) λu s1 ⟨x,H1,I1,r1,q1⟩=> ?_);exact thn (hr pos _ s1 σ H1 _ I1 q1) λus s2 ⟨xs,H2,I2,r2,q2⟩=>⟨x :: xs,H2,I2,.cons r1 r2,q2⟩
noncomputable def tTup (t:TA):TE:=λσ H Q=>t σ H λxs H1=>xs.length<=sizeLine/\∀p,H1 p=none->Q (.ref p) (upd H1 p (.tup xs))
noncomputable def tLst (t:TA):TE:=λσ H Q=>t σ H λxs H1=>xs.length<=sizeLine/\∀p,H1 p=none->Q (.ref p) (upd H1 p (.lst xs))
theorem XG {x1}(h:PA X es t):PE X (.Tuple es x1 pos) (tTup t):=by
 intro pins s σ H Q I hq;refine wpAny_Tuple_spliced (thn (h pos _ s σ H _ I hq) λus s1 ⟨xs,H1,I1,r,z,q⟩=>⟨by rw[← r.length];exact z, ?_⟩)
 have hf:=I1.hok.fresh (ai _);refine⟨.ref _,upd H1 _ _,I1.laid (λb u e=>af _ e) (ai _) ?_,rfl,q _ hf⟩;exact⟨z,us,r,⟨_,ag _ rfl,rfl,_,rfl⟩,.inr ⟨_,ag _ rfl,rfl⟩⟩
theorem vm (h:PA X es t):PE X (.List es pos) (tLst t):=by
 intro pins s σ H Q I hq;refine wpAny_List_spliced (thn (h pos _ s σ H _ I hq) λus s1 ⟨xs,H1,I1,r,z,q⟩=>⟨by rw[← r.length];exact z, ?_⟩)
 have hf:=I1.hok.fresh (ai _);refine⟨.ref _,upd H1 _ _,I1.laid (λb u e=>af _ e) (ai _) ?_,rfl,q _ hf⟩;exact⟨z,us,0,r,ag _ rfl⟩
end
noncomputable abbrev Sp:=List V->Hp->VK->XK->Prop
noncomputable abbrev CXT:=List Env->Hp->Shared->XK->Value->Shared->Prop
structure vn (P:Program) (w:World) (K:ae) (mg:Str->Option Value) (base:Heap) (A:Around) (outer:List Env) (s:Shared) (H:Hp):Prop where
 frames:A.frames=some outer
 mod:Mod K mg base
 bs:∀b o,base.get? b=some o->s.heap.get? b=some o/\H b=none
 bsz:base.objs.size<=s.heap.objs.size
 funs:s.heap.FunFrames base outer
 frf:∀b∈frs outer,H b=none
 hok:HOk P w H s.heap
 bare:AllBare s.gens
noncomputable def CE (outer:List Env)(P:Program)(w:World)(H:Hp)(s:Shared)(Q:VK)(u:Value)(s' :Shared):Prop:=
 ∃v H',s'.os=s.os/\AllBare s'.gens/\Un (frs outer) [] H H' s.heap s'.heap/\HOk P w H' s'.heap/\zU v u/\Q v H'
noncomputable def CR (CX:CXT)(outer:List Env)(P:Program)(w:World)(H:Hp)(s:Shared)(Q:VK)(E:XK)(r:Result)(s' :Shared):Prop:=
 match r with
 | .ok (.ret u)=>CE outer P w H s Q u s'
 | .ok _=>False
 | .error e=>CX outer H s E e s'
structure Wj (P:Program) (w:World) (K:ae) (mg:Str->Option Value) (base:Heap) (CX:CXT) (k:Nat) (f:Addr) (fd:FuncData) (ps:List Str) (sp:Sp):Prop where
 len:∀vs H Q E,sp vs H Q E->vs.length=ps.length
 run:∀(A:Around) (outer:List Env) (s:Shared) (H:Hp) (args:Args) (us:List Value) (vs:List V) (Q:VK) (E:XK),jg k A->vn P w K mg base A outer s H->BindsTo s fd args (ps.zip us)->zS vs us->sp vs H Q E->
  codeAny (model P w) A (.call (.ref f) args) (CR CX outer P w H s Q E) s
section
variable {X:Cx}{pins:List (Addr×Obj)}{σ:St}{H:Hp}{s s' :Shared}
theorem Inv.env0 (I:Inv X pins σ H s):vn X.prog X.w X.K X.mg X.base X.A X.stack s H:=
 ⟨I.ok.frames,I.ok.mod,I.bs,aq I.ok.bsz I.sz,I.stack,I.stkFree,I.hok,I.bare⟩
theorem Inv.after {Q:VK}{u:Value}(I:Inv X pins σ H s)(h:CE X.stack X.prog X.w H s Q u s'):EP X pins σ Q u s' :=by
 obtain⟨v,H',os,bare,un,hok,r,q⟩:=h;obtain⟨hh,g,d,t,os'⟩:=s';obtain rfl:os' =s.os:=os;exact⟨v,H',I.call un hok bare (λb z=>absurd z (by simp)),r,q⟩
end
noncomputable def Gr (sp:Sp)(dvs:List V)(E:XK)(t:TA):TE:=λσ H Q=>t σ H λvs H1=>sp (vs++dvs) H1 Q E
noncomputable def Binds (K:ae)(fd:FuncData)(ps:List Str)(ds:List Value):Prop:=
 ∀(s:Shared) (us:List Value),K.In s.heap->(us++ds).length=ps.length->BindsTo s fd ⟨us,[]⟩ (ps.zip (us++ds))
theorem Binds.all {K:ae}{fd:FuncData}{ps:List Str}(h:∀us:List Value,us.length=ps.length->bindArgs fd ⟨us,[]⟩=pure (ps.zip us)):Binds K fd ps []:=λs us _ hl=>by
 rw[bA]at hl ⊢;exact .of_eq (h us hl)
noncomputable def ji (CX:CXT)(X:Cx)(E:XK):Prop:=∀(pins:List (Addr×Obj)) (σ:St) (H:Hp) (s:Shared) (e:Value) (s' :Shared),Inv X pins σ H s->CX X.stack H s E e s' ->X.xe e s'
section
variable {X:Cx}{CX:CXT}{k:Nat}{f C:Addr}{fd:FuncData}{ps:List Str}{sp:Sp}{dvs:List V}{ds:List Value}{E:XK}{x m:Str}{p pos apos:Pos}{e o:Expr}{es:List Expr}{ta:TE}{t:TA}
theorem XH {pins:List (Addr×Obj)}{σ:St}{H:Hp}{s:Shared}{Q:VK}{us:List Value}{vs:List V}(F:Wj X.prog X.w X.K X.mg X.base CX k f fd ps sp)(hr:jg k X.A)(hb:Binds X.K fd ps ds)(hd:zS dvs ds)(hx:ji CX X E)
  (I:Inv X pins σ H s) (r:zS vs us) (h:sp (vs++dvs) H Q E):wpAny (model X.prog X.w) X.A (call (.ref f) us) (EP X pins σ Q) X.xe s:=by
 have r2:=r.append hd;have hl:(us++ds).length=ps.length:=by rw[← r2.length];exact F.len _ _ _ _ h
 refine wpAny_call (db (F.run X.A _ s H _ _ _ Q E hr I.env0 (hb s us I.kIn hl) r2 h) λr s' hq=> ?_);cases r with
 | error e=>exact hx _ σ H s e s' I hq
 | ok fl=>
  cases fl with
  | ret u=>exact I.after hq
  | next=>exact bL hq
  | brk=>exact bL hq
  | cont=>exact bL hq
theorem ye (F:Wj X.prog X.w X.K X.mg X.base CX k f fd ps sp)(hr:jg k X.A)(hg:Gl X x)(hm:X.mg x=some (.ref f))(hk:cK X.K (.ref f)=true)(hb:Binds X.K fd ps ds)(hd:zS dvs ds)(hx:ji CX X E)
  (ha:PA X (e :: es) t) (hdb:(x == ("__debug__":Str))=false:=by decide) (he:starEach (e :: es) X.env=(false,eval e X.env) :: starEach es X.env:=by rfl) (hpl:(backTo pos (starEach es X.env)).any (·.1)=false:=by rfl):
  PE X (.Call (.Name x p) (e :: es) [] pos) (Gr sp dvs E t):=by
 intro pins s σ H Q I h;refine bU (UV I hg hm ?_ hdb);refine PySem.W.callWith_K I.ok.mod.kin hk (thn (ha pos _ s σ H _ I h) λus s1 ⟨vs,H1,I1,r,q⟩=>⟨I1.kIn, ?_⟩) he hpl;exact XH F hr hb hd hx I1 r q
end
noncomputable def PK (X:Cx)(kws:List Keyword)(t:TA):Prop:=
 ∀(pos:Pos) (pins:List (Addr×Obj)) (s:Shared) (σ:St) (H:Hp) (Q:List V->Hp->Prop),Inv X pins σ H s->t σ H Q->wpAny (model X.prog X.w) X.A (evalAll ((backToKw pos (keywordEach kws X.env)).map (·.2))) (AP X pins σ Q) X.xe s
section
variable {X:Cx}{CX:CXT}{k:Nat}{f C:Addr}{fd:FuncData}{ps ks:List Str}{sp:Sp}{E:XK}{x m:Str}{p pos apos kpos:Pos}{e o:Expr}{es:List Expr}{kws:List Keyword}{te ta:TE}{t tk:TA}{nm:Option Str}
theorem XI:PK X [] tNil:=λ_ _ _ _ H Q I h=>wpAny_evalAll_nil ⟨[],H,I,.nil,h⟩
theorem yf (ha:PE X e te)(hr:PK X kws t):PK X (⟨nm,e,kpos⟩ :: kws) (XF te t):=by
 intro pos pins s σ H Q I h;refine wpAny_evalAll_cons (a7 (thn (ha _ s σ H _ I h) λu s1 ⟨x,H1,I1,r1,q1⟩=>a7 (wpAny_standAt (am ?_))));exact thn (hr pos _ s1 σ H1 _ I1 q1) λus s2 ⟨xs,H2,I2,r2,q2⟩=>⟨x :: xs,H2,I2,.cons r1 r2,q2⟩
variable {g:List Value->List Value->List Value}{gV:List V->List V->List V}
end
structure jn (N P:List Str) (sc:Scope):Prop where
 kind:sc.kind= .function
 co:sc.isCoroutine=false
 gen:sc.isGenerator=false
 nd:N.Nodup
 pre:N.take P.length=P
 par:∀x∈P,sc.names.lookup x=some .local\/sc.names.lookup x=some .cell
 nofree:∀y∈sc.names,y.2 ≠ .free
theorem Wo {kindOf:Str->Option NameKind}{x:Str}:∀{binds:List (Str×Value)} {m:Str->Option Value},(∀v,(x,v) ∉ binds)->bindL kindOf binds m x=m x
 | [],_,_=>rfl
 | (n,v) :: r,m,h=>by
  unfold bindL;rw[Wo λw hw=>h w (a8 _ hw)];split
  ·have:x ≠ n:=by rintro rfl;exact h v aa
   simp[this]
  ·rfl
theorem Wp {kindOf:Str->Option NameKind}{x:Str}:∀{binds:List (Str×Value)} {m:Str->Option Value},(∀v,(x,v) ∉ binds)->bindC kindOf binds m x=m x
 | [],_,_=>rfl
 | (n,v) :: r,m,h=>by
  unfold bindC;rw[Wp λw hw=>h w (a8 _ hw)];split
  ·rfl
  ·have:x ≠ n:=by rintro rfl;exact h v aa
   simp[this]
theorem Wq {kindOf:Str->Option NameKind}{x:Str}{v:Value}:∀{P:List Str} {vs:List Value} {i:Nat} {m:Str->Option Value},P.Nodup->P[i]? =some x->vs[i]? =some v->kindOf x=some .local->
  bindL kindOf (P.zip vs) m x=some v
 | [],_,_,_,_,h,_,_=>by simp at h
 | _ :: _,[],_,_,_,_,h,_=>by simp at h
 | p :: P,w :: vs,0,m,nd,h1,h2,hk=>by
  simp at h1 h2;subst h1;subst h2;show bindL _ ((p,w) :: P.zip vs) m p=_;unfold bindL;rw[Wo λv hv=>(d4.mp nd).1 (bB hv).1,if_pos hk];simp
 | p :: P,w :: vs,i+1,m,nd,h1,h2,hk=>by
  show bindL _ ((p,w) :: P.zip vs) m x=_;exact Wq (d4.mp nd).2 (by simpa using h1) (by simpa using h2) hk
theorem Wr {kindOf:Str->Option NameKind}{x:Str}{v:Value}:∀{P:List Str} {vs:List Value} {i:Nat} {m:Str->Option Value},P.Nodup->P[i]? =some x->vs[i]? =some v->kindOf x ≠ some .local->
  bindC kindOf (P.zip vs) m x=some v
 | [],_,_,_,_,h,_,_=>by simp at h
 | _ :: _,[],_,_,_,_,h,_=>by simp at h
 | p :: P,w :: vs,0,m,nd,h1,h2,hk=>by
  simp at h1 h2;subst h1;subst h2;show bindC _ ((p,w) :: P.zip vs) m p=_;unfold bindC;rw[Wp λv hv=>(d4.mp nd).1 (bB hv).1,if_neg hk];simp
 | p :: P,w :: vs,i+1,m,nd,h1,h2,hk=>by
  show bindC _ ((p,w) :: P.zip vs) m x=_;exact Wr (d4.mp nd).2 (by simpa using h1) (by simpa using h2) hk
noncomputable def start (N:List Str)(vs:List V):St:=vs.map some++ab (N.length - vs.length) none
noncomputable def u8 (CX:CXT)(P:Program)(w:World)(K:ae)(mg:Str->Option Value)(base:Heap)(N:List Str)(qual:Str)(scope:Scope)(f:Addr)(cd:Value)(A:Around)(outer:List Env)(s:Shared)(H:Hp)(E:XK):Cx where
 prog:=P
 w:=w
 K:=K
 mg:=mg
 base:=base
 A:=A.deeper (envOfC qual scope s.heap.objs.size f cd)
 N:=N
 s₀:=s
 H₀:=H
 env:=envOfC qual scope s.heap.objs.size f cd
 outer:=outer
 stack:=envOfC qual scope s.heap.objs.size f cd :: outer
 ex:=[]
 calm:=true
 fn:=λ_=>true
 pn:=[]
 xe:=λe s' =>wpAny (model P w) (A.deeper (envOfC qual scope s.heap.objs.size f cd)) (leaving (envOfC qual scope s.heap.objs.size f cd) e) (λ_ s'' =>CX outer H s E e s'') (λe' s'' =>CX outer H s E e' s'') s'
theorem uz {sc:Scope}{n:Nat}{x:Str}(h:sc.names.lookup x=some .cell):∃c,(cellsFrom n sc.names []).lookup x=some c:=by
 have q:=eX _ n [] (.inl h);exact Option.isSome_iff_exists.mp q
theorem yg {CX:CXT}{P:Program}{w:World}{K:ae}{mg:Str->Option Value}{base:Heap}{N ps:List Str}{qual:Str}{scope:Scope}{f:Addr}{cd:Value}{A:Around}{outer:List Env}{s s1:Shared}{H:Hp}{E:XK}{us:List Value}{vs:List V}
  (S:jn N ps scope) (hd:A.handled=none) (e0:vn P w K mg base A outer s H) (hl:vs.length=ps.length) (r:zS vs us)
  (x:InCallC s s.heap.objs.size (bindL (envOfC qual scope s.heap.objs.size f cd).kindOf (ps.zip us) λ_=>none) (cellsFrom (s.heap.objs.size+1) scope.names []) (bindC (envOfC qual scope s.heap.objs.size f cd).kindOf (ps.zip us) λ_=>none) s1):
  Inv (u8 CX P w K mg base N qual scope f cd A outer s H E) [] (start N vs) H s1:=by
 have hpl:=by have:=congrArg i6 S.pre;rw[cO]at this;omega
 obtain⟨h1,tk,rfl,hk⟩:=x.done;have noA:∀b,b ∉ (u8 CX P w K mg base N qual scope f cd A outer s H E).ex:=λb z=>absurd (show b∈([]:List _) from z) (by simp)
 refine⟨⟨e0.mod,S.kind,rfl,rfl,ai _,λy z c h1 h2=> ?_,λy hy=> ?_,λy c _ h=> ?_,λ_=>hd,fx e0.frames,.inr ⟨rfl,rfl⟩,λb z=>absurd z (noA b),e0.bs,e0.bsz,λb _ _=>noA b,λb z=>absurd z (noA b),e0.funs,e0.frf⟩,
  rfl,e0.bare,Un.kept hk,⟨_,x.toInCall.ns,λi y v h1 h2 h3=> ?_⟩,λy c h=>⟨_,x.cell y c h⟩,e0.hok.fresh (ai _),λy c h=> ?_,λp hp=>absurd (show p∈([]:List _) from hp) (by simp),e0.hok.kept hk, ?_⟩
 ·exact name_of_addr x.apart (be h1) (be h2)
 ·rcases hy with hy | hy
  ·exact uz hy
  ·exact absurd rfl (S.nofree _ (be hy))
 ·exact eW (x.above y c (be h))
 ·have hi:i < vs.length:=by
   unfold start at h2
   by_cases hi:i < vs.length
   ·exact hi
   ·rw[aK (by simpa using hi)]at h2
    rw[aL]at h2;split at h2 <;> cases h2
  have ha:vs[i]? =some v:=by
   unfold start at h2;rw[aN (by simpa using hi),aj]at h2
   cases e:vs[i]? with
   | none=>rw[e]at h2;cases h2
   | some a=>rw[e]at h2;cases h2;rfl
  obtain⟨u,hu,rv⟩:=r.get ha;have hp:ps[i]? =some y:=by
   rw[← S.pre,cY (by omega)];exact h1
  have ndP:ps.Nodup:=by rw[← S.pre];exact S.nd.sublist (List.take_sublist _ _)
  refine⟨u,rv, ?_⟩;rcases S.par y (b9 hp) with k | k
  ·exact .inl ⟨k,Wq ndP hp hu k⟩
  ·obtain⟨c,e⟩:=uz k;refine .inr ⟨.inl k,c,e, ?_⟩;have q:=x.cell y c e;rw[Wr ndP hp hu (by show scope.names.lookup y ≠ _;rw[k];decide)]at q
   exact q
 ·exact e0.hok.fresh (eW (x.above y c (be h)))
 ·unfold start;show _=N.length;rw[aB,xqz,aI];omega
theorem Vj {CX:CXT}{P:Program}{w:World}{K:ae}{mg:Str->Option Value}{base:Heap}{k:Nat}{f:Addr}{name qual:Str}{params:Arguments}{body:List Stmt}{scope:Scope}{dV kV doc pm cdv ct oc:Value}{an od:Option Addr}
  {osl:Array (Option Value)} {N ps:List Str} {sp:Sp} (lk:K.lookup f=some ⟨oc,od,.func (bO name qual params body scope dV kV doc pm an cdv ct),osl⟩) (hcd:dI K cdv qual=true) (S:jn N ps scope)
  (len:∀vs H Q E,sp vs H Q E->vs.length=ps.length)
  (hbody:∀(A:Around) (outer:List Env) (s:Shared) (H:Hp) (vs:List V) (Q:VK) (E:XK),jg k (A.deeper (envOfC qual scope s.heap.objs.size f cdv))->sp vs H Q E->
   ∃t,PSs (u8 CX P w K mg base N qual scope f cdv A outer s H E) body t/\t { nx:=λ_ H' =>Q .non H',rt:=Q } (start N vs) H):
  Wj P w K mg base CX (k+1) f (bO name qual params body scope dV kV doc pm an cdv ct) ps sp:=by
 refine⟨len,λA outer s H args us vs Q E hr e0 hb r hsp=> ?_⟩;have hl:=len _ _ _ _ hsp;have KX:=e0.mod.kin.keeps λb o e=>(e0.bs b o e).1;have lim:=e0.mod.nolimit.keeps λb o e=>(e0.bs b o e).1;have hkind:∀y∈ps.zip us,scope.names.lookup y.1=some _\/(scope.names.lookup y.1=some _/\((cellsFrom (s.heap.objs.size+1) _ []).lookup y.1).isSome=true):=λ⟨n,v⟩ hy=>by
  rcases S.par n (bB hy).1 with q | q
  ·exact .inl q
  ·exact .inr ⟨q,eX _ _ _ (.inl q)⟩
 refine codeAny_call_function hr.depth (KX _ _ lk) rfl S.co S.gen rfl (PySem.W.codeRec_of KX hcd) (hb _ _ _ _ ?_);refine wpAny_newFunctionEnv_cells S.kind hkind λenv he s1 x=> ?_;subst he;refine⟨lim.keeps x.toInCall.keep,codeAny_func ?_⟩;obtain⟨t,ht,hq⟩:=hbody A _ s H vs Q E (hr.deeper _) hsp;have I:Inv (u8 CX P w K mg _ N _ _ f cdv A _ s H E) [] _ H s1:=yg S hr.hd e0 hl r x;refine cx (ht [] s1 _ H _ I hq) (λfl s' hs=> ?_) λe s' hs=>hs;have fin:∀{σ' :St} {H' :Hp} {v:V} {u:Value},Inv (u8 CX P w K mg base N qual scope f cdv A outer s H E) [] σ' H' s' ->zU v u->Q v H' ->CE _ P w H s Q u s' :=
  λ{σ' H' v u} J rv q=>⟨v,H',J.os,J.bare,J.base,J.hok,rv,q⟩
 cases fl with
 | ret u=>
  obtain⟨v,σ',H',J,rv,q⟩:=hs;exact fin J rv q
 | next=>
  obtain⟨σ',H',J,q⟩:=hs;exact fin (v:=V.non) J rfl q
 | brk=>
  obtain⟨_,_,_,q⟩:=hs;exact bL q
 | cont=>
  obtain⟨_,_,_,q⟩:=hs;exact bL q
end L2
namespace L2
open PySem PySem.Spec PyProof.Rows
section
variable {X:Cx}{x:Str}{p pos:Pos}{e:Expr}{es:List Expr}{t:TA}{id T:String}{r:List V->Hp->VK->Prop}
noncomputable def tCB (r:List V->Hp->VK->Prop)(t:TA):TE:=λσ H Q=>t σ H λvs H1=>r vs H1 Q
theorem jw (hc:Zo X (.builtin id) r)(hg:Gl X x)(hm:X.mg x=none)(hv:bootBuiltins x=some (.builtin id))(ha:PA X (e :: es) t)(hn:x ≠ "__name__":=by decide)(hdb:(x == ("__debug__":Str))=false:=by decide)
  (he:starEach (e :: es) X.env=(false,eval e X.env) :: starEach es X.env:=by rfl) (hpl:(backTo pos (starEach es X.env)).any (·.1)=false:=by rfl):PE X (.Call (.Name x p) (e :: es) [] pos) (tCB r t):=by
 intro pins s σ H Q I h;refine bU (ZP I hg hm hv ?_ hn hdb);exact PyProof.Rows.callWith_builtin1 (thn (ha pos _ s σ H _ I h) λus s1 ⟨vs,H1,I1,r1,q1⟩=>hc _ s1 σ H1 vs us Q I1 r1 q1) he hpl
theorem jx (hc:Zo X (.type T) r)(hg:Gl X x)(hm:X.mg x=none)(hv:bootBuiltins x=some (.type T))(ha:PA X (e :: es) t)(hn:x ≠ "__name__":=by decide)(hdb:(x == ("__debug__":Str))=false:=by decide)
  (he:starEach (e :: es) X.env=(false,eval e X.env) :: starEach es X.env:=by rfl) (hpl:(backTo pos (starEach es X.env)).any (·.1)=false:=by rfl):PE X (.Call (.Name x p) (e :: es) [] pos) (tCB r t):=by
 intro pins s σ H Q I h;refine bU (ZP I hg hm hv ?_ hn hdb);exact aO (thn (ha pos _ s σ H _ I h) λus s1 ⟨vs,H1,I1,r1,q1⟩=>hc _ s1 σ H1 vs us Q I1 r1 q1) he hpl
end
end L2
namespace HT
open PySem PyProof.Rows
section
open PySem.SeqAt
open PySem.AutoSeq1 (wpAny_loadPart')
open PySem.MeetsSeq PySem.MeetsSeq2 PySem.MeetsSeq3
end
section
variable {prog:Program}{w:World}{A:Around}{E:Value->Shared->Prop}{s:Shared}
theorem cat_tup {t b:Addr}{vs ws:List Value}{Q:Value->Shared->Prop}(ht:IsTup s.heap t vs.toArray)(hb:IsTup s.heap b ws.toArray)(hv:vs ≠ [])
  (h1:ws=[]->Q (.ref t) s) (h2:ws ≠ []->Q (.ref s.heap.objs.size) { s with heap:=s.heap.push { cls:= .type "tuple",data:= .seq (vs++ws).toArray } })
  (hsz:vs.length+ws.length<=sizeLine):wpAny (model prog w) A (binaryOp .Add (.ref t) (.ref b)) Q E s:=by
 obtain⟨⟨cls,dd,data,sl⟩,ho,hc,n,hd⟩:=id ht;obtain⟨⟨cls2,dd2,data2,sl2⟩,ho2,hc2,n2,hd2⟩:=id hb;subst hc hd hc2 hd2;have e:vs.toArray++ws.toArray=(vs++ws).toArray:=by simp
 by_cases hw:ws=[]
 ·exact concat_meets ⟨_,ho,rfl⟩ ⟨_,ho2,rfl⟩ noFill_tuple_add seq_tuple_add de d6 (c_ _ _)
   (tuple_addW1 t b _ _ n n2 dd dd2 sl sl2 (by simpa using hv) (by simp[hw])) ⟨ho,ho2,h1 hw⟩
 ·refine concat_meets ⟨_,ho,rfl⟩ ⟨_,ho2,rfl⟩ noFill_tuple_add seq_tuple_add de d6 (c_ _ _)
   (tuple_addW2 t b _ _ n n2 dd dd2 sl sl2 (by simpa using hv) (by simpa using hw) (by exact hsz)) ⟨ho,ho2, ?_⟩
  rw[e];exact h2 hw
noncomputable def sIx (n d:Nat):Option Int->Nat
 | none=>d
 | some v=>if v < 0 then (v+(n:Int)).toNat else min v.toNat n
theorem sIx_none (n d:Nat):sIx n d none=d:=rfl
theorem sIx_nat (n d k:Nat):sIx n d (some (k:Int))=min k n:=by
 show (if (k) < 0 then ((k:Int)+(n)).toNat else min _ n)=min k n
 rw[if_neg (by omega),aT]
theorem yh (v:Int)(n d:Nat):(if v < 0 then max (v+(n:Int)) 0 else min v (n:Int))=((sIx n d (some v):Nat):Int):=by
 show (if v < 0 then max _ 0 else min v (n))=(((if v < 0 then (v+(n)).toNat else min _ n):Nat):Int)
 by_cases hv:v < 0
 ·simp only[if_pos hv];omega
 ·simp only[if_neg hv];omega
theorem Uq (lo hi:Option Int)(n:Nat):dU lo hi 1 (n:Int)=(((sIx n 0 lo:Nat):Int),((sIx n n hi:Nat):Int)):=by
 refine Prod.ext ?_ ?_
 ·cases lo with
  | none=>rfl
  | some v=>exact yh v n 0
 ·cases hi with
  | none=>rfl
  | some v=>exact yh v n n
theorem Ur (i j:Nat):cQ (i:Int) (j:Int) 1=j - i:=by
 unfold cQ;split <;> omega
theorem wk {v:Value}{o:Option Int}{Q:Option Int->Shared->Prop}(p:IsPart v o)(h:Q o s):wpAny (model prog w) A (Builtin.Slice.slicePartIndex v) Q E s:=by
 cases p with
 | none=>exact slicePart_none h
 | int i t=>exact slicePart_int h
theorem sliceApplied_gen {sl:Addr}{vl vu:Value}{lo hi:Option Int}{n:Nat}{Q:Int×Int×Nat->Shared->Prop}(hs:s.heap.IsSliceOf sl vl vu .none)(pl:IsPart vl lo)(pu:IsPart vu hi)
  (h:Q (((sIx n 0 lo:Nat):Int),1,sIx n n hi - sIx n 0 lo) s):wpAny (model prog w) A (Builtin.Slice.sliceApplied (.ref sl) (pure (n:Int))) Q E s:=by
 obtain⟨os,hos,hcs,hds⟩:=id hs;refine a7 (a7 (aW hos hds rfl (a7 (aW hos hds rfl (a7 (aW hos hds rfl (am ?_)))))));refine a7 (slicePart_none ?_);refine a7 (wk pl (a7 (wk pu (a7 (am ?_)))));show wpAny _ _ (match dU lo hi 1 _ with | (lo,hi)=>pure (lo,(1:Int),cQ lo hi 1)) _ _ s
 rw[Uq lo hi n];show wpAny _ _ (pure _) _ _ s;rw[Ur];exact am h
theorem Q0 (xs:Array Value)(i k:Nat):((aQ k).filterMap λ(m:Nat)=>xs[((i:Int)+(m:Int)*1).toNat]?).toArray=((xs.toList.drop i).take k).toArray:=by
 have e:(λ(m:Nat)=>xs[((i:Int)+(m)*1).toNat]?)=λm=>xs[i+m]? :=by
  funext m
  have:((i:Int)+(m)*1).toNat=i+m:=by omega
  rw[this]
 rw[e];have:=pick_run xs i k;rw[List.filterMap_map]at this;have e2:((λx=>xs[x]?) ∘ λx=>i+x)=λm=>xs[i+m]? :=rfl;rw[e2]at this;rw[this]
theorem getItem_tuple_cut {t sl:Addr}{items:Array Value}{vl vu:Value}{lo hi:Option Int}{Q:Value->Shared->Prop}(ht:IsTup s.heap t items)(hs:s.heap.IsSliceOf sl vl vu .none)(pl:IsPart vl lo)(pu:IsPart vu hi)
  (hw:¬ (sIx items.size 0 lo=0/\sIx items.size items.size hi=items.size))
  (h:Q (.ref s.heap.objs.size) { s with heap:=s.heap.push { cls:= .type "tuple",data:= .seq ((items.toList.drop (sIx items.size 0 lo)).take (sIx items.size items.size hi - sIx items.size 0 lo)).toArray } })
  (hsz:items.size<=sizeLine):wpAny (model prog w) A (getItem (.ref t) (.ref sl)) Q E s:=by
 have htake:sizeOk (.seq ((items.toList.drop (sIx items.size 0 lo)).take (sIx items.size items.size hi - sIx items.size 0 lo)).toArray):=by
  show ((items.toList.drop _).take _).toArray.size<=sizeLine;rw[av,cO,dy,cU];omega
 obtain⟨os,hos,hcs,hds⟩:=id hs;have hTs:s.TypeIs (.ref sl) _:=⟨os,hos,hcs⟩;unfold getItem
 try with_reducible refine bQ ?_
 refine a7 (wpAny_sequenceKey ht.typeIs (by decide) ?_)
 refine a7 (bg ht.typeIs aY
  (bF aY ht.typeIs entry_tuple_getitem ?_ (args_tuple_getitem _ _)))
 show wpAny _ _ (dJ _ >>= _) _ _ s;refine a7 (tupleItemsOf_ ht ?_);refine a7 (wpAny_typeOf hTs ?_);refine a7 (sliceApplied_gen hs pl pu ?_);have hno:¬ ((((sIx items.size 0 lo):Int) == 0 && (1:Int) == 1 && (sIx items.size items.size hi - sIx items.size 0 lo) == items.size)=true):=by
  intro q;rw[ac,ac]at q;have q1:=eq_of_beq q.1.1;have q2:=eq_of_beq q.2;exact hw ⟨by omega,by omega⟩
 show wpAny _ _ (if (((sIx _ 0 lo:Nat):Int) == 0 && (1) == 1 && (sIx _ _ hi - sIx _ 0 lo) == items.size)=true then _ else _) _ _ s
 rw[if_neg hno,Q0]
 first
  | exact a7 (a_ (am ⟨_,rfl,am h⟩) htake)
  | exact a7 _
  | exact a7 _
  | exact a7 _
end
end HT
namespace L2
open PySem PySem.Spec PyProof.Rows
noncomputable abbrev TO:=St->Hp->(Option Int->Hp->Prop)->Prop
noncomputable def PO (X:Cx)(e:Option Expr)(t:TO):Prop:=
 ∀(pins:List (Addr×Obj)) (s:Shared) (σ:St) (H:Hp) (Q:Option Int->Hp->Prop),Inv X pins σ H s->t σ H Q->
  wpAny (model X.prog X.w) X.A (evalPart e X.env) (λu s' =>∃o H',Inv X pins σ H' s' /\IsPart u o/\Q o H') X.xe s
noncomputable def Vk:TO:=λ_ H Q=>Q none H
noncomputable def Gs (t:TE):TO:=λσ H Q=>t σ H λx H1=>∃i,x= .int i/\Q (some i) H1
section
variable {X:Cx}{e:Expr}{te:TE}{lo hi:Option Expr}{tl th:TO}{pos p2:Pos}
theorem Vl:PO X none Vk:=by
 intro pins s σ H Q I h;exact am ⟨none,H,I,.none,h⟩
theorem Vm (h:PE X e te):PO X (some e) (Gs te):=by
 intro pins s σ H Q I hw;refine thn (h _ s σ H _ I hw) λu s1 ⟨x,H1,I1,r1,q1⟩=> ?_;obtain⟨i,rfl,q⟩:=q1;obtain⟨t,rfl⟩:=r1;exact⟨some i,H1,I1,.int i t,q⟩
noncomputable def SlR (X:Cx)(r:V->Option Int->Option Int->Hp->VK->Prop):Prop:=
 ∀(pins:List (Addr×Obj)) (s:Shared) (σ:St) (H:Hp) (x:V) (v vl vu:Value) (lo hi:Option Int) (sl:Addr) (Q:VK),Inv X pins σ H s->zU x v->s.heap.IsSliceOf sl vl vu .none->IsPart vl lo->IsPart vu hi->r x lo hi H Q->
  ∃T id,typeLookup (.type T) "__getitem__"=pure (some (.builtin id))/\s.TypeIs v T/\wpAny (model X.prog X.w) X.A (getItem v (.ref sl)) (EP X pins σ Q) X.xe s
theorem SlR.or {r r' :V->Option Int->Option Int->Hp->VK->Prop}(h:SlR X r)(h' :SlR X r'):SlR X (λx lo hi H Q=>r x lo hi H Q\/r' x lo hi H Q):=by
 intro pins s σ H x v vl vu lo hi sl Q I rx hs pl pu q;rcases q with q | q
 ·exact h _ s σ H x v vl vu lo hi sl Q I rx hs pl pu q
 ·exact h' _ s σ H x v vl vu lo hi sl Q I rx hs pl pu q
noncomputable def tSl (r:V->Option Int->Option Int->Hp->VK->Prop)(te:TE)(tl th:TO):TE:=λσ H Q=>te σ H λx H1=>tl σ H1 λl H2=>th σ H2 λu H3=>r x l u H3 Q
theorem Q1 {r:V->Option Int->Option Int->Hp->VK->Prop}(hr:SlR X r)(he:PE X e te)(hl:PO X lo tl)(hu:PO X hi th):PE X (.Subscript e (.Slice lo hi none p2) pos) (tSl r te tl th):=by
 intro pins s σ H Q I h;refine Subscript_ (thn (he _ s σ H _ I h) λv s1 ⟨x,H1,I1,r1,q1⟩=> ?_);refine wpAny_Slice (thn (hl _ s1 σ H1 _ I1 q1) λvl s2 ⟨l,H2,I2,pl,q2⟩=>thn (hu _ s2 σ H2 _ I2 q2) λvu s3 ⟨u,H3,I3,pu,q3⟩=> ?_);refine am ?_;have I4:Inv X _ σ H3 { s3 with heap:=s3.heap.push { cls:= .type "slice",data:= .fields #[vl,vu,.none] } }:=I3.kept λb ob q=>af _ q;obtain⟨T,id,hT,ht,hg⟩:=hr _ _ σ H3 x v vl vu l u _ Q I4 r1 (Heap.IsSliceOf.new ..) pl pu q3;exact tail_any ht hT hg (by with_unfolding_all rfl)
noncomputable def X4 (xs:List V)(lo hi:Option Int):List V:=(xs.drop (HT.sIx xs.length 0 lo)).take (HT.sIx xs.length xs.length hi - HT.sIx xs.length 0 lo)
theorem JA (xs:List V)(lo hi:Option Int):(X4 xs lo hi).length<=xs.length:=by
 unfold X4;rw[cO,dy];omega
noncomputable def rSlT (K:ae):V->Option Int->Option Int->Hp->VK->Prop:=λx lo hi H Q=>∃a xs,x= .ref a/\SqT K H a xs/\
 ¬ (HT.sIx xs.length 0 lo=0/\HT.sIx xs.length xs.length hi=xs.length)/\∀p,H p=none->Q (.ref p) (upd H p (.tup (X4 xs lo hi)))
theorem XJ:SlR X (rSlT X.K):=by
 intro pins s σ H x v vl vu lo hi sl Q I rx hs pl pu h;obtain⟨a,xs,rfl,hx,hw,q⟩:=h;cases rx;obtain⟨its,r,ht,hz⟩:=I.tuple hx;have hlen:its.toArray.size=xs.length:=by exact r.length.symm
 refine⟨"tuple",_,aY.lookup,ht.typeIs, ?_⟩;refine HT.getItem_tuple_cut ht hs pl pu (by rw[hlen];exact hw) ?_ (by rw[hlen];exact hz)
 rw[hlen];refine⟨.ref _,_,I.laid (λb ob q=>af _ q) (ai _) ?_,rfl,q _ (I.hok.fresh (ai _))⟩;exact⟨aq (JA xs lo hi) hz,_,(r.drop _).take _,ITN.new _ _⟩
noncomputable def Gu (K:ae):R2:=λx y H Q=>∃a b xs ys,x= .ref a/\y= .ref b/\SqT K H a xs/\SqT K H b ys/\xs ≠ []/\xs.length+ys.length<=sizeLine/\
 (ys=[]->Q (.ref a) H)/\(ys ≠ []->∀p,H p=none->Q (.ref p) (upd H p (.tup (xs++ys))))
theorem zS.nil_iff {xs:List V}{us:List Value}(r:zS xs us):us=[]↔xs=[]:=by
 cases r with
 | nil=>simp
 | cons _ _=>simp
theorem Vn:OpR X (binaryOp .Add) (Gu X.K):=by
 intro pins s σ H x y v u Q I rx ry h;obtain⟨a,b,xs,ys,rfl,rfl,ha,hb,hx,hz,q1,q2⟩:=h;cases rx;cases ry;obtain⟨its,r1,p1,_⟩:=I.tuple ha;obtain⟨its2,r2,p2,_⟩:=I.tuple hb;refine HT.cat_tup p1 p2 (λz=>hx (r1.nil_iff.mp z)) (λz=>⟨.ref a,H,I,rfl,q1 (r2.nil_iff.mp z)⟩) (λz=> ?_) (by rw[← r1.length,← r2.length];exact hz)
 refine⟨.ref _,_,I.laid (λb ob q=>af _ q) (ai _) ?_,rfl,q2 (λw=>z (r2.nil_iff.mpr w)) _ (I.hok.fresh (ai _))⟩;exact⟨by rw[aB];exact hz,_,r1.append r2,ITN.new _ _⟩
end
end L2
namespace L2
open PySem PySem.Spec PyProof.Rows
noncomputable def ixN (n:Nat)(i:Int):Option Nat:=if 0<=i then (if i < n then some i.toNat else none) else if -(n:Int)<=i then some (i+n).toNat else none
noncomputable def atI {α:Type}(xs:List α)(i:Int):Option α:=(ixN xs.length i).bind λj=>xs[j]?
theorem Vo {n:Nat}{i:Int}{j:Nat}(h:ixN n i=some j):seqIndex? i n=some j/\j < n/\ -(n:Int)<=i/\i < n:=by
 unfold ixN at h
 by_cases h0:0<=i
 ·rw[if_pos h0]at h
  by_cases h1:i < n
  ·rw[if_pos h1]at h;have e:=aD h;exact⟨by rw[seqIndex_of h0 h1,e],by omega,by omega,h1⟩
  ·rw[if_neg h1]at h;cases h
 ·rw[if_neg h0]at h
  by_cases h1: -(n)<=i
  ·rw[if_pos h1]at h;have e:=aD h;exact⟨by rw[seqIndex_neg (by omega) h1,e],by omega,h1,by omega⟩
  ·rw[if_neg h1]at h;cases h
theorem ub {α:Type}{xs:List α}{i:Int}{v:α}(h:atI xs i=some v):∃j,seqIndex? i xs.length=some j/\xs[j]? =some v/\j < xs.length/\ -(xs.length:Int)<=i/\i < xs.length:=by
 unfold atI at h;cases e:ixN _ i with
 | none=>rw[e]at h;cases h
 | some j=>
  rw[e]at h;obtain⟨h1,h2,h3,h4⟩:=Vo e;exact⟨j,h1,h,h2,h3,h4⟩
theorem ZV {α:Type}{xs:List α}{j:Nat}{v:α}(h:xs[j]? =some v):atI xs (j:Int)=some v:=by
 have hj:=(ak.mp h).1;have e:ixN xs.length (j)=some j:=by
  unfold ixN;rw[if_pos (by omega),if_pos (by omega)];simp
 unfold atI;rw[e];exact h
noncomputable def yi (b:Expr):Prop:=∀o i,subscripted b false o i=operate [o,i] (getItem o i)
noncomputable def IxR (X:Cx)(r:R2):Prop:=
 ∀(value slice:Expr) (pins:List (Addr×Obj)) (s:Shared) (σ:St) (H:Hp) (x y:V) (v u:Value) (Q:VK),Inv X pins σ H s->zU x v->zU y u->r x y H Q->
  subscripted slice false v u=operate [v,u] (getItem v u)->wpAny (model X.prog X.w) X.A (subscriptTail value slice v u) (EP X pins σ Q) X.xe s
noncomputable def MtR (X:Cx)(id:String)(r:V->List V->Hp->VK->Prop):Prop:=
 ∀(pins:List (Addr×Obj)) (s:Shared) (σ:St) (H:Hp) (x:V) (xs:List V) (v:Value) (us:List Value) (Q:VK),Inv X pins σ H s->zU x v->zS xs us->r x xs H Q->
  wpAny (model X.prog X.w) X.A (call (.builtin id) (v :: us)) (EP X pins σ Q) X.xe s
section
variable {X:Cx}{a b:Expr}{ta tb:TE}{pos:Pos}
theorem IxR.or {r r' :R2}(h:IxR X r)(h' :IxR X r'):IxR X (λx y H Q=>r x y H Q\/r' x y H Q):=by
 intro value slice pins s σ H x y v u Q I rx ry q hs;rcases q with q | q
 ·exact h _ _ _ s σ H x y v u Q I rx ry q hs
 ·exact h' _ _ _ s σ H x y v u Q I rx ry q hs
theorem Gv {r:R2}(hr:IxR X r)(ha:PE X a ta)(hb:PE X b tb)(hs:yi b):PE X (.Subscript a b pos) (tOp r ta tb):=by
 intro pins s σ H Q I h;exact Subscript_ (Gi ha hb I h λv u s2 x y H2 I2 rx ry q=>hr a b _ s2 σ H2 x y v u Q I2 rx ry q (hs _ _))
noncomputable def rIxL (K:ae):R2:=λx y H Q=>∃p xs i v,x= .ref p/\y= .int i/\SqL K H p xs/\atI xs i=some v/\Q v H
noncomputable def rIxT (K:ae):R2:=λx y H Q=>∃p xs i v,x= .ref p/\y= .int i/\SqT K H p xs/\atI xs i=some v/\Q v H
noncomputable def rIxS:R2:=λx y H Q=>∃z i c,x= .str z/\y= .int i/\z.length<=sizeLine/\atI z.cps.toList i=some c/\Q (.str ⟨#[c]⟩) H
theorem Vp:IxR X (rIxL X.K):=by
 intro value slice pins s σ H x y v u Q I rx ry h hs;obtain⟨p,xs,i,z,rfl,rfl,hq,he,q⟩:=h;cases rx;obtain⟨t,rfl⟩:=ry;obtain⟨its,r,pl,hz⟩:=I.list hq;obtain⟨j,h1,h2,h3,h4,h5⟩:=ub he;obtain⟨w,ew,rw'⟩:=r.get h2;have hl:=r.length;have hn:=Wn;have fin:EP X _ σ Q w s:=⟨z,H,I,rw',q⟩
 by_cases h0:0<=i
 ·have hj:=by
   rw[seqIndex_of h0 h5]at h1;exact aD h1
  exact item_listR pl.isList h0 (by omega) (by rw[hj];simpa using ew) fin hs
 ·have hj:(i+(its.toArray.size)).toNat=j:=by
   rw[seqIndex_neg (by omega) h4]at h1
   rw[av,← hl];exact aD h1
  exact subscriptTail_builtinR pl.isList.typeIs slot_list_getitem.lookup
   (wpAny_getItem_list_neg pl.isList (by omega) (by rw[av] <;> omega) (by omega) (by rw[hj];simpa using ew) ⟨rfl,fin⟩) hs
theorem XL:IxR X (rIxT X.K):=by
 intro value slice pins s σ H x y v u Q I rx ry h hs;obtain⟨p,xs,i,z,rfl,rfl,hq,he,q⟩:=h;cases rx;obtain⟨t,rfl⟩:=ry;obtain⟨its,r,pl,hz⟩:=I.tuple hq;obtain⟨j,h1,h2,h3,h4,h5⟩:=ub he;obtain⟨w,ew,rw'⟩:=r.get h2;have hl:=r.length;have hn:=Wn;have fin:EP X _ σ Q w s:=⟨z,H,I,rw',q⟩;exact subscriptTail_builtinR pl.typeIs slot_tuple_getitem.lookup
  (getItem_tuple pl (by omega) (by omega) (by rw[av,← hl];exact h1) (by simpa using ew) ⟨rfl,fin⟩) hs
theorem XM:IxR X rIxS:=by
 intro value slice pins s σ H x y v u Q I rx ry h hs;obtain⟨z,i,c,rfl,rfl,hz,he,q⟩:=h;obtain⟨t,rfl⟩:=rx;obtain⟨t',rfl⟩:=ry;obtain⟨j,h1,h2,h3,h4,h5⟩:=ub he;have hl:z.cps.toList.length=z.length:=by simp[Str.length]
 rw[hl]at h1 h4 h5;have hn:=Wn;exact tail_any (typeIs_str s z t) slot_str_getitem.lookup (getItem_str (by
  have e1:decide (i < -(2 ^ 63))=false:=decide_eq_false (by omega)
  have e2:decide (i ≥ 2 ^ 63)=false:=decide_eq_false (by omega)
  rw[e1,e2,Bool.or_false]) (by rw[h1];simpa using h2) ⟨.str _,H,I.tok _,⟨_,rfl⟩,q⟩) hs
noncomputable def rIx (K:ae):R2:=λx y H Q=>rIxL K x y H Q\/rIxT K x y H Q\/rIxS x y H Q
theorem XN:IxR X (rIx X.K):=Vp.or (XL.or XM)
theorem Ws (lo hi:Option Int)(n:Nat):(sliceBounds lo hi none n).1=((HT.sIx n 0 lo:Nat):Int)/\(sliceBounds lo hi none n).2.1=((HT.sIx n n hi:Nat):Int)/\(sliceBounds lo hi none n).2.2=1:=by
 refine⟨?_, ?_,rfl⟩
 ·cases lo with
  | none=>simp[sliceBounds,HT.sIx]
  | some i=>
   simp only[sliceBounds,HT.sIx,h9,show (1) > 0 by decide,if_true]
   by_cases h:i < 0
   ·simp only[h,if_true] <;> omega
   ·simp only[h,if_false] <;> omega
 ·cases hi with
  | none=>simp[sliceBounds,HT.sIx]
  | some i=>
   simp only[sliceBounds,HT.sIx,h9,show (1) > 0 by decide,if_true]
   by_cases h:i < 0
   ·simp only[h,if_true] <;> omega
   ·simp only[h,if_false] <;> omega
theorem wJ (its:List Value)(lo hi:Option Int):slicePick its.toArray lo hi none=((its.drop (HT.sIx its.length 0 lo)).take (HT.sIx its.length its.length hi - HT.sIx its.length 0 lo)).toArray:=by
 obtain⟨h1,h2,h3⟩:=Ws lo hi _;unfold slicePick;rw[h1,h2,h3];simp only[sliceRange_one,pick_run,av] <;> rfl
noncomputable def rSlL (K:ae):V->Option Int->Option Int->Hp->VK->Prop:=λx lo hi H Q=>∃a xs,x= .ref a/\SqL K H a xs/\∀p,H p=none->Q (.ref p) (upd H p (.lst (X4 xs lo hi)))
theorem Vq:SlR X (rSlL X.K):=by
 intro pins s σ H x v vl vu lo hi sl Q I rx hs pl pu h;obtain⟨a,xs,rfl,hx,q⟩:=h;cases rx;obtain⟨its,r,ht,hz⟩:=I.list hx;have hlen:=r.length;refine⟨"list",_,slot_list_getitem.lookup,ht.isList.typeIs, ?_⟩;refine wpAny_getItem_list_slice ht.isList hs pl pu .none (by simp) ?_ (by rw[av] <;> omega)
 rw[wJ,← hlen];refine⟨.ref _,_,I.laid (λb ob q=>af _ q) (ai _) ?_,rfl,q _ (I.hok.fresh (ai _))⟩;exact⟨aq (JA xs lo hi) hz,_,0,(r.drop _).take _,ag _ rfl⟩
theorem Wt:Zo X (.builtin "len") (λxs H Q=>∃p ys,xs=[.ref p]/\(SqL X.K H p ys\/SqT X.K H p ys)/\Q (.int ys.length) H):=by
 intro pins s σ H xs us Q I r h;obtain⟨p,ys,rfl,hq,q⟩:=h;obtain⟨u,rfl,rx⟩:=Zx r;cases rx;have hn:=Wn;rcases hq with hq | hq
 ·obtain⟨its,r',pl,hz⟩:=I.list hq;have hlen:=r'.length;exact Calls.call_len_list pl.isList (by simp only[av] <;> omega) ⟨.int _,H,I.tok _,⟨s.toks+1,by rw[av,hlen]⟩,q⟩
 ·obtain⟨its,r',pl,hz⟩:=I.tuple hq;have hlen:=r'.length;exact len_tuple pl (by simp only[av] <;> omega) ⟨.int _,H,I.tok _,⟨s.toks+1,by rw[av,hlen]⟩,q⟩
theorem Wu:Zo X (.builtin "len") (λxs H Q=>∃z,xs=[.str z]/\z.length<=sizeLine/\Q (.int z.length) H):=by
 intro pins s σ H xs us Q I r h;obtain⟨z,rfl,hz,q⟩:=h;obtain⟨u,rfl,t,rfl⟩:=Zx r;have hn:=Wn;exact len_str (by omega) ⟨.int _,H,I.tok _,⟨_,rfl⟩,q⟩
theorem Zo.or {f:Value}{r r' :List V->Hp->VK->Prop}(h:Zo X f r)(h' :Zo X f r'):Zo X f (λxs H Q=>r xs H Q\/r' xs H Q):=by
 intro pins s σ H xs us Q I rs q;rcases q with q | q
 ·exact h _ s σ H xs us Q I rs q
 ·exact h' _ s σ H xs us Q I rs q
theorem wK:Zo X (.type "tuple") (λxs H Q=>∃p ys,xs=[.ref p]/\((SqL X.K H p ys/\∀l,H l=none->Q (.ref l) (upd H l (.tup ys)))\/(SqT X.K H p ys/\Q (.ref p) H))):=by
 intro pins s σ H xs us Q I r h;obtain⟨p,ys,rfl,h⟩:=h;obtain⟨u,rfl,rx⟩:=Zx r;cases rx;rcases h with ⟨hq,q⟩ | ⟨hq,q⟩
 ·obtain⟨its,r',pl,hz⟩:=I.list hq;have hlen:=r'.length;refine call_tuple_list pl.isList (λh' kp=> ?_) (by simp only[av] <;> omega)
  have I1:Inv X _ σ H { s with heap:=h' }:=I.kept kp;have I2:Inv X _ σ (upd H _ (.tup ys)) { s with heap:=h'.push _ }:=
   I1.laid (λb o e=>af _ e) (ai _) (show Zj _ X.w _ _ _ _ from ⟨hz,its,r',ITN.new _ _⟩)
  exact⟨.ref _,_,I2,rfl,q _ (I1.hok.fresh (ai _))⟩
 ·obtain⟨its,r',pl,hz⟩:=I.tuple hq;exact call_tuple_same pl ⟨.ref p,H,I,rfl,q⟩
noncomputable def tyV (K:ae)(T:String)(x:V)(H:Hp):Prop:=match x with
 | .str _=>T="str"
 | .int _=>T="int"
 | .ref p=>(T="list"/\∃xs,SqL K H p xs)\/(T="tuple"/\∃o,K.lookup p=some o/\o.cls= .type "tuple"/\o.dict=none)\/
   (T="dict"/\((∃kvs,H p=some (.dK kvs))\/∃kvs,H p=some (.dT kvs)))\/(T="set"/\∃S n,H p=some (.set S n))
 | _=>False
theorem XO {pins:List (Addr×Obj)}{σ:St}{H:Hp}{s:Shared}{T:String}{x:V}{v:Value}(I:Inv X pins σ H s)(r:zU x v)(ty:tyV X.K T x H):
  s.TypeIs v T/\∀a,v= .ref a->∃ob,s.heap.get? a=some ob/\ob.dict=none:=by
 cases x with
 | str z=>
  obtain⟨t,rfl⟩:=r;cases (ty);exact⟨typeIs_str s z t,λ_ e=>nomatch e⟩
 | int i=>
  obtain⟨t,rfl⟩:=r;cases (ty);exact⟨dz s i t,λ_ e=>nomatch e⟩
 | ref p=>
  cases r;rcases ty with ⟨rfl,xs,hq⟩ | ⟨rfl,o,hk,hc,hd⟩ | ⟨rfl,hk⟩ | ⟨rfl,S,n,hk⟩
  ·obtain⟨its,_,pl,_⟩:=I.list hq;refine⟨pl.isList.typeIs,λa e=> ?_⟩;cases e;obtain⟨o,n,e,c,hd,_⟩:=pl;exact⟨o,e,hd⟩
  ·refine⟨⟨o,I.kIn p o hk,hc⟩,λa e=> ?_⟩;cases e;exact⟨o,I.kIn _ o hk,hd⟩
  ·have z:∃o,s.heap.get? p=some o/\o.ExactDict:=by
    rcases hk with ⟨kvs,hk⟩ | ⟨kvs,hk⟩
    ·obtain⟨_,_,_,_,o,_,_,e,ex,_⟩:=I.hok p _ hk;exact⟨o,e,ex⟩
    ·obtain⟨_,_,_,_,o,_,_,e,ex,_⟩:=I.hok p _ hk;exact⟨o,e,ex⟩
   obtain⟨o,e,ex⟩:=z;refine⟨⟨o,e,ex.1⟩,λa e2=> ?_⟩;cases e2;exact⟨o,e,ex.2.1⟩
  ·obtain⟨o,_,_,_,e,ex,_⟩:=I.hok p _ hk;refine⟨⟨o,e,ex.1⟩,λa e2=> ?_⟩;cases e2;exact⟨o,e,ex.2.1⟩
 | _=>exact bL ty
noncomputable def tBM (K:ae)(T:String)(r:V->List V->Hp->VK->Prop)(to:TE)(t:TA):TE:=λσ H Q=>to σ H λx H1=>tyV K T x H1/\t σ H1 λxs H2=>r x xs H2 Q
variable {o e:Expr}{es:List Expr}{to:TE}{t:TA}{name:Str}{apos cpos:Pos}{T id:String}{r:V->List V->Hp->VK->Prop}
theorem Q2 (pa:PlainAttrs T)(slot:Slot T name id)(hty:typeOf (.builtin id)=pure (.type "method_descriptor"))(hm:MtR X id r)(ho:PE X o to)(ha:PA X (e :: es) t)
  (hbase:attributeBase o name X.env (eval o X.env)=eval o X.env:=by rfl)
  (hfew:((backTo cpos (starEach (e :: es) X.env)).all (λx=> !x.1) && (backToKw cpos (keywordEach [] X.env)).all (λx=>x.1.isSome)
   && decide ((e :: es).length+([]:List Keyword).length+(if ([]:List Keyword).isEmpty then 0 else 1) < 30))=true:=by rfl)
  (hline:(apos.endLine == cpos.line)=true:=by rfl) (hs:starEach (e :: es) X.env=(false,eval e X.env) :: starEach es X.env:=by rfl) (hplain:(backTo cpos (starEach es X.env)).any (·.1)=false:=by rfl):
  PE X (.Call (.Attribute o name apos) (e :: es) [] cpos) (tBM X.K T r to t):=by
 intro pins s σ H Q I h;refine wpAny_Call_method_late hbase hfew hline rfl (thn (ho _ s σ H _ I h) λv s1 ⟨x,H1,I1,r1,ty,q1⟩=> ?_);obtain⟨h1,h2⟩:=XO I1 r1 ty;refine⟨T,id,pa,slot,hty,h1,h2, ?_⟩;have hA:=ha cpos _ s1 σ H1 _ I1 q1;rw[hs]at hA ⊢;refine Calls.callWith_builtin (by show (false || (backTo _ _).any _)=false;rw[hplain] <;> rfl) (Calls.evalArgs_plain ?_)
 exact thn hA λus s2 ⟨vs,H2,I2,r2,q2⟩=>hm _ s2 σ H2 x vs v us Q I2 r1 r2 q2
end
end L2
namespace L2
open PySem PySem.Spec PyProof.Rows
noncomputable def MtM (X:Cx)(id:String)(r:V->List V->Hp->VK->Prop):Prop:=
 ∀(pins:List (Addr×Obj)) (s:Shared) (σ:St) (H:Hp) (x:V) (xs:List V) (v:Value) (us:List Value) (Q:VK),Inv X pins σ H s->zU x v->zS xs us->r x xs H Q->
  wpAny (model X.prog X.w) X.A (call (.builtin id) (v :: us)) (EP X pins σ Q) X.xe s
theorem zS.one:∀{x:V} {us:List Value},zS [x] us->∃u,us=[u]/\zU x u
 | _,_,.cons r .nil=>⟨_,rfl,r⟩
theorem zS.rep {xs:List V}{us:List Value}(h:zS xs us):∀k:Nat,zS (ab k xs).flatten (ab k us).flatten
 | 0=> .nil
 | k+1=>by
  exact zS.append h (zS.rep h k)
theorem jy (its:List Value):∀(k:Nat) (acc:List Value),
  dL (λx1 x2=>x1++x2) acc.toArray (ab k its.toArray)=(acc++(ab k its).flatten).toArray
 | 0,acc=>by simp
 | k+1,acc=>by
  have e:acc.toArray++its.toArray=(acc++its).toArray:=by simp
  have e2:(acc++its)++(ab k its).flatten=acc++(ab (k+1) its).flatten:=by
   rw[aV,dX,bx]
  rw[← e2,← jy its k _,← e,aV,List.foldl_cons]
section
variable {X:Cx}{pins:List (Addr×Obj)}{σ:St}{H:Hp}{s:Shared}{l b:Addr}{xs ys zs:List V}
theorem Inv.lset {its its' :List Value}{n:Nat}{f:Array Value->Array Value}{t' :Nat}(I:Inv X pins σ H s)(hH:H l=some (.lst xs))
  (e:s.heap.get? l=some { cls:= .type "list",data:= .seq its.toArray n }) (hf:f its.toArray=its'.toArray) (hv:zS ys its') (hz:ys.length<=sizeLine):
  Inv X pins σ (upd H l (.lst ys)) { s with heap:=s.heap.update l (io f),toks:=t' }:=by
 have q:=PySem.IsL.update e f;rw[hf]at q;refine I.write (by rw[hH];exact trivial) (.inl rfl) (λb' u hb hu=>(bz _ _ (bv hb)).trans hu) ⟨_,q⟩ ?_
 exact⟨hz,its',_,hv,q⟩
theorem Inv.lnew {its:List Value}{t' :Nat}(I:Inv X pins σ H s)(hv:zS ys its)(hz:ys.length<=sizeLine):
  Inv X pins σ (upd H s.heap.objs.size (.lst ys)) { s with heap:=s.heap.push { cls:= .type "list",data:= .seq its.toArray },toks:=t' }:=
 I.laid (λ_ _ q=>af _ q) (ai _) ⟨hz,its,0,hv,ag _ rfl⟩
theorem Inv.fresh (I:Inv X pins σ H s):H s.heap.objs.size=none:=I.hok.fresh (ai _)
theorem Inv.lstM (I:Inv X pins σ H s)(hH:H l=some (.lst xs)):xs.length<=sizeLine/\∃(its:List Value) (n:Nat),zS xs its/\xs.length=its.length/\s.heap.get? l=some { cls:= .type "list",data:= .seq its.toArray n }:=by
 obtain⟨z,its,n,r,e⟩:=I.hok l _ hH;exact⟨z,its,n,r,r.length,e⟩
theorem uA {n:Nat}(h:n<=sizeLine):d0 n=false:=by
 exact decide_eq_false (by omega)
end
section
variable {X:Cx}
noncomputable def Vr:V->List V->Hp->VK->Prop:=λx vs H Q=>∃l xs y,x= .ref l/\vs=[y]/\H l=some (.lst xs)/\xs.length < sizeLine/\Q .non (upd H l (.lst (xs++[y])))
theorem Wv:MtM X "list.append" Vr:=by
 intro pins s σ H x vs v us Q I rx rv h;obtain⟨l,xs,y,rfl,rfl,hH,hz,q⟩:=h;cases rx;obtain⟨u,rfl,ru⟩:=rv.one;obtain⟨z,its,n,r,hl,e⟩:=I.lstM hH;refine cL F.slot_list_append ⟨_,e,rfl⟩ F.entry_list_append (F.args_list_append_2 _ _) (PySem.list_append l _ n u (by rw[av];omega)) ⟨e, ?_⟩
 refine⟨.non,_,I.lset hH e (by simp) (r.append (.cons ru .nil)) ?_,rfl,q⟩
 rw[aB,aJ];omega
noncomputable def Vs:V->List V->Hp->VK->Prop:=λx vs H Q=>∃l b xs zs,x= .ref l/\vs=[.ref b]/\H l=some (.lst xs)/\H b=some (.lst zs)/\xs.length+zs.length<=sizeLine/\Q .non (upd H l (.lst (xs++zs)))
theorem yj:MtM X "list.extend" Vs:=by
 intro pins s σ H x vs v us Q I rx rv h;obtain⟨l,b,xs,zs,rfl,rfl,hH,hB,hz,q⟩:=h;cases rx;obtain⟨u,rfl,ru⟩:=rv.one;cases ru;obtain⟨z,its,n,r,hl,e⟩:=I.lstM hH;obtain⟨z2,its2,n2,r2,hl2,e2⟩:=I.lstM hB;have hsz:its.toArray.size+its2.toArray.size<=sizeLine:=by rw[av,av];omega
 have hlong:¬ (!its.toArray.isEmpty && d0 (its.toArray.size+its2.toArray.size))=true:=by
  rw[uA hsz,fy];exact ax
 refine cL F.slot_list_extend ⟨_,e,rfl⟩ F.entry_list_extend (F.args_list_extend_2 _ _)
  (AutoSeq1.list_extend_list_list_0 l _ n b _ n2 hlong (by omega) (by omega)) ⟨e,e2, ?_⟩
 refine⟨.non,_,I.lset hH e (by simp) (r.append r2) ?_,rfl,q⟩
 rw[aB];omega
noncomputable def rCat:R2:=λx y H Q=>∃l b xs zs,x= .ref l/\y= .ref b/\H l=some (.lst xs)/\H b=some (.lst zs)/\xs.length+zs.length<=sizeLine/\∀p,H p=none->Q (.ref p) (upd H p (.lst (xs++zs)))
theorem XQ:OpR X (binaryOp .Add) rCat:=by
 intro pins s σ H x y v u Q I rx ry h;obtain⟨l,b,xs,zs,rfl,rfl,hH,hB,hz,q⟩:=h;cases rx;cases ry;obtain⟨z,its,n,r,hl,e⟩:=I.lstM hH;obtain⟨z2,its2,n2,r2,hl2,e2⟩:=I.lstM hB;refine PySem.P.add_list e e2 ?_ (by rw[av,av];omega)
 have ea:its.toArray++its2.toArray=(its++its2).toArray:=by simp
 rw[ea];exact⟨.ref _,_,I.lnew (r.append r2) (by rw[aB];omega),rfl,q _ I.fresh⟩
noncomputable def rRep:R2:=λx y H Q=>∃l k xs,x= .ref l/\y= .int k/\H l=some (.lst xs)/\ -(2 ^ 63)<=k/\k < 2 ^ 63/\xs.length*k.toNat<=sizeLine/\
 ∀p,H p=none->Q (.ref p) (upd H p (.lst (ab k.toNat xs).flatten))
theorem jR {α:Type}(xs:List α)(k:Nat):(ab k xs).flatten.length=k*xs.length:=by
 induction k with
 | zero=>simp
 | succ k ih=>rw[aV,dX,aB,ih,eY,df]
theorem XR:OpR X (binaryOp .Mult) rRep:=by
 intro pins s σ H x y v u Q I rx ry h;obtain⟨l,k,xs,rfl,rfl,hH,h1,h2,hz,q⟩:=h;cases rx;obtain⟨t,rfl⟩:=ry;obtain⟨z,its,n,r,hl,e⟩:=I.lstM hH;have hlen:its.toArray.size*k.toNat<=sizeLine:=by rw[av,← hl];exact hz
 have hcap:¬ its.toArray.size*k.toNat > (2 ^ 63 - 1) / 8:=by
  have:(sizeLine)<=(2 ^ 63 - 1) / 8:=by decide
  omega
 have hfit:¬ (!Builtin.List.listFitsIndex k)=true:=by
  rw[fitsIndex_both h1 h2];exact ax
 have hlong:¬ d0 (its.toArray.size*k.toNat)=true:=by
  rw[uA hlen];exact ax
 have hnew:dL (λx1 x2=>x1++x2) #[] (ab (if its.toArray.isEmpty=true then 0 else k.toNat) its.toArray)=(ab k.toNat its).flatten.toArray:=by
  have f0:∀m,dL (λx1 x2=>x1++x2) #[] _=(ab m its).flatten.toArray:=λm=>by
   have:=jy its m [];exact this
  rw[f0];cases its with
  | nil=>simp
  | cons a r' =>rw[if_neg (by simp)]
 refine wpAny_binaryOp_repeat_ref (by decide) ⟨_,e,rfl⟩ (λs' =>dz s' k t) noFill_list_mul ff cC repeat_list eM.lookup
  (cL cC (dz s k t) eN (dY _ _) (int___rmul___int_list k t l _ n)
   ⟨e,rfl,⟨_,e,rfl⟩,cL F.slot_list_mul ⟨_,e,rfl⟩ F.entry_list_mul (F.args_list_mul_2 _ _) (AutoListH.list___mul___list_int_3 l _ n k t hfit hcap hlong) ⟨e, ?_⟩⟩)
 rw[hnew];exact⟨.ref _,_,I.lnew (r.rep _) (by rw[jR,cy];exact hz),rfl,q _ I.fresh⟩
end
end L2
namespace Att
open PySem PySem.W PySem.Calls PyProof.Rows
theorem JB {P:Params}{h:Heap}:∀(ns:List Int) (vs:List Value),WellAll P h vs (ns.map WData.int)->IntsAre vs ns:=by
 intro ns
 induction ns with
 | nil=>
  intro vs w;cases w;exact .nil
 | cons n ns ih=>
  intro vs w;cases w with
  | cons a b=>
   cases a;exact .cons _ _ (ih _ b)
theorem yk {l:OpenLaw}{n:Nat}(hn:l.most=some n){P:Params}{h:Heap}{args:List WData}{vals:List Value}
  (hpre:l.row.toRowW.claim.pre args=true) (hwl:WellAll P h vals args):
  ∃a vs ns,vals=[Value.ref a]/\args=[WData.list (ns.map WData.int)]/\h.get? a=some { cls:= .type "list",data:= .seq vs.toArray }/\IntsAre vs ns/\ns.length<=n:=by
 have hsh:=(pre_splitW hpre).1;have hc:=(pre_splitW hpre).2;obtain⟨d,r,rfl,h1,h2⟩:=hasAllW_cons hsh;obtain rfl:=hasAllW_nil h2;obtain⟨xs,rfl,h3⟩:=hasW_list h1;obtain⟨ns,rfl⟩:=items_int h3;have hlen:ns.length<=n:=by
  have h4:=by
   have h4:=(holds_andW hc).1;rw[hn]at h4;exact h4
  have h5:=condW_of h4 (w_not (w_lt w_lit (w_len_list (w_arg rfl))));rw[xqz]at h5;refine Nat.le_of_not_lt λq=> ?_;have q' :(n) < ((ns.length):Int):=by omega
  first
   | (rw[decide_eq_true q']at h5;exact absurd h5 (by decide))
   | (simp at h5)
 cases hwl with
 | cons w1 w2=>
  cases w2;cases w1 with
  | list ho hall=>exact⟨_,_,ns,rfl,rfl,ho,JB ns _ hall,hlen⟩
theorem yl (l:OpenLaw)(args:List WData):l.row.toRowW.claim.post args (.bool true) args=true:=
 postW_of
  (show WShape.has [] _ _=true by first | rfl | decide | simp[WShape.has,WShape.arms,WShape.armsAll])
  (show (WTm.eq _ _).value [] _=some _ from w_eq_bool (w_res rfl) w_lit) rfl
theorem attach_call {l:OpenLaw}{n:Nat}{q:Program}{loose:List Str}{XP:(Str->Option Value)->Heap->Prop}{YP:World->Heap->Prop}{d:DefRec}
  (hn:l.most=some n) (hdf:d.params.defaults=[])
  (call:∀(w:World) (s₀ s₁:Shared) (mg mb:Str->Option Value) (fa:Addr) (o:Obj) (pm cd doc:Value) (a:Addr) (vs:List Value) (ns:List Int),
   Ground q loose [] XP w s₀ mg mb s₁.heap->YP w s₁.heap->
   s₁.heap.get? fa=some o->o.data= .func (docDef d.name d.params d.body d.scope pm cd doc)->s₁.heap.CodeRec cd d.name->mg d.name=some (.ref fa)->
   s₁.heap.get? a=some { cls:= .type "list",data:= .seq vs.toArray }->IntsAre vs ns->ns.length<=n->s₁.gens= #[]->
   codeAny (model l.prog w) callerA (.call (.ref fa) ⟨[.ref a],[]⟩) (λr s' =>r= .ok (.ret (.bool true))/\OldK s₁.heap s'.heap/\s'.os=s₁.os/\AllBare s'.gens) s₁):
  WalkO q loose XP YP l.row.toRowW d [] (λf vs=>ip f vs):=by
 intro w s₀ s₁ mg mb G Y fa o pm cd doc dV kV ho hd hcd hD hmg hg args vals as hpre hlay hrd hwl hlo;obtain rfl:dV= .none:=Dflts.none hD hdf;obtain rfl:kV= .none:=Dflts.noKw hD;obtain⟨a,vs,ns,rfl,rfl,hobj,hints,hlen⟩:=yk hn hpre hwl;refine enter_call (db (call w _ _ mg mb fa o pm cd doc a vs ns G Y ho (fd_plain hd) hcd hmg hobj hints hlen hg) λr s' hq=> ?_);obtain⟨rfl,h2,h3,h4⟩:=hq;exact⟨.inl ⟨.bool _,.bool _,[],rfl,λ_=>rfl,.bool _,yl l _,λ_=>⟨List.Pairwise.nil,λ_ hm=>(nomatch hm)⟩⟩,h2,h3,h4⟩
end Att
namespace L2
open PySem PySem.Spec PyProof.Rows
theorem jz:∀{vs:List Value} {ns:List Int},IntsAre vs ns->zS (ns.map V.int) vs
 | _,_,.nil=> .nil
 | _,_,.cons n t h=> .cons ⟨t,rfl⟩ (jz h)
end L2
namespace L2
open PySem PySem.Spec PyProof.Rows
end L2
namespace L2
open PySem PySem.Spec PyProof.Rows
noncomputable def ZW (s:Stmt):Arguments:=match s with
 | .FunctionDef _ a _ _ _ _ _ _ _ _=>a
 | _=>{ posonlyargs:=[],args:=[],vararg:=none,kwonlyargs:=[],kw_defaults:=[],kwarg:=none,defaults:=[] }
noncomputable def Z1 (s:Stmt):List Stmt:=match s with
 | .FunctionDef _ _ b _ _ _ _ _ _ _=>b
 | _=>[]
noncomputable def zk (s:Stmt):Scope:=match s with
 | .FunctionDef _ _ _ _ _ _ sc _ _ _=>sc
 | _=>{ kind:= .function,names:=[],isGenerator:=false,isCoroutine:=false }
noncomputable abbrev CX0:CXT:=λ_ _ _ _ _ _=>False
structure Fun (K:ae) (x qual:Str) (st:Stmt) (f:Addr) (fd:FuncData):Prop where
 ex:∃(oc:Value) (od:Option Addr) (kV doc pm:Value) (an:Option Addr) (cdv ct:Value) (osl:Array (Option Value)),
  fd=bO x qual (ZW st) (Z1 st) (zk st) .none kV doc pm an cdv ct/\K.lookup f=some ⟨oc,od,.func fd,osl⟩/\dI K cdv qual=true
 kp:cK K (.ref f)=true
section
variable {P:Program}{w:World}{K:ae}{mg:Str->Option Value}{base:Heap}
theorem Fun.ok {x qual:Str}{st:Stmt}{f:Addr}{fd:FuncData}{N ps:List Str}{k:Nat}{sp:Sp}(F:Fun K x qual st f fd)(S:jn N ps (zk st))(len:∀vs H Q E,sp vs H Q E->vs.length=ps.length)
  (hbody:∀(cdv:Value) (A:Around) (outer:List Env) (s:Shared) (H:Hp) (vs:List V) (Q:VK) (E:XK),jg k (A.deeper (envOfC qual (zk st) s.heap.objs.size f cdv))->sp vs H Q E->
   ∃t,PSs (u8 CX0 P w K mg base N qual (zk st) f cdv A outer s H E).nox (Z1 st) t/\t { nx:=λ_ H' =>Q .non H',rt:=Q } (start N vs) H):Wj P w K mg base CX0 (k+1) f fd ps sp:=by
 obtain⟨oc,od,kV,doc,pm,an,cdv,ct,osl,rfl,lk,hcd⟩:=F.ex;refine Vj lk hcd S len λA outer s H vs Q E hr hsp=> ?_;obtain⟨t,h,q⟩:=hbody cdv A _ s H vs Q E hr hsp;exact⟨t,h.nox,q⟩
theorem Fun.binds {x qual:Str}{st:Stmt}{f:Addr}{fd:FuncData}{ps:List Str}(F:Fun K x qual st f fd)
  (h:∀(kV doc pm:Value) (an:Option Addr) (cdv ct:Value) (us:List Value),us.length=ps.length->bindArgs (bO x qual (ZW st) (Z1 st) (zk st) .none kV doc pm an cdv ct) ⟨us,[]⟩=pure (ps.zip us)):Binds K fd ps []:=by
 obtain⟨oc,od,kV,doc,pm,an,cdv,ct,osl,rfl,lk,hcd⟩:=F.ex;exact .all (h kV doc pm an cdv ct)
theorem XS {x qual:Str}{st:Stmt}{f:Addr}{oc:Value}{od an:Option Addr}{osl:Array (Option Value)}{kV doc pm cdv ct:Value}(l:K.lookup f=some ⟨oc,od,.func (bO x qual (ZW st) (Z1 st) (zk st) .none kV doc pm an cdv ct),osl⟩)
  (c:dI K cdv qual=true) (k:cK K (.ref f)=true):Fun K x qual st f (bO x qual (ZW st) (Z1 st) (zk st) .none kV doc pm an cdv ct):=⟨⟨oc,od,kV,doc,pm,an,cdv,ct,osl,rfl,l,c⟩,k⟩
end
section
variable {X:Cx}
theorem pv (i:Nat){x:Str}{pos:Pos}(hN:X.N[i]? =some x:=by rfl)(hv:Vis X.env.scope x:=by first | exact Or.inl rfl | exact Or.inr (Or.inl rfl) | exact Or.inr (Or.inr rfl))(hd:(x == ("__debug__":Str))=false:=by decide)
  (hcd:(x == ("__classdict__":Str))=false:=by decide):PE X (.Name x pos) (V9 i):=Xj hN hv hd hcd
end
noncomputable def zm (H H' :Hp):Prop:=∀b o,H b=some o->H' b=some o
theorem zm.refl (H:Hp):zm H H:=λ_ _ h=>h
theorem zm.trans {H H1 H2:Hp}(a:zm H H1)(b:zm H1 H2):zm H H2:=λc o h=>b c o (a c o h)
theorem zm.free {H H' :Hp}(e:zm H H'){l:Addr}(h:H' l=Option.none):H l=Option.none:=by
 cases q:H l with
 | none=>rfl
 | some o=>
  rw[e l o q]at h;cases h
end L2
namespace L2
open PySem PySem.Spec PyProof.Rows PySem.W
theorem uB {env:Env}{outer:List Env}{L:Addr}(h:env.frame=some L):frs (env :: outer)=L :: frs outer:=by
 unfold frs;rw[cS,h]
structure gm (P:Program) (w:World) (outer:List Env) (H:Hp) (s s' :Shared) (ea:Addr) (cls a0:Value) (B:Heap) (H' :Hp):Prop where
 os:s'.os=s.os
 bare:AllBare s'.gens
 fly:Heap.FlyingW B outer ea cls a0 s'.heap
 hok:HOk P w H' B
 un:Un (frs outer) [] H H' s.heap s'.heap
 inB:∀b o,s.heap.get? b=some o->b ∉ frs outer->(H b=none->B.get? b=some o)/\∃o',B.get? b=some o'
noncomputable def CX1 (P:Program)(w:World):CXT:=λouter H s E e s' =>∃ea cls a0 B H',e= .ref ea/\gm P w outer H s s' ea cls a0 B H' /\E cls none H'
section
variable {X:Cx}{pins:List (Addr×Obj)}{σ:St}{H H' :Hp}{s s' :Shared}{ea:Addr}{cls a0:Value}{B:Heap}{h' h'' :Heap}
theorem Inv.frNf (I:Inv X pins σ H s):∀b∈frs X.stack,H b=none/\∃o,s.heap.get? b=some o/\∀vs,o.data ≠ .fields vs:=λb hb=>⟨I.stkFree b hb,(I.stack.mem hb).2⟩
theorem Inv.old (I:Inv X pins σ H s){b:Addr}{o:Obj}(hX:X.stack=X.env :: X.outer)(hf:X.env.frame=some X.env.locals)(e:X.s₀.heap.get? b=some o)(hb:b ∉ frs X.outer):b ∉ frs X.stack:=by
 rw[hX,uB hf];intro z;rcases ah.mp z with z | z
 ·exact absurd (aF (ao e) I.ok.above) (by rw[z];exact bi _)
 ·exact hb z
theorem ym {X:Cx}(hX:X.stack=X.env :: X.outer)(hf:X.env.frame=some X.env.locals){b:Addr}(hb:b∈frs X.outer):b∈frs X.stack:=by
 rw[hX,uB hf];exact a8 _ hb
theorem gm.out (I:Inv X pins σ H s)(hX:X.stack=X.env :: X.outer)(hf:X.env.frame=some X.env.locals)(hex:X.ex=[])(L:gm X.prog X.w X.stack H s s' ea cls a0 B H')
  (fl:Heap.FlyingW B X.outer ea cls a0 h') (sl:s'.heap.UpToSlots h'):gm X.prog X.w X.outer X.H₀ X.s₀ { s' with heap:=h' } ea cls a0 B H' where
 os:=L.os.trans I.os
 bare:=L.bare
 fly:=fl
 hok:=L.hok
 inB:=λb o e hb=>by
  have nx:b ∉ X.ex:=by rw[hex];simp
  obtain⟨o1,e1⟩:=I.base.there b o e nx;have hb' :=I.old hX hf e hb;exact⟨λn=>(L.inB b o (I.base.keep b o e n hb nx) hb').1 (I.base.free b o e n nx),(L.inB b o1 e1 hb').2⟩
 un:=by
  have nx:∀b,b ∉ X.ex:=λb=>by rw[hex];simp
  have slot:∀b o,X.s₀.heap.get? b=some o->X.H₀ b=none->b∈frs X.outer->∃sl,h'.get? b=some { o with slots:=sl }:=λb o e n hb=>by
   obtain⟨sl1,e1⟩:=I.base.slot b o e n hb (nx b);have n1:=I.base.free b o e n (nx b);obtain⟨sl2,e2⟩:=L.un.slot b _ e1 n1 (ym hX hf hb) (by simp)
   obtain⟨_,o3,e3,nf⟩:=I.frNf b (ym hX hf hb);rw[e1]at e3;cases e3;obtain⟨sl4,e4⟩:=sl b _ e2 nf;exact⟨sl4,e4⟩
  refine⟨λb o e n hb _=> ?_,λb o e n hb _=>slot b o e n hb,λb o e n _=> ?_,λb o e _=> ?_,λb xs e=>L.un.tups b xs (I.base.tups b xs e),λb o xs e=>L.un.frzs b o xs (I.base.frzs b o xs e),λb ps q e=>L.un.tbls b ps q (I.base.tbls b ps q e)⟩
  ·exact fl.1 b o ((L.inB b o (I.base.keep b o e n hb (nx b)) (I.old hX hf e hb)).1 (I.base.free b o e n (nx b)))
  ·obtain⟨o1,e1⟩:=I.base.there b o e (nx b);exact L.un.free b o1 e1 (I.base.free b o e n (nx b)) (by simp)
  ·by_cases hb:b∈frs X.outer
   ·obtain⟨sl1,e1⟩:=slot b o e (I.ok.frf b hb) hb;exact⟨_,e1⟩
   ·obtain⟨o1,e1⟩:=I.base.there b o e (nx b);obtain⟨o',e'⟩:=(L.inB b o1 e1 (I.old hX hf e hb)).2;exact⟨o',fl.1 b o' e'⟩
end
section
variable {P:Program}{w:World}{K:Frag}{mg:Str->Option Value}{base:Heap}{N:List Str}{qual:Str}{scope:Scope}{f:Addr}{cd:Value}{A:Around}{outer:List Env}{s:Shared}{H:Hp}{E:XK}
theorem XT:ji (CX1 P w) (u8 (CX1 P w) P w K mg base N qual scope f cd A outer s H E) E:=by
 intro pins σ H1 s1 e s' I ⟨ea,cls,a0,B,H',he,L,hE⟩;subst he;exact wpAny_leaves_onW I.ok.frames rfl L.fly λh' fl sl=>⟨ea,cls,a0,B,H',rfl,L.out I rfl rfl rfl fl sl,hE⟩
end
end L2
namespace L2
open PySem PySem.Spec PyProof.Rows PySem.W
noncomputable def ExAt (cls:Value)(a:Addr)(h:Heap):Prop:=∃o,h.get? a=some o/\o.cls=cls
end L2
namespace L2
open PySem PySem.Spec PyProof.Rows PySem.W
end L2
namespace PySem
open PySem.W
end PySem
namespace L2
open PySem PySem.Spec PyProof.Rows PySem.W
section
variable {X:Cx}{pins:List (Addr×Obj)}{σ:St}{H H' :Hp}{s s' :Shared}{ea C:Addr}{cls a0:Value}{B:Heap}{h' :Heap}
noncomputable def XU (X:Cx)(E:XK):Prop:=∀(pins:List (Addr×Obj)) (σ:St) (H:Hp) (s:Shared) (e:Value) (s' :Shared) (C:Addr) (m:Str->Option Value) (E' :Value->Shared->Prop) (cenv:Env),Inv X pins σ H s->s.heap.Ns C m->H C=none->X.s₀.heap.objs.size<=C->C ∉ frs X.stack->cenv.frame=X.env.frame->CX1 X.prog X.w X.stack H s E e s' ->
 wpAny (model X.prog X.w) X.A (noteFrame e cenv) (λ_ s'' =>∃m,s''.heap.Ns C m/\∀h',cu C s''.heap h' ->∀env:Env,env.locals=C->wpAny (model X.prog X.w) X.A (passOn "comprehension.variables-let-go" e env:Sem Value) (λ_ _=>False) X.xe { s'' with heap:=h' }) E' s'
theorem jS {E:XK}(h:E=λ_ _ _=>False):XU X E:=λpins σ H s e s' C m E' cenv I _ _ _ _ _ ⟨_,_,_,_,_,_,_,z⟩=>by subst h;exact z.elim
end
end L2
namespace L2
open PySem PySem.Spec PyProof.Rows
theorem PE.imp {X:Cx}{e:Expr}{t t' :TE}(h:PE X e t)(i:∀σ H Q,t' σ H Q->t σ H Q):PE X e t' :=λpins s σ H Q I q=>h _ s σ H Q I (i σ H Q q)
theorem PT.imp {X:Cx}{e:Expr}{t t' :TT}(h:PT X e t)(i:∀σ H Q,t' σ H Q->t σ H Q):PT X e t' :=λpins s σ H Q I q=>h _ s σ H Q I (i σ H Q q)
theorem PA.imp {X:Cx}{e:List Expr}{t t' :TA}(h:PA X e t)(i:∀σ H Q,t' σ H Q->t σ H Q):PA X e t' :=λpos pins s σ H Q I q=>h pos _ s σ H Q I (i σ H Q q)
theorem PS.imp {X:Cx}{e:Stmt}{t t' :TS}(h:PS X e t)(i:∀D σ H,t' D σ H->t D σ H):PS X e t' :=λpins s σ H D I q=>h _ s σ H D I (i D σ H q)
theorem PSs.imp {X:Cx}{e:List Stmt}{t t' :TS}(h:PSs X e t)(i:∀D σ H,t' D σ H->t D σ H):PSs X e t' :=λpins s σ H D I q=>h _ s σ H D I (i D σ H q)
end L2
namespace PV
open PySem
noncomputable def Ww:Expr->Bool
 | .Starred _ _=>false
 | _=>true
theorem Zc {e:Expr}{rest:List Expr}{env:Env}(h:Ww e=true):starEach (e :: rest) env=(false,eval e env) :: starEach rest env:=by
 cases e <;> first | rfl | cases h
theorem st2 {a b:Expr}{env:Env}(h:Ww a=true)(h' :Ww b=true):starEach [a,b] env=[(false,eval a env),(false,eval b env)]:=by
 rw[Zc h,Zc h'];rfl
theorem st1 {a:Expr}{env:Env}(h:Ww a=true):starEach [a] env=[(false,eval a env)]:=by
 rw[Zc h];rfl
theorem ja {pos:Pos}{env:Env}:∀{es:List Expr},es.all Ww=true->((backTo pos (starEach es env)).any λx=>x.fst)=false
 | [],_=>rfl
 | e :: es,h=>by
  rw[bq,ac]at h;rw[Zc h.1];have:=ja (pos:=pos) (env:=env) h.2;show (false || ((backTo pos _).any λx=>x.fst))=false
  rw[this];rfl
open PySem PySem.Spec PyProof.Rows L2
noncomputable abbrev Sg:=L2.St
inductive T where
 | non | bl (b:Bool) | int (i:Int) | str (x:Str) | tup (xs:List T) | lst (xs:List T) | fz (xs:List T)
inductive R (α:Type) where
 | ok (a:α) | ex (c:Nat) | bad
noncomputable def R.bind {α β:Type}(r:R α)(f:α->R β):R β:=match r with
 | .ok a=>f a
 | .ex c=> .ex c
 | .bad=> .bad
mutual
inductive Rep (H:Hp):V->T->Prop where
 | non:Rep H .non .non
 | bl (b:Bool):Rep H (.bl b) (.bl b)
 | int (i:Int):Rep H (.int i) (.int i)
 | str (x:Str):Rep H (.str x) (.str x)
 | tup {a:Addr} {xs:List V} {ts:List T}:H a=some (.tup xs)->zD H xs ts->Rep H (.ref a) (.tup ts)
 | lst {a:Addr} {xs:List V} {ts:List T}:H a=some (.lst xs)->zD H xs ts->Rep H (.ref a) (.lst ts)
 | fz {a:Addr} {o:Obj} {xs:List V} {ts:List T}:H a=some (.frz o (.lst xs))->zD H xs ts->Rep H (.ref a) (.fz ts)
inductive zD (H:Hp):List V->List T->Prop where
 | nil:zD H [] []
 | cons {v:V} {t:T} {vs:List V} {ts:List T}:Rep H v t->zD H vs ts->zD H (v :: vs) (t :: ts)
end
mutual
theorem Rep.mono {H H' :Hp}(s:zm H H'):∀{v:V} {t:T},Rep H v t->Rep H' v t
 | _,_,.non=> .non
 | _,_,.bl b=> .bl b
 | _,_,.int i=> .int i
 | _,_,.str x=> .str x
 | _,_,.tup h r=> .tup (s _ _ h) (zD.mono s r)
 | _,_,.lst h r=> .lst (s _ _ h) (zD.mono s r)
 | _,_,.fz h r=> .fz (s _ _ h) (zD.mono s r)
theorem zD.mono {H H' :Hp}(s:zm H H'):∀{v:List V} {t:List T},zD H v t->zD H' v t
 | _,_,.nil=> .nil
 | _,_,.cons h r=> .cons (Rep.mono s h) (zD.mono s r)
end
theorem zD.length {H:Hp}:∀{vs:List V} {ts:List T},zD H vs ts->vs.length=ts.length
 | _,_,.nil=>rfl
 | _,_,.cons _ r=>congrArg _ (zD.length r)
theorem zD.get {H:Hp}:∀{vs:List V} {ts:List T} {i:Nat} {t:T},zD H vs ts->ts[i]? =some t->∃v,vs[i]? =some v/\Rep H v t
 | _,_,_,_,.nil,e=>by simp at e
 | _,_,0,_,.cons r _,e=>by simp at e;subst e;exact⟨_,rfl,r⟩
 | _,_,i+1,t,.cons _ q,e=>by
  obtain⟨v,h1,h2⟩:=zD.get q (by simpa using e)
  exact⟨v,by simpa using h1,h2⟩
theorem zD.getV {H:Hp}:∀{vs:List V} {ts:List T} {i:Nat} {v:V},zD H vs ts->vs[i]? =some v->∃t,ts[i]? =some t/\Rep H v t
 | _,_,_,_,.nil,e=>by simp at e
 | _,_,0,_,.cons r _,e=>by simp at e;subst e;exact⟨_,rfl,r⟩
 | _,_,i+1,v,.cons _ q,e=>by
  obtain⟨t,h1,h2⟩:=zD.getV q (by simpa using e)
  exact⟨t,by simpa using h1,h2⟩
theorem zD.append {H:Hp}:∀{vs ws:List V} {ts us:List T},zD H vs ts->zD H ws us->zD H (vs++ws) (ts++us)
 | _,_,_,_,.nil,q=>q
 | _,_,_,_,.cons r t,q=> .cons r (zD.append t q)
theorem zD.take {H:Hp}:∀{vs:List V} {ts:List T} (n:Nat),zD H vs ts->zD H (vs.take n) (ts.take n)
 | _,_,0,_=> .nil
 | _,_,_+1,.nil=> .nil
 | _,_,n+1,.cons r t=> .cons r (zD.take n t)
theorem zD.drop {H:Hp}:∀{vs:List V} {ts:List T} (n:Nat),zD H vs ts->zD H (vs.drop n) (ts.drop n)
 | _,_,0,r=>r
 | _,_,_+1,.nil=> .nil
 | _,_,n+1,.cons _ t=>zD.drop n t
theorem zD.rep {H:Hp}{vs:List V}{ts:List T}(h:zD H vs ts):∀n:Nat,zD H (ab n vs).flatten (ab n ts).flatten
 | 0=> .nil
 | n+1=>by
  exact h.append (zD.rep h n)
theorem zD.nil_iff {H:Hp}{vs:List V}{ts:List T}(h:zD H vs ts):vs=[]↔ts=[]:=by
 cases h <;> simp
noncomputable def zO (B H H' :Hp):Hp:=λb=>match H b with
 | none=>H' b
 | some _=>B b
theorem Z6 {B H H' :Hp}{b:Addr}(h:H b=none):zO B H H' b=H' b:=by unfold zO;rw[h]
theorem Z7 {B H H' :Hp}{b:Addr}{o:HO}(h:H b=some o):zO B H H' b=B b:=by unfold zO;rw[h]
theorem zO.ge {B H H' :Hp}(s:zm B H)(s' :zm H H'):zm B (zO B H H'):=λb o h=>by
 rw[Z7 (s b o h)];exact h
theorem zO.le {B H H' :Hp}(s:zm B H)(s' :zm H H'):zm (zO B H H') H' :=λb o h=>by
 cases q:H b with
 | none=>rw[Z6 q]at h;exact h
 | some u=>rw[Z7 q]at h;exact s' b o (s b o h)
theorem zO.self (B H:Hp)(s:zm B H):zO B H H=B:=by
 funext b
 cases q:H b with
 | none=>
  rw[Z6 q,q];cases z:B b with
  | none=>rfl
  | some o=>rw[s b o z]at q;cases q
 | some u=>rw[Z7 q]
theorem zO.trans {B H H1 H2:Hp}(s1:zm H H1)(s2:zm H1 H2):zO (zO B H H1) H1 H2=zO B H H2:=by
 funext b
 cases q:H b with
 | none=>
  rw[Z6 q];cases z:H1 b with
  | none=>rw[Z6 z]
  | some o=>rw[Z7 z,Z6 q,z,s2 b o z]
 | some u=>rw[Z7 q,Z7 (s1 b u q),Z7 q]
inductive Fd where
 | tv (t:T) | tl (ts:List T)
noncomputable abbrev Ob:=Nat×List (Str×Fd)
noncomputable def atts:List Str:=["kind","remaining","done","undone","first","last","answered"]
noncomputable def InC (vs:List (Str×V)):Prop:=∀f,f ∉ atts->vs.lookup f=none
inductive Sl where
 | un | vl (t:T) | ow (ts:List T) | xc (c:Nat) | ob (k n:Nat) | oc (k:Nat) (fs:List (Str×Fd)) | st (os:List Ob)
noncomputable def Sl.isS:Sl->Bool
 | .ob _ _=>true
 | .st _=>true
 | _=>false
noncomputable def Sl.isO:Sl->Bool
 | .ob _ _=>true
 | .oc _ _=>true
 | .st _=>true
 | _=>false
noncomputable abbrev En:=List Sl
structure Fx where
 B0:Hp
 H0:Hp
 E:XK
 cl:Nat->Value
 as:List Addr
noncomputable def gp (ρ:En)(σ:Sg)(l:Addr):Prop:=∀(j:Nat) (us:List T),ρ[j]? =some (Sl.ow us)->σ[j]? ≠ some (some (V.ref l))
noncomputable def FdR (Y:Fx)(B:Hp)(ρ:En)(σ:Sg)(H:Hp)(o:Addr->Prop)(v:V):Fd->Prop
 | .tv t=>Rep B v t
 | .tl ts=>∃l xs,v= .ref l/\B l=none/\Y.H0 l=none/\H l=some (.lst xs)/\zD B xs ts/\gp ρ σ l/\o l
noncomputable def FsO (B H:Hp)(vs:List (Str×V))(fs:List (Str×Fd)):Prop:=∀(m:Nat) (f:Str) (d:Fd),fs[m]? =some (f,d)->∃v,vs[m]? =some (f,v)/\match d with
 | .tv t=>Rep B v t
 | .tl ts=>∃l xs,v= .ref l/\H l=some (.lst xs)/\zD B xs ts
theorem FsO.mono {B B' H H' :Hp}{vs:List (Str×V)}{fs:List (Str×Fd)}(h:FsO B H vs fs)(s:zm B B')(s' :zm H H'):FsO B' H' vs fs:=λm f d e=>by
 obtain⟨v,e1,r⟩:=h m f d e;refine⟨v,e1, ?_⟩;cases d with
 | tv t=>exact Rep.mono s r
 | tl ts=>obtain⟨l,xs,a,b,c⟩:=r;exact⟨l,xs,a,s' _ _ b,c.mono s⟩
structure StI (Y:Fx) (B:Hp) (ρ:En) (σ:Sg) (H:Hp) (as:List Addr) (O:Addr->Option (Nat×Nat)):Prop where
 pre:Y.as <+:as
 len:∀(i:Nat) (os:List Ob),ρ[i]? =some (Sl.st os)->as.length=os.length
 one:∀(i j:Nat) (os os' :List Ob),ρ[i]? =some (Sl.st os)->ρ[j]? =some (Sl.st os')->i=j
 ob:∀(i k n:Nat),ρ[i]? =some (Sl.ob k n)->∃a C dx vs,as[n]? =some a/\σ[i]? =some (some (V.ref a))/\Y.cl k= .ref C/\H a=some (.ins C dx vs)/\B a=none/\Y.H0 a=none/\InC vs
 oc:∀(i k:Nat) (fs:List (Str×Fd)),ρ[i]? =some (Sl.oc k fs)->∃a C dx vs,σ[i]? =some (some (V.ref a))/\Y.cl k= .ref C/\Y.H0 a=some (.ins C dx vs)/\InC vs/\FsO B Y.H0 vs fs
 st:∀(i:Nat) (os:List Ob),ρ[i]? =some (Sl.st os)->∀(n k:Nat) (fs:List (Str×Fd)),os[n]? =some (k,fs)->∃a C dx vs,as[n]? =some a/\Y.cl k= .ref C/\H a=some (.ins C dx vs)/\B a=none/\Y.H0 a=none/\O a=some (n,0)/\(vs.length=fs.length/\InC vs)/\
  ∀(m:Nat) (f:Str) (d:Fd),fs[m]? =some (f,d)->∃v,vs[m]? =some (f,v)/\FdR Y B ρ σ H (λl=>O l=some (n,m+1)) v d
structure SI (Y:Fx) (B:Hp) (ρ:En) (σ:Sg) (H:Hp):Prop where
 s0:zm Y.B0 Y.H0
 sH:zm Y.H0 H
 sB:zm B H
 old:∀b o,Y.H0 b=some o->B b=Y.B0 b
 len:ρ.length=σ.length
 vl:∀(i:Nat) (t:T),ρ[i]? =some (Sl.vl t)->∃v:V,σ[i]? =some (some v)/\Rep B v t
 ow:∀(i:Nat) (ts:List T),ρ[i]? =some (Sl.ow ts)->∃(a:Addr) (xs:List V),σ[i]? =some (some (V.ref a))/\B a=none/\Y.H0 a=none/\H a=some (.lst xs)/\zD B xs ts/\
  ∀(j:Nat) (us:List T),j ≠ i->ρ[j]? =some (Sl.ow us)->σ[j]? ≠ some (some (V.ref a))
 xc:∀(i:Nat) (c:Nat),ρ[i]? =some (Sl.xc c)->∃a:Addr,σ[i]? =some (some (V.ref a))/\B a=some (.ext (ExAt (Y.cl c) a))
 st:∃as O,StI Y B ρ σ H as O
theorem StI.on {Y Y' :Fx}{B B' :Hp}{ρ ρ' :En}{σ σ' :Sg}{H H' :Hp}{as:List Addr}{O:Addr->Option (Nat×Nat)}(x:StI Y B ρ σ H as O)(hO:∀(i:Nat) (s:Sl),s.isO=true->ρ'[i]? =some s->ρ[i]? =some s/\σ'[i]? =σ[i]?)(hB:zm B B')(hc:Y'.cl=Y.cl)(hA:Y'.as=Y.as)(h0:zm Y.H0 Y'.H0)
  (hH:∀b o,H b=some o->B b=none->Y.H0 b=none->((∃C dx vs,o= .ins C dx vs)\/gp ρ σ b)->H' b=some o/\B' b=none/\Y'.H0 b=none/\(gp ρ σ b->gp ρ' σ' b)):StI Y' B' ρ' σ' H' as O where
 pre:=by rw[hA];exact x.pre
 len:=λi os h=>x.len i os (hO i _ rfl h).1
 one:=λi j os os' h1 h2=>x.one i j os os' (hO i _ rfl h1).1 (hO j _ rfl h2).1
 ob:=λi k n h=>by
  obtain⟨h1,h2⟩:=hO i _ rfl h;obtain⟨a,C,dx,vs,e1,e2,e3,e4,e5,e6⟩:=x.ob i k n h1;obtain⟨g1,g2,g3,_⟩:=hH a _ e4 e5 e6.1 (.inl ⟨_,_,_,rfl⟩);rw[h2,hc];exact⟨a,C,dx,vs,e1,e2,e3,g1,g2,g3,e6.2⟩
 oc:=λi k fs h=>by
  obtain⟨h1,h2⟩:=hO i _ rfl h;obtain⟨a,C,dx,vs,e1,e2,e3,e4,e5⟩:=x.oc i k fs h1;rw[h2,hc];exact⟨a,C,dx,vs,e1,e2,h0 _ _ e3,e4,e5.mono hB h0⟩
 st:=λi os h n k fs e=>by
  obtain⟨a,C,dx,vs,e1,e2,e3,e4,e5,e6,e7,e8⟩:=x.st i os (hO i _ rfl h).1 n k fs e;obtain⟨g1,g2,g3,_⟩:=hH a _ e3 e4 e5 (.inl ⟨_,_,_,rfl⟩);refine⟨a,C,dx,vs,e1,by rw[hc];exact e2,g1,g2,g3,e6,e7,λm f d z=> ?_⟩
  obtain⟨v,z1,z2⟩:=e8 m f d z;refine⟨v,z1, ?_⟩;cases d with
  | tv t=>exact Rep.mono hB z2
  | tl ts=>
   obtain⟨l,xs,p1,p2,p3,p4,p5,p6,p7⟩:=z2;obtain⟨g1,g2,g3,g4⟩:=hH l _ p4 p2 p3 (.inr p6);exact⟨l,xs,p1,g2,g3,g1,p5.mono hB,g4 p6,p7⟩
theorem StI.no {Y:Fx}{B:Hp}{ρ:En}{σ:Sg}{H:Hp}(h:∀(i:Nat) (s:Sl),s.isO=true->ρ[i]? ≠ some s):∃as O,StI Y B ρ σ H as O:=⟨Y.as,λ_=>none,eO _,λi os e=>(h i _ rfl e).elim,λi j os os' e=>(h i _ rfl e).elim,λi k n e=>(h i _ rfl e).elim,λi k fs e=>(h i _ rfl e).elim,λi os e=>(h i _ rfl e).elim⟩
theorem SI.grow {Y:Fx}{B:Hp}{ρ:En}{σ:Sg}{H H' :Hp}(I:SI Y B ρ σ H)(s:zm H H'):SI Y (zO B H H') ρ σ H' where
 s0:=I.s0
 sH:=I.sH.trans s
 sB:=zO.le I.sB s
 old:=λb o h=>by rw[Z7 (I.sH b o h)];exact I.old b o h
 len:=I.len
 vl:=λi t h=>let ⟨v,e,r⟩:=I.vl i t h;⟨v,e,r.mono (zO.ge I.sB s)⟩
 ow:=λi ts h=>let ⟨a,xs,e,b,h0,hh,r,d⟩:=I.ow i ts h;⟨a,xs,e,by rw[Z7 hh];exact b,h0,s _ _ hh,r.mono (zO.ge I.sB s),d⟩
 xc:=λi c h=>let ⟨a,e,r⟩:=I.xc i c h;⟨a,e,zO.ge I.sB s a _ r⟩
 st:=let ⟨as,O,x⟩:=I.st;⟨as,O,x.on (λ_ _ _ h=>⟨h,rfl⟩) (zO.ge I.sB s) rfl rfl (zm.refl _) λb o h hb h0 _=>⟨s _ _ h,by rw[Z7 h];exact hb,h0,id⟩⟩
noncomputable def XP (Y:Fx)(B:Hp)(c:Nat):Prop:=∀(d:Option Addr) (H' :Hp),zm Y.H0 H' ->zm B H' ->Y.E (Y.cl c) d H'
noncomputable def Po {α β:Type}(Y:Fx)(rel:Hp->Hp->β->α->Prop)(B H:Hp)(r:R α)(Q:β->Hp->Prop):Prop:=match r with
 | .ok a=>∀b H',zm H H' ->rel (zO B H H') H' b a->Q b H'
 | .ex c=>XP Y B c
 | .bad=>False
noncomputable abbrev rC:Hp->Hp->V->T->Prop:=λB _ v t=>Rep B v t
noncomputable abbrev rB:Hp->Hp->V->T->Prop:=λ_ H v t=>Rep H v t
noncomputable abbrev rCs:Hp->Hp->List V->List T->Prop:=λB _ v t=>zD B v t
noncomputable abbrev rE {α:Type}:Hp->Hp->α->α->Prop:=λ_ _ a b=>a=b
noncomputable def tS {α β:Type}(Y:Fx)(rel:Hp->Hp->β->α->Prop)(f:En->R α)(ρ:En):Sg->Hp->(β->Hp->Prop)->Prop:=λσ H Q=>∃B,SI Y B ρ σ H/\Po Y rel B H (f ρ) Q
structure Snd (X:Cx) (Y:Fx) (e:Expr) (f:En->R T):Prop where
 mk ::
 go:∀ρ,PE X e (tS Y rC f ρ)
noncomputable instance {X:Cx}{Y:Fx}{e:Expr}{f:En->R T}:CoeFun (Snd X Y e f) λ_=>∀ρ,PE X e (tS Y rC f ρ):=⟨Snd.go⟩
structure jb (X:Cx) (Y:Fx) (e:Expr) (f:En->R T):Prop where
 mk ::
 go:∀ρ,PE X e (tS Y rB f ρ)
noncomputable instance {X:Cx}{Y:Fx}{e:Expr}{f:En->R T}:CoeFun (jb X Y e f) λ_=>∀ρ,PE X e (tS Y rB f ρ):=⟨jb.go⟩
structure Wx (X:Cx) (Y:Fx) (e:Expr) (f:En->R Bool):Prop where
 mk ::
 go:∀ρ,PT X e (tS Y rE f ρ)
noncomputable instance {X:Cx}{Y:Fx}{e:Expr}{f:En->R Bool}:CoeFun (Wx X Y e f) λ_=>∀ρ,PT X e (tS Y rE f ρ):=⟨Wx.go⟩
structure uC (X:Cx) (Y:Fx) (es:List Expr) (f:En->R (List T)):Prop where
 mk ::
 go:∀ρ,PA X es (tS Y rCs f ρ)
noncomputable instance {X:Cx}{Y:Fx}{es:List Expr}{f:En->R (List T)}:CoeFun (uC X Y es f) λ_=>∀ρ,PA X es (tS Y rCs f ρ):=⟨uC.go⟩
theorem step {α α' β β' :Type}{Y:Fx}{rel:Hp->Hp->β->α->Prop}{rel' :Hp->Hp->β' ->α' ->Prop}{f:En->R α}{k:α->R α'}{ρ:En}{B:Hp}{σ:Sg}{H:Hp}{Q:β' ->Hp->Prop}{K:β->Hp->Prop}
  (I:SI Y B ρ σ H) (h:Po Y rel' B H ((f ρ).bind k) Q)
  (n:∀a b H1,f ρ= .ok a->zm H H1->rel (zO B H H1) H1 b a->SI Y (zO B H H1) ρ σ H1->Po Y rel' (zO B H H1) H1 (k a) Q->K b H1):tS Y rel f ρ σ H K:=by
 refine⟨B,I, ?_⟩;cases e:f ρ with
 | bad=>rw[e]at h;exact h
 | ex c=>rw[e]at h;exact h
 | ok a=>
  rw[e]at h;intro b H1 s r;refine n a b H1 e s r (I.grow s) ?_;have h' :Po Y _ B H (k a) Q:=h;revert h';cases k a with
  | bad=>exact λh' =>h'
  | ex c=>exact λh' d H' s0 sB' =>h' d H' s0 ((zO.ge I.sB s).trans sB')
  | ok a' =>exact λh' b' H2 s2 r2=>h' b' H2 (s.trans s2) (by rw[← zO.trans s s2];exact r2)
theorem ZB {α β:Type}{Y:Fx}{rel:Hp->Hp->β->α->Prop}{ρ:En}{B:Hp}{σ:Sg}{H:Hp}{a:α}{b:β}{Q:β->Hp->Prop}(I:SI Y B ρ σ H)(h:Po Y rel B H (.ok a) Q)(r:rel B H b a):Q b H:=h b H (zm.refl H) (by rw[zO.self B H I.sB];exact r)
theorem Snd.b {X:Cx}{Y:Fx}{e:Expr}{f:En->R T}(h:Snd X Y e f):jb X Y e f:= .mk λρ=>PE.imp (h ρ) λσ H Q ⟨B,I,q⟩=>⟨B,I,by
 revert q;cases f ρ with
 | bad=>exact λq=>q
 | ex c=>exact λq=>q
 | ok a=>exact λq b H' s r=>q b H' s (r.mono (zO.le I.sB s))⟩
section
variable {X:Cx}{Y:Fx}{a b c:Expr}{fa fb fc:En->R T}{pos:Pos}
noncomputable def vE (i:Nat):En->R T:=λρ=>match ρ[i]? with
 | some (.vl t)=> .ok t
 | _=> .bad
noncomputable def vB (i:Nat):En->R T:=λρ=>match ρ[i]? with
 | some (.vl t)=> .ok t
 | some (.ow ts)=> .ok (.lst ts)
 | _=> .bad
noncomputable def cE (t:T):En->R T:=λ_=> .ok t
theorem Gw (i:Nat){x:Str}(h:PE X (.Name x pos) (V9 i)):Snd X Y (.Name x pos) (vE i):= .mk λρ=>PE.imp h λσ H Q ⟨B,I,q⟩=>by
 unfold vE at q;split at q
 ·rename_i t e;obtain⟨v,e1,r⟩:=I.vl i t e;exact⟨v,e1,ZB I q r⟩
 ·exact q.elim
theorem XV (i:Nat){x:Str}(h:PE X (.Name x pos) (V9 i)):jb X Y (.Name x pos) (vB i):= .mk λρ=>PE.imp h λσ H Q ⟨B,I,q⟩=>by
 unfold vB at q;split at q
 ·rename_i t e;obtain⟨v,e1,r⟩:=I.vl i t e;exact⟨v,e1,ZB I q (r.mono I.sB)⟩
 ·rename_i ts e;obtain⟨a,xs,e1,_,_,hh,r,_⟩:=I.ow i ts e;exact⟨.ref a,e1,ZB I q (.lst hh (r.mono I.sB))⟩
 ·exact q.elim
theorem Gx {i j}:Snd X Y (.Constant (.int i) j pos) (cE (.int i)):= .mk λρ=>PE.imp Xk λσ H Q ⟨B,I,q⟩=>ZB I q (.int i)
theorem s_bl {i j}:Snd X Y (.Constant (.bool i) j pos) (cE (.bl i)):= .mk λρ=>PE.imp G6 λσ H Q ⟨B,I,q⟩=>ZB I q (.bl i)
theorem Gy {j}:Snd X Y (.Constant .none j pos) (cE .non):= .mk λρ=>PE.imp Xl λσ H Q ⟨B,I,q⟩=>ZB I q .non
theorem Gz {i j}:Snd X Y (.Constant (.str i) j pos) (cE (.str i)):= .mk λρ=>PE.imp vh λσ H Q ⟨B,I,q⟩=>ZB I q (.str i)
noncomputable def zd:En->R (List T):=λ_=> .ok []
noncomputable def z9 (f:En->R T)(g:En->R (List T)):En->R (List T):=λρ=>(f ρ).bind λt=>(g ρ).bind λts=> .ok (t :: ts)
theorem GA:uC X Y [] zd:= .mk λρ=>PA.imp zX λσ H Q ⟨B,I,q⟩=>ZB I q .nil
theorem XW {es:List Expr}{g:En->R (List T)}(h:Snd X Y a fa)(hs:uC X Y es g)(hq:starEach (a :: es) X.env=(false,eval a X.env) :: starEach es X.env:=by exact Zc rfl):uC X Y (a :: es) (z9 fa g):= .mk λρ=>
 PA.imp (zy (h ρ) (hs ρ) hq) λσ H Q ⟨B,I,q⟩=>step I q λt v H1 _ s1 r1 I1 q1=>step I1 q1 λts vs H2 _ s2 r2 I2 q2=>ZB I2 q2 (.cons (r1.mono (zO.ge I1.sB s2)) r2)
theorem zm.new {H:Hp}{p:Addr}(h:H p=none)(o:HO):zm H (upd H p o):=λb u q=>by rw[zn (zA q h)];exact q
theorem ZX {B H:Hp}{p:Addr}(h:H p=none)(o:HO):zO B H (upd H p o) p=some o:=by rw[Z6 h,zE]
noncomputable def bnd:Nat:=16777216
theorem ZC {n:Nat}(h:n<=bnd):n<=sizeLine:=by exact h
noncomputable def zW (g:En->R (List T)):En->R T:=λρ=>(g ρ).bind λts=>if ts.length<=bnd then .ok (.tup ts) else .bad
noncomputable def Zt (g:En->R (List T)):En->R T:=λρ=>(g ρ).bind λts=>if ts.length<=bnd then .ok (.lst ts) else .bad
theorem Vt {ρ:En}{σ:Sg}{B H:Hp}{xs:List V}{ts:List T}(I:SI Y B ρ σ H)(r:zD B xs ts){p:Addr}(h:H p=none):Rep (zO B H (upd H p (.tup xs))) (.ref p) (.tup ts):=
 .tup (ZX h _) (r.mono (zO.ge I.sB (zm.new h _)))
theorem Vu {ρ:En}{σ:Sg}{B H:Hp}{xs:List V}{ts:List T}(I:SI Y B ρ σ H)(r:zD B xs ts){p:Addr}(h:H p=none):Rep (zO B H (upd H p (.lst xs))) (.ref p) (.lst ts):=
 .lst (ZX h _) (r.mono (zO.ge I.sB (zm.new h _)))
theorem GB {es:List Expr}{g:En->R (List T)}{x1}(h:uC X Y es g):Snd X Y (.Tuple es x1 pos) (zW g):= .mk λρ=>PE.imp (XG (h ρ)) λσ H Q ⟨B,I,q⟩=>
 step I q λts vs H1 _ s1 r1 I1 q1=>by
  split at q1
  ·rename_i hb;refine⟨by rw[r1.length];exact ZC hb,λp hp=>q1 _ _ (zm.new hp _) (Vt I1 r1 hp)⟩
  ·exact q1.elim
theorem GC {es:List Expr}{g:En->R (List T)}(h:uC X Y es g):Snd X Y (.List es pos) (Zt g):= .mk λρ=>PE.imp (vm (h ρ)) λσ H Q ⟨B,I,q⟩=>
 step I q λts vs H1 _ s1 r1 I1 q1=>by
  split at q1
  ·rename_i hb;refine⟨by rw[r1.length];exact ZC hb,λp hp=>q1 _ _ (zm.new hp _) (Vu I1 r1 hp)⟩
  ·exact q1.elim
end
end PV
namespace PV
open PySem PySem.Spec PyProof.Rows L2
noncomputable def eqL (f:T->T->Option Bool):List T->List T->Option Bool
 | [],[]=>some true
 | [],_ :: _=>some false
 | _ :: _,[]=>some false
 | x :: xs,y :: ys=>match f x y with
  | none=>none
  | some b=>match eqL f xs ys with
   | none=>none
   | some c=>some (b && c)
noncomputable def b2 (b:Bool):Int:=if b then 1 else 0
noncomputable def eqF:Nat->T->T->Option Bool
 | _,.non,.non=>some true
 | _,.bl a,.bl b=>some (a == b)
 | _,.bl a,.int j=>some (b2 a == j)
 | _,.int i,.bl b=>some (i == b2 b)
 | _,.int i,.int j=>some (i == j)
 | _,.str x,.str y=>some (x == y)
 | n+1,.tup xs,.tup ys=>eqL (eqF n) xs ys
 | n+1,.lst xs,.lst ys=>eqL (eqF n) xs ys
 | n+1,.fz xs,.lst ys=>eqL (eqF n) xs ys
 | n+1,.lst xs,.fz ys=>eqL (eqF n) xs ys
 | n+1,.fz xs,.fz ys=>eqL (eqF n) xs ys
 | 0,.tup _,.tup _=>none
 | 0,.lst _,.lst _=>none
 | 0,.fz _,.lst _=>none
 | 0,.lst _,.fz _=>none
 | 0,.fz _,.fz _=>none
 | _,.non,_=>some false
 | _,.bl _,_=>some false
 | _,.int _,_=>some false
 | _,.str _,_=>some false
 | _,.tup _,_=>some false
 | _,.lst _,_=>some false
 | _,.fz _,_=>some false
mutual
theorem Rep.fn {H:Hp}:∀{v:V} {t t' :T},Rep H v t->Rep H v t' ->t=t'
 | _,_,_,.non,.non=>rfl
 | _,_,_,.bl _,.bl _=>rfl
 | _,_,_,.int _,.int _=>rfl
 | _,_,_,.str _,.str _=>rfl
 | _,_,_,.tup h r,.tup h' r' =>by
  rw[h]at h';cases h';rw[zD.fn r r']
 | _,_,_,.tup h r,.lst h' r' =>by rw[h]at h';cases h'
 | _,_,_,.tup h r,.fz h' r' =>by rw[h]at h';cases h'
 | _,_,_,.lst h r,.tup h' r' =>by rw[h]at h';cases h'
 | _,_,_,.lst h r,.lst h' r' =>by
  rw[h]at h';cases h';rw[zD.fn r r']
 | _,_,_,.lst h r,.fz h' r' =>by rw[h]at h';cases h'
 | _,_,_,.fz h r,.tup h' r' =>by rw[h]at h';cases h'
 | _,_,_,.fz h r,.lst h' r' =>by rw[h]at h';cases h'
 | _,_,_,.fz h r,.fz h' r' =>by
  rw[h]at h';cases h';rw[zD.fn r r']
theorem zD.fn {H:Hp}:∀{v:List V} {t t' :List T},zD H v t->zD H v t' ->t=t'
 | _,_,_,.nil,.nil=>rfl
 | _,_,_,.cons h r,.cons h' r' =>by rw[Rep.fn h h',zD.fn r r']
end
theorem Zn {f:T->T->Option Bool}(hf:∀x b,f x x=some b->b=true):∀(xs:List T) (b:Bool),eqL f xs xs=some b->b=true
 | [],b,h=>by
  have h' :=h;cases h';rfl
 | x :: xs,b,h=>by
  unfold eqL at h;cases e:f x x with
  | none=>rw[e]at h;cases h
  | some c=>
   rw[e]at h;cases e' :eqL f xs xs with
   | none=>rw[e']at h;cases h
   | some d=>
    rw[e']at h;cases h;rw[hf x c e,Zn hf xs d e'];rfl
theorem Zd:∀(n:Nat) (t:T) (b:Bool),eqF n t t=some b->b=true
 | n,.non,b,h=>by unfold eqF at h;cases h;rfl
 | n,.bl x,b,h=>by unfold eqF at h;cases h;simp
 | n,.int x,b,h=>by unfold eqF at h;cases h;simp
 | n,.str x,b,h=>by unfold eqF at h;cases h;simp
 | 0,.tup x,b,h=>by cases h
 | 0,.lst x,b,h=>by cases h
 | 0,.fz x,b,h=>by cases h
 | n+1,.tup x,b,h=>by exact Zn (Zd n) x b h
 | n+1,.lst x,b,h=>by exact Zn (Zd n) x b h
 | n+1,.fz x,b,h=>by exact Zn (Zd n) x b h
theorem yn {f:T->T->Option Bool}:∀{xs ys:List T} {b:Bool},eqL f xs ys=some b->
  ∃e:Nat->Bool,(∀j x y,xs[j]? =some x->ys[j]? =some y->f x y=some (e j))/\((aQ (min xs.length ys.length)).all e && xs.length == ys.length)=b
 | [],[],b,h=>by
  have h' :=h;cases h';exact⟨λ_=>true,λj x y h=>by simp at h,by simp⟩
 | [],y :: ys,b,h=>by
  have h' :=h;cases h';exact⟨λ_=>true,λj x y h=>by simp at h,by simp⟩
 | x :: xs,[],b,h=>by
  have h' :=h;cases h';exact⟨λ_=>true,λj x y h h' =>by simp at h',by simp⟩
 | x :: xs,y :: ys,b,h=>by
  unfold eqL at h;cases e:f x y with
  | none=>rw[e]at h;cases h
  | some c=>
   rw[e]at h;cases e' :eqL f xs ys with
   | none=>rw[e']at h;cases h
   | some d=>
    rw[e']at h;cases h;obtain⟨g,h1,h2⟩:=yn e';refine⟨λj=>match j with | 0=>c | j+1=>g j,λj u v hu hv=> ?_, ?_⟩
    ·cases j with
     | zero=>simp at hu hv;subst hu hv;exact e
     | succ j=>exact h1 j u v (by simpa using hu) (by simpa using hv)
    ·have z:min (x :: xs).length (y :: ys).length=min xs.length ys.length+1:=by simp only[ar];omega
     rw[z,cz,bq,fW];have z2:((x :: xs).length == (y :: ys).length)=(xs.length == ys.length):=by simp
     rw[z2,← h2,Bool.and_assoc];rfl
section
variable {X:Cx}{pins:List (Addr×Obj)}{σ:Sg}{H:Hp}{s:Shared}
theorem ZH {a:Addr}{xs:List V}{ts:List T}(I:L2.Inv X pins σ H s)(h:H a=some (.tup xs))(r:zD H xs ts):∃its:List Value,zS xs its/\s.heap.IsTuple a its.toArray/\ts.length=its.length/\xs.length<=sizeLine:=by
 obtain⟨its,rv,p,z⟩:=I.tuple (SqT.of h);exact⟨its,rv,p,by rw[← r.length];exact rv.length,z⟩
theorem zJ {a:Addr}{xs:List V}{ts:List T}(I:L2.Inv X pins σ H s)(h:Rd H a (.lst xs))(r:zD H xs ts):∃its:List Value,zS xs its/\s.heap.IsList a its.toArray/\ts.length=its.length/\xs.length<=sizeLine:=by
 obtain⟨its,rv,p,z⟩:=I.list (.inl h);exact⟨its,rv,p.isList,by rw[← r.length];exact rv.length,z⟩
end
noncomputable abbrev EqN (A:Around)(s:Shared)(u u' :Value)(b:Bool):Prop:=cI A s u u' b/\eZ A s u u' b/\dg A s u u' (!b)
section
variable {X:Cx}{pins:List (Addr×Obj)}{σ:Sg}{H:Hp}{s:Shared}
theorem yo {xs ys:List V}{ts us:List T}{its its' :List Value}{A:Around}{f:T->T->Option Bool}{e:Nat->Bool}(r:zD H xs ts)(r' :zD H ys us)(v:zS xs its)(v' :zS ys its')
  (he:∀(j:Nat) (x y:T),ts[j]? =some x->us[j]? =some y->f x y=some (e j))
  (ih:∀(x y:T) (b:Bool) (p q:V) (u w:Value),f x y=some b->Rep H p x->Rep H q y->zU p u->zU q w->EqN A s u w b) (j:Nat) (h1:j < its.toArray.size) (h2:j < its'.toArray.size):
  cI A s its.toArray[j] its'.toArray[j] (e j):=by
 have l1:=v.length;have l2:=v'.length;have k1:j < xs.length:=by simp at h1;omega
 have k2:j < ys.length:=by simp at h2;omega
 obtain⟨t,et,rt⟩:=r.getV (a9 k1);obtain⟨t',et',rt'⟩:=r'.getV (a9 k2);obtain⟨u,eu,ru⟩:=v.get (a9 k1);obtain⟨u',eu',ru'⟩:=v'.get (a9 k2);have q1:=by
  have:its[j]? =some its.toArray[j]:=by simp at h1 ⊢
  rw[eu]at this;exact(aD this).symm
 have q2:=by
  have:its'[j]? =some its'.toArray[j]:=by simp at h2 ⊢
  rw[eu']at this;exact(aD this).symm
 rw[q1,q2];exact(ih t t' _ _ _ u u' (he j t t' et et') rt rt' ru ru').1
theorem Vv {A:Around}{a c:Addr}{xs ys:List V}{ts us:List T}{b:Bool}{f:T->T->Option Bool}(I:L2.Inv X pins σ H s)(hu:A.units < cLine)(ha:H a=some (.tup xs))(hc:H c=some (.tup ys))(r:zD H xs ts)(r' :zD H ys us)
  (hb:eqL f ts us=some b) (hr:∀x b,f x x=some b->b=true)
  (ih:∀(x y:T) (b:Bool) (p q:V) (u w:Value),f x y=some b->Rep H p x->Rep H q y->zU p u->zU q w->EqN A.in1 s u w b):EqN A s (.ref a) (.ref c) b:=by
 obtain⟨its,v,p,l,_⟩:=ZH I ha r;obtain⟨its',v',p',l',_⟩:=ZH I hc r';obtain⟨e,he,hb'⟩:=yn hb;have hp:=yo r r' v v' he ih;have z:((aQ (min its.toArray.size its'.toArray.size)).all e && its.toArray.size == its'.toArray.size)=b:=by
  rw[← hb'];simp[l,l']
 have R:=eZ.tuples p p' hu hp;have N:=dg.tuples p p' hu hp;rw[z]at R;have N' :dg A s (.ref a) (.ref c) (!b):=by
  rw[← z];exact N
 refine⟨?_,R,N'⟩
 by_cases hac:a=c
 ·subst hac;rw[ha]at hc;cases hc;have:=r.fn r';subst this;rw[Zn hr ts b hb];exact ia _
 ·exact fN hac R
theorem wL {A:Around}{a c:Addr}{xs ys:List V}{ts us:List T}{b:Bool}{f:T->T->Option Bool}(I:L2.Inv X pins σ H s)(hu:A.units < cLine)(ha:Rd H a (.lst xs))(hc:Rd H c (.lst ys))(r:zD H xs ts)(r' :zD H ys us)
  (hb:eqL f ts us=some b) (hr:∀x b,f x x=some b->b=true)
  (ih:∀(x y:T) (b:Bool) (p q:V) (u w:Value),f x y=some b->Rep H p x->Rep H q y->zU p u->zU q w->EqN A.in1 s u w b):EqN A s (.ref a) (.ref c) b:=by
 obtain⟨its,v,p,l,_⟩:=zJ I ha r;obtain⟨its',v',p',l',_⟩:=zJ I hc r';obtain⟨e,he,hb'⟩:=yn hb;have hp:=yo r r' v v' he ih;have RN:eZ A s (.ref a) (.ref c) b/\dg A s (.ref a) (.ref c) (!b):=by
  by_cases hl:its.toArray.size=its'.toArray.size
  ·have z:(aQ its.toArray.size).all e=b:=by
    rw[← hb'];have:ts.length=us.length:=by simp at hl;omega
    rw[this];have k:its.toArray.size=us.length:=by simp;omega
    rw[k];simp
   have R:=eZ.lists p p' hl hu hp;have N:=dg.lists p p' hl hu hp;rw[z]at R;refine⟨R, ?_⟩;rw[← z];exact N
  ·have hl' :(its.toArray.size != its'.toArray.size)=true:=by simpa using hl
   have z:b=false:=by
    rw[← hb'];have:¬ ts.length=us.length:=by simp at hl;omega
    simp[this]
   subst z;exact⟨eZ.lists_lengths p p' hl' hu,dg.lists_lengths p p' hl' hu⟩
 refine⟨?_,RN.1,RN.2⟩
 by_cases hac:a=c
 ·subst hac;have hxy:xs=ys:=by
   rcases ha with ha | ⟨o,ha⟩ <;> rcases hc with hc | ⟨o',hc⟩ <;> (rw[ha]at hc;cases hc) <;> rfl
  subst hxy;have:=r.fn r';subst this;rw[Zn hr ts b hb];exact ia _
 ·exact fN hac RN.1
end
section
variable {X:Cx}{pins:List (Addr×Obj)}{σ:Sg}{H:Hp}{s:Shared}
theorem JC {A:Around}:A.in1.units=A.units+1:=rfl
set_option maxHeartbeats 2000000 in
theorem yq (I:L2.Inv X pins σ H s):∀(A:Around),A.units < cLine->∀(x y:T) (b:Bool) (p q:V) (u w:Value),eqF 0 x y=some b->Rep H p x->Rep H q y->zU p u->zU q w->EqN A s u w b:=by
 intro A hu x y b p q u w h rp rq ru rw';have hu' :=hu;cases rp with
 | non=>
  obtain rfl:u=Value.none:=ru;cases rq with
  | non=>obtain rfl:w=Value.none:=rw';unfold eqF at h;cases h;exact⟨.same _,.none_none,.none_none⟩
  | bl c=>obtain rfl:w=Value.bool c:=rw';unfold eqF at h;cases h;exact⟨.none_bool _,.none_bool _,.none_bool _⟩
  | int c=>obtain⟨t,rfl⟩:=rw';unfold eqF at h;cases h;exact⟨.none_int _ _,.none_int _ _,.none_int _ _⟩
  | str c=>obtain⟨t,rfl⟩:=rw';unfold eqF at h;cases h;exact⟨.none_str _ _,.none_str _ _,.none_str _ _⟩
  | tup h1 r1=>obtain rfl:w=Value.ref _:=rw';unfold eqF at h;cases h;obtain⟨i,_,p,_⟩:=ZH I h1 r1;exact⟨.none_tuple p hu',.none_tuple p hu',.none_tuple p hu'⟩
  | lst h1 r1=>obtain rfl:w=Value.ref _:=rw';unfold eqF at h;cases h;obtain⟨i,_,p,_⟩:=zJ I (.inl h1) r1;exact⟨.none_list p hu',.none_list p hu',.none_list p hu'⟩
  | fz h1 r1=>obtain rfl:w=Value.ref _:=rw';unfold eqF at h;cases h;obtain⟨i,_,p,_⟩:=zJ I (.inr ⟨_,h1⟩) r1;exact⟨.none_list p hu',.none_list p hu',.none_list p hu'⟩
 | bl d=>
  obtain rfl:u=Value.bool d:=ru;cases rq with
  | non=>obtain rfl:w=Value.none:=rw';unfold eqF at h;cases h;exact⟨.bool_none _,.bool_none _,.bool_none _⟩
  | bl c=>obtain rfl:w=Value.bool c:=rw';unfold eqF at h;cases h;exact⟨.bool_bool _ _,.bool_bool _ _,.bool_bool _ _⟩
  | int c=>obtain⟨t,rfl⟩:=rw';unfold eqF at h;cases h;exact⟨.bool_int _ _ _,.bool_int _ _ _,.bool_int _ _ _⟩
  | str c=>obtain⟨t,rfl⟩:=rw';unfold eqF at h;cases h;exact⟨.bool_str _ _ _,.bool_str _ _ _,.bool_str _ _ _⟩
  | tup h1 r1=>obtain rfl:w=Value.ref _:=rw';unfold eqF at h;cases h;obtain⟨i,_,p,_⟩:=ZH I h1 r1;exact⟨.bool_tuple _ p hu',.bool_tuple _ p hu',.bool_tuple _ p hu'⟩
  | lst h1 r1=>obtain rfl:w=Value.ref _:=rw';unfold eqF at h;cases h;obtain⟨i,_,p,_⟩:=zJ I (.inl h1) r1;exact⟨.bool_list _ p hu',.bool_list _ p hu',.bool_list _ p hu'⟩
  | fz h1 r1=>obtain rfl:w=Value.ref _:=rw';unfold eqF at h;cases h;obtain⟨i,_,p,_⟩:=zJ I (.inr ⟨_,h1⟩) r1;exact⟨.bool_list _ p hu',.bool_list _ p hu',.bool_list _ p hu'⟩
 | int d=>
  obtain⟨t0,rfl⟩:=ru;cases rq with
  | non=>obtain rfl:w=Value.none:=rw';unfold eqF at h;cases h;exact⟨.int_none _ _,.int_none _ _,.int_none _ _⟩
  | bl c=>obtain rfl:w=Value.bool c:=rw';unfold eqF at h;cases h;exact⟨.int_bool _ _ _,.int_bool _ _ _,.int_bool _ _ _⟩
  | int c=>obtain⟨t,rfl⟩:=rw';unfold eqF at h;cases h;exact⟨.int_int _ _ _ _,.int_int _ _ _ _,.int_int _ _ _ _⟩
  | str c=>obtain⟨t,rfl⟩:=rw';unfold eqF at h;cases h;exact⟨.int_str _ _ _ _,.int_str _ _ _ _,.int_str _ _ _ _⟩
  | tup h1 r1=>obtain rfl:w=Value.ref _:=rw';unfold eqF at h;cases h;obtain⟨i,_,p,_⟩:=ZH I h1 r1;exact⟨.int_tuple _ _ p hu',.int_tuple _ _ p hu',.int_tuple _ _ p hu'⟩
  | lst h1 r1=>obtain rfl:w=Value.ref _:=rw';unfold eqF at h;cases h;obtain⟨i,_,p,_⟩:=zJ I (.inl h1) r1;exact⟨.int_list _ _ p hu',.int_list _ _ p hu',.int_list _ _ p hu'⟩
  | fz h1 r1=>obtain rfl:w=Value.ref _:=rw';unfold eqF at h;cases h;obtain⟨i,_,p,_⟩:=zJ I (.inr ⟨_,h1⟩) r1;exact⟨.int_list _ _ p hu',.int_list _ _ p hu',.int_list _ _ p hu'⟩
 | str d=>
  obtain⟨t0,rfl⟩:=ru;cases rq with
  | non=>obtain rfl:w=Value.none:=rw';unfold eqF at h;cases h;exact⟨.str_none _ _,.str_none _ _,.str_none _ _⟩
  | bl c=>obtain rfl:w=Value.bool c:=rw';unfold eqF at h;cases h;exact⟨.str_bool _ _ _,.str_bool _ _ _,.str_bool _ _ _⟩
  | int c=>obtain⟨t,rfl⟩:=rw';unfold eqF at h;cases h;exact⟨.str_int _ _ _ _,.str_int _ _ _ _,.str_int _ _ _ _⟩
  | str c=>obtain⟨t,rfl⟩:=rw';unfold eqF at h;cases h;exact⟨.str_str _ _ _ _,.str_str _ _ _ _,.str_str _ _ _ _⟩
  | tup h1 r1=>obtain rfl:w=Value.ref _:=rw';unfold eqF at h;cases h;obtain⟨i,_,p,_⟩:=ZH I h1 r1;exact⟨.str_tuple _ _ p hu',.str_tuple _ _ p hu',.str_tuple _ _ p hu'⟩
  | lst h1 r1=>obtain rfl:w=Value.ref _:=rw';unfold eqF at h;cases h;obtain⟨i,_,p,_⟩:=zJ I (.inl h1) r1;exact⟨.str_list _ _ p hu',.str_list _ _ p hu',.str_list _ _ p hu'⟩
  | fz h1 r1=>obtain rfl:w=Value.ref _:=rw';unfold eqF at h;cases h;obtain⟨i,_,p,_⟩:=zJ I (.inr ⟨_,h1⟩) r1;exact⟨.str_list _ _ p hu',.str_list _ _ p hu',.str_list _ _ p hu'⟩
 | tup h0 r0=>
  obtain rfl:u=Value.ref _:=ru;obtain⟨i0,_,p0,_⟩:=ZH I h0 r0;cases rq with
  | non=>obtain rfl:w=Value.none:=rw';unfold eqF at h;cases h;exact⟨.tuple_none p0 hu',.tuple_none p0 hu',.tuple_none p0 hu'⟩
  | bl c=>obtain rfl:w=Value.bool c:=rw';unfold eqF at h;cases h;exact⟨.tuple_bool _ p0 hu',.tuple_bool _ p0 hu',.tuple_bool _ p0 hu'⟩
  | int c=>obtain⟨t,rfl⟩:=rw';unfold eqF at h;cases h;exact⟨.tuple_int _ _ p0 hu',.tuple_int _ _ p0 hu',.tuple_int _ _ p0 hu'⟩
  | str c=>obtain⟨t,rfl⟩:=rw';unfold eqF at h;cases h;exact⟨.tuple_str _ _ p0 hu',.tuple_str _ _ p0 hu',.tuple_str _ _ p0 hu'⟩
  | tup h1 r1=>unfold eqF at h;cases h
  | lst h1 r1=>obtain rfl:w=Value.ref _:=rw';unfold eqF at h;cases h;obtain⟨i,_,p,_⟩:=zJ I (.inl h1) r1;exact⟨.tuple_list p0 p hu',.tuple_list p0 p hu',.tuple_list p0 p hu'⟩
  | fz h1 r1=>obtain rfl:w=Value.ref _:=rw';unfold eqF at h;cases h;obtain⟨i,_,p,_⟩:=zJ I (.inr ⟨_,h1⟩) r1;exact⟨.tuple_list p0 p hu',.tuple_list p0 p hu',.tuple_list p0 p hu'⟩
 | lst h0 r0=>
  obtain rfl:u=Value.ref _:=ru;obtain⟨i0,_,p0,_⟩:=zJ I (.inl h0) r0;cases rq with
  | non=>obtain rfl:w=Value.none:=rw';unfold eqF at h;cases h;exact⟨.list_none p0 hu',.list_none p0 hu',.list_none p0 hu'⟩
  | bl c=>obtain rfl:w=Value.bool c:=rw';unfold eqF at h;cases h;exact⟨.list_bool _ p0 hu',.list_bool _ p0 hu',.list_bool _ p0 hu'⟩
  | int c=>obtain⟨t,rfl⟩:=rw';unfold eqF at h;cases h;exact⟨.list_int _ _ p0 hu',.list_int _ _ p0 hu',.list_int _ _ p0 hu'⟩
  | str c=>obtain⟨t,rfl⟩:=rw';unfold eqF at h;cases h;exact⟨.list_str _ _ p0 hu',.list_str _ _ p0 hu',.list_str _ _ p0 hu'⟩
  | tup h1 r1=>obtain rfl:w=Value.ref _:=rw';unfold eqF at h;cases h;obtain⟨i,_,p,_⟩:=ZH I h1 r1;exact⟨.list_tuple p0 p hu',.list_tuple p0 p hu',.list_tuple p0 p hu'⟩
  | lst h1 r1=>unfold eqF at h;cases h
  | fz h1 r1=>unfold eqF at h;cases h
 | fz h0 r0=>
  obtain rfl:u=Value.ref _:=ru;obtain⟨i0,_,p0,_⟩:=zJ I (.inr ⟨_,h0⟩) r0;cases rq with
  | non=>obtain rfl:w=Value.none:=rw';unfold eqF at h;cases h;exact⟨.list_none p0 hu',.list_none p0 hu',.list_none p0 hu'⟩
  | bl c=>obtain rfl:w=Value.bool c:=rw';unfold eqF at h;cases h;exact⟨.list_bool _ p0 hu',.list_bool _ p0 hu',.list_bool _ p0 hu'⟩
  | int c=>obtain⟨t,rfl⟩:=rw';unfold eqF at h;cases h;exact⟨.list_int _ _ p0 hu',.list_int _ _ p0 hu',.list_int _ _ p0 hu'⟩
  | str c=>obtain⟨t,rfl⟩:=rw';unfold eqF at h;cases h;exact⟨.list_str _ _ p0 hu',.list_str _ _ p0 hu',.list_str _ _ p0 hu'⟩
  | tup h1 r1=>obtain rfl:w=Value.ref _:=rw';unfold eqF at h;cases h;obtain⟨i,_,p,_⟩:=ZH I h1 r1;exact⟨.list_tuple p0 p hu',.list_tuple p0 p hu',.list_tuple p0 p hu'⟩
  | lst h1 r1=>unfold eqF at h;cases h
  | fz h1 r1=>unfold eqF at h;cases h
set_option maxHeartbeats 2000000 in
theorem Q3 (I:L2.Inv X pins σ H s):∀(n:Nat) (A:Around),A.units+n < cLine->∀(x y:T) (b:Bool) (p q:V) (u w:Value),eqF n x y=some b->Rep H p x->Rep H q y->zU p u->zU q w->EqN A s u w b:=by
 intro n
 induction n with
 | zero=>exact λA hu x y b p q u w h=>yq I A (by omega) x y b p q u w h
 | succ n ih=>
  intro A hu x y b p q u w h rp rq ru rw';have low:=λh=>yq I A (by omega) x y b p q u w h rp rq ru rw'
  have hu' :A.units < cLine:=by omega
  have ih' :=ih A.in1 (by rw[JC];omega)
  cases rp with
  | tup h0 r0=>
   cases rq with
   | tup h1 r1=>
    obtain rfl:u=Value.ref _:=ru;obtain rfl:w=Value.ref _:=rw';exact Vv I hu' h0 h1 r0 r1 h (Zd n) ih'
   | _=>exact low (by exact h)
  | lst h0 r0=>
   cases rq with
   | lst h1 r1=>
    obtain rfl:u=Value.ref _:=ru;obtain rfl:w=Value.ref _:=rw';exact wL I hu' (.inl h0) (.inl h1) r0 r1 h (Zd n) ih'
   | fz h1 r1=>
    obtain rfl:u=Value.ref _:=ru;obtain rfl:w=Value.ref _:=rw';exact wL I hu' (.inl h0) (.inr ⟨_,h1⟩) r0 r1 h (Zd n) ih'
   | _=>exact low (by exact h)
  | fz h0 r0=>
   cases rq with
   | lst h1 r1=>
    obtain rfl:u=Value.ref _:=ru;obtain rfl:w=Value.ref _:=rw';exact wL I hu' (.inr ⟨_,h0⟩) (.inl h1) r0 r1 h (Zd n) ih'
   | fz h1 r1=>
    obtain rfl:u=Value.ref _:=ru;obtain rfl:w=Value.ref _:=rw';exact wL I hu' (.inr ⟨_,h0⟩) (.inr ⟨_,h1⟩) r0 r1 h (Zd n) ih'
   | _=>exact low (by exact h)
  | _=>exact low (by cases rq <;> (exact h))
end
section
variable {X:Cx}{Y:Fx}{a b c d:Expr}{fa fb fc fd:En->R T}{pos:Pos}
noncomputable def rG (Y:Fx)(g:T->T->R T):R2:=λx y H Q=>∃B t t',zm B H/\Rep B x t/\Rep B y t' /\Po Y rC B H (g t t') Q
noncomputable def zc (g:T->T->R T)(fa fb:En->R T):En->R T:=λρ=>(fa ρ).bind λx=>(fb ρ).bind λy=>g x y
theorem Us {op:Operator}{g:T->T->R T}(ho:OpR X (binaryOp op) (rG Y g))(ha:Snd X Y a fa)(hb:Snd X Y b fb):Snd X Y (.BinOp a op b pos) (zc g fa fb):= .mk λρ=>
 PE.imp (Gj ho (ha ρ) (hb ρ)) λσ H Q ⟨B,I,q⟩=>step I q λt v H1 _ s1 r1 I1 q1=>step I1 q1 λt' v' H2 _ s2 r2 I2 q2=>
  ⟨_,t,t',I2.sB,r1.mono (zO.ge I1.sB s2),r2,q2⟩
theorem po0 {g:R T}{B H:Hp}{Q:VK}{t:T}{v:V}(sB:zm B H)(q:Po Y rC B H g Q)(e:g= .ok t)(r:Rep B v t):Q v H:=by
 subst e;exact q v H (zm.refl H) (by rw[zO.self B H sB];exact r)
theorem XX {g:R T}{B H:Hp}{Q:VK}{ts:List T}{xs:List V}{p:Addr}(sB:zm B H)(q:Po Y rC B H g Q)(e:g= .ok (.tup ts))(r:zD B xs ts)(h:H p=none):Q (.ref p) (upd H p (.tup xs)):=by
 subst e;exact q _ _ (zm.new h _) (.tup (ZX h _) (r.mono (zO.ge sB (zm.new h _))))
theorem GD {g:R T}{B H:Hp}{Q:VK}{ts:List T}{xs:List V}{p:Addr}(sB:zm B H)(q:Po Y rC B H g Q)(e:g= .ok (.lst ts))(r:zD B xs ts)(h:H p=none):Q (.ref p) (upd H p (.lst xs)):=by
 subst e;exact q _ _ (zm.new h _) (.lst (ZX h _) (r.mono (zO.ge sB (zm.new h _))))
noncomputable def zv:T->T->R T
 | .int i,.int j=> .ok (.int (i+j))
 | .bl x,.int j=> .ok (.int (b2 x+j))
 | .int i,.bl y=> .ok (.int (i+b2 y))
 | .str x,.str y=>if x.length+y.length<=bnd then .ok (.str (x++y)) else .bad
 | .tup xs,.tup ys=>if xs.length+ys.length<=bnd then .ok (.tup (xs++ys)) else .bad
 | .lst xs,.lst ys=>if xs.length+ys.length<=bnd then .ok (.lst (xs++ys)) else .bad
 | _,_=> .bad
theorem Q4 {prog:Program}{w:World}{A:Around}{E:Value->Shared->Prop}{s:Shared}{t b:Addr}{vs ws:List Value}{Q:Value->Shared->Prop}(ht:IsTup s.heap t vs.toArray)(hb:IsTup s.heap b ws.toArray)(hv:vs=[])
  (h1:Q (.ref b) s):wpAny (model prog w) A (binaryOp .Add (.ref t) (.ref b)) Q E s:=by
 obtain⟨⟨cls,dd,data,sl⟩,ho,hc,n,hd⟩:=id ht;obtain⟨⟨cls2,dd2,data2,sl2⟩,ho2,hc2,n2,hd2⟩:=id hb;subst hc hd hc2 hd2;exact concat_meets ⟨_,ho,rfl⟩ ⟨_,ho2,rfl⟩ noFill_tuple_add seq_tuple_add de d6 (c_ _ _)
   (tuple_addW0 t b _ _ n n2 dd dd2 sl sl2 (by simp[hv])) ⟨ho,ho2,h1⟩
theorem Vw:OpR X (binaryOp .Add) (rG Y zv):=by
 intro pins s σ H x y v u Q I rx ry h;obtain⟨B,t,t',sB,r,r',q⟩:=h;cases r with
 | int i=>
  cases r' with
  | int j=>exact Xw pins s σ H _ _ v u Q I rx ry ⟨i,j,rfl,rfl,po0 sB q rfl (.int _)⟩
  | bl y=>exact y7 pins s σ H _ _ v u Q I rx ry ⟨i,y,rfl,rfl,po0 sB q rfl (.int _)⟩
  | _=>exact q.elim
 | bl x=>
  cases r' with
  | int j=>
   obtain rfl:v=Value.bool x:=rx;obtain⟨tk,rfl⟩:=ry;exact IntBool.add_bool_int (⟨.int _,H,I.tok _,⟨_,rfl⟩,po0 sB q rfl (.int _)⟩)
  | _=>exact q.elim
 | str x=>
  cases r' with
  | str y=>
   by_cases hb:x.length+y.length<=bnd
   ·exact Uo pins s σ H _ _ v u Q I rx ry ⟨x,y,rfl,rfl,ZC hb,po0 sB q (if_pos hb) (.str _)⟩
   ·rw[show zv (.str x) (.str y)= .bad from if_neg hb]at q;exact q.elim
  | _=>exact q.elim
 | @tup a xs ts h1 r1=>
  cases r' with
  | @tup a' ys us h2 r2=>
   by_cases hb:ts.length+us.length<=bnd
   ·have eg:zv (.tup ts) (.tup us)= .ok _:=if_pos hb;have hz:xs.length+ys.length<=sizeLine:=by rw[r1.length,r2.length];exact ZC hb
    by_cases hx:xs=[]
    ·obtain rfl:v=Value.ref a:=rx;obtain rfl:u=Value.ref a' :=ry;obtain⟨its,rv,p,_⟩:=I.tuple (SqT.of (sB _ _ h1));obtain⟨its',rv',p',_⟩:=I.tuple (SqT.of (sB _ _ h2));have et:=r1.nil_iff.mp hx;refine Q4 p p' (rv.nil_iff.mpr hx) ⟨.ref a',H,I,rfl,po0 sB q eg ?_⟩;rw[et];exact .tup h2 r2
    ·refine Vn _ s σ H _ _ v u Q I rx ry ⟨a,a',xs,ys,rfl,rfl,SqT.of (sB _ _ h1),SqT.of (sB _ _ h2),hx,hz,λhy=> ?_,λhy p hp=> ?_⟩
     ·refine po0 sB q eg ?_;rw[r2.nil_iff.mp hy,bA];exact .tup h1 r1
     ·exact XX sB q eg (r1.append r2) hp
   ·rw[show zv (.tup ts) (.tup us)= .bad from if_neg hb]at q;exact q.elim
  | _=>exact q.elim
 | @lst a xs ts h1 r1=>
  cases r' with
  | @lst a' ys us h2 r2=>
   by_cases hb:ts.length+us.length<=bnd
   ·have eg:zv (.lst ts) (.lst us)= .ok _:=if_pos hb;have hz:xs.length+ys.length<=sizeLine:=by rw[r1.length,r2.length];exact ZC hb
    exact XQ _ s σ H _ _ v u Q I rx ry ⟨a,a',xs,ys,rfl,rfl,sB _ _ h1,sB _ _ h2,hz,λp hp=>GD sB q eg (r1.append r2) hp⟩
   ·rw[show zv (.lst ts) (.lst us)= .bad from if_neg hb]at q;exact q.elim
  | _=>exact q.elim
 | _=>cases r' <;> exact q.elim
theorem GE (ha:Snd X Y a fa)(hb:Snd X Y b fb):Snd X Y (.BinOp a .Add b pos) (zc zv fa fb):=Us Vw ha hb
noncomputable def jP:T->T->R T
 | .int i,.int j=> .ok (.int (i - j))
 | _,_=> .bad
noncomputable def jj:T->T->R T
 | .int i,.int j=>if 0 < j then .ok (.int (i % j)) else .bad
 | _,_=> .bad
noncomputable def JD:T->T->R T
 | .int i,.int j=>if 0 < j/\j < 1073741824 then .ok (.int (i / j)) else .bad
 | _,_=> .bad
noncomputable instance (i j:Int):Decidable (Wi i j):=by unfold Wi;infer_instance
noncomputable def zP:T->T->R T
 | .int i,.int j=>if Wi i j then .ok (.int (i*j)) else .bad
 | .lst xs,.int k=>if 0<=k/\k < 1000000/\xs.length*k.toNat<=bnd then .ok (.lst (ab k.toNat xs).flatten) else .bad
 | .tup xs,.int k=>if 2<=k/\k < 1000000/\xs ≠ []/\xs.length*k.toNat<=bnd then .ok (.tup (ab k.toNat xs).flatten) else .bad
 | _,_=> .bad
theorem Vx:OpR X (binaryOp .Sub) (rG Y jP):=by
 intro pins s σ H x y v u Q I rx ry h;obtain⟨B,t,t',sB,r,r',q⟩:=h;cases r with
 | int i=>
  cases r' with
  | int j=>exact Xx _ s σ H _ _ v u Q I rx ry ⟨i,j,rfl,rfl,po0 sB q rfl (.int _)⟩
  | _=>exact q.elim
 | _=>cases r' <;> exact q.elim
theorem Vy:OpR X (binaryOp .Mod) (rG Y jj):=by
 intro pins s σ H x y v u Q I rx ry h;obtain⟨B,t,t',sB,r,r',q⟩:=h;cases r with
 | int i=>
  cases r' with
  | int j=>
   by_cases hj:0 < j
   ·exact Xz _ s σ H _ _ v u Q I rx ry ⟨i,j,rfl,rfl,hj,po0 sB q (if_pos hj) (.int _)⟩
   ·rw[show jj (.int i) (.int j)= .bad from if_neg hj]at q;exact q.elim
  | _=>exact q.elim
 | _=>cases r' <;> exact q.elim
theorem Q5:OpR X (binaryOp .FloorDiv) (rG Y JD):=by
 intro pins s σ H x y v u Q I rx ry h;obtain⟨B,t,t',sB,r,r',q⟩:=h;cases r with
 | int i=>
  cases r' with
  | int j=>
   by_cases hj:0 < j/\j < 1073741824
   ·exact Vf _ s σ H _ _ v u Q I rx ry ⟨i,j,rfl,rfl,hj,po0 sB q (if_pos hj) (.int _)⟩
   ·rw[show JD (.int i) (.int j)= .bad from if_neg hj]at q;exact q.elim
  | _=>exact q.elim
 | _=>cases r' <;> exact q.elim
theorem Ut (l:Addr)(items:Array Value)(n:Nat)(dd:Option Addr)(sl:Array (Option Value))(x:Int)(u:Tok)(h1:2<=x)(h2:x < 1000000)(hne:items.isEmpty=false)(hsz:items.size*x.toNat<=sizeLine):
  Meets (Builtin.«tuple.__mul__» ⟨[.ref l,.int x u],[]⟩) (λ_ R s=>s.heap.get? l=some { cls:= .type "tuple",dict:=dd,data:= .seq items n,slots:=sl }/\
   R (.ok (.ret (Value.ref s.heap.objs.size))) { s with heap:=s.heap.push { cls:=Value.type "tuple",data:=Data.seq (dL (λx1 x2=>x1++x2) #[] (ab x.toNat items)) },toks:=s.toks }):=
 .of_wp λprog w A R s h=>by
  obtain⟨hl,h⟩:=h;have e0:(items.size:Int)*x=((items.size*x.toNat:Nat):Int):=by
   have:x=((x.toNat:Nat):Int):=by omega
   rw[ib,← this]
  have sl1:(sizeLine:Nat)=16777216:=bZ;have c1:¬ (decide (x < -(2 ^ 63)) || decide (x ≥ 2 ^ 63))=true:=by simp;omega
  have c2:¬ (items.isEmpty || x == 1)=true:=by simp[hne];omega
  have c3:¬ (decide (x<=0) || items.isEmpty)=true:=by simp[hne];omega
  have c4:¬ ((items.size:Int)*x > (2 ^ 63 - 1) / 8):=by rw[e0];omega
  have c5:¬ dM ((items.size:Int)*x)=true:=by
   unfold dM;rw[e0];intro z;have:=of_decide_eq_true z;omega
  unfold Builtin.«tuple.__mul__»
  wp_walk using wpAny_loadPart' hl
  rw[if_neg c1]
  wp_walk using wpAny_loadPart' hl
  rw[if_neg c2]
  try dsimp only
  rw[if_neg c3]
  try dsimp only
  rw[if_neg c4]
  try dsimp only
  rw[if_neg c5]
  try dsimp only
  have hsz' :sizeOk (.seq (dL (λx1 x2=>x1++x2) #[] (ab x.toNat items))):=by
   show (dL (λx1 x2=>x1++x2) #[] _).size<=sizeLine;have:=jy items.toList x.toNat [];have q:=by
    simpa using this
   rw[q,av,jR,cy];exact hsz
  exact a7 (a_ (am ⟨_,rfl,h⟩) hsz')
theorem J9:seqRepeat? (.type "tuple")=pure (some (.builtin "tuple.__mul__")):=by
 unfold seqRepeat?;rw[hJ (name:="__mul__") dA.lookup (by decide+kernel),hJ (name:="__rmul__") fX.lookup (by decide+kernel)]
 rfl
theorem ZR:fillsNumberSlot (.type "tuple") "mul"=pure false:=
 PySem.fillsNumberSlot_seq dA.lookup (by decide+kernel) fX.lookup (by decide+kernel)
theorem jk (a:Int)(t:Tok)(l:Addr)(items:Array Value)(n:Nat)(dd:Option Addr)(sl:Array (Option Value)):
  Meets (Builtin.«int.__rmul__» ⟨[.int a t,.ref l],[]⟩) (λ_ R s=>s.heap.get? l=some { cls:= .type "tuple",dict:=dd,data:= .seq items n,slots:=sl }/\R (.ok (.ret Value.notImplemented)) s):=
 .of_wp λprog w A R s h=>by obtain⟨hl,h⟩:=h;wp_walk;exact⟨_,rfl,h⟩
theorem Vz {prog:Program}{w:World}{A:Around}{E:Value->Shared->Prop}{s:Shared}{l:Addr}{its:List Value}{k:Int}{t:Tok}{Q:Value->Shared->Prop}(p:IsTup s.heap l its.toArray)(hne:its ≠ [])(h1:2<=k)(h2:k < 1000000)
  (hsz:its.length*k.toNat<=sizeLine) (q:Q (.ref s.heap.objs.size) { s with heap:=s.heap.push { cls:= .type "tuple",data:= .seq (ab k.toNat its).flatten.toArray } }):
  wpAny (model prog w) A (binaryOp .Mult (.ref l) (.int k t)) Q E s:=by
 obtain⟨⟨cls,dd,data,sl⟩,ho,hc,n,hd⟩:=id p;subst hc hd;refine wpAny_binaryOp_repeat_ref (by decide) ⟨_,ho,rfl⟩ (λs' =>dz s' k t) ZR ff cC J9 eM.lookup
  (cL cC (dz s k t) eN (dY _ _) (jk k t l _ n dd sl)
   ⟨ho,rfl,⟨_,ho,rfl⟩,cL dA ⟨_,ho,rfl⟩ fY (fO _ _) (Ut l _ n dd sl k t h1 h2 (by simpa using hne) (by simpa using hsz)) ⟨ho, ?_⟩⟩)
 have:=jy its k.toNat [];rw[this];exact q
theorem yr:OpR X (binaryOp .Mult) (rG Y zP):=by
 intro pins s σ H x y v u Q I rx ry h;obtain⟨B,t,t',sB,r,r',q⟩:=h;cases r with
 | int i=>
  cases r' with
  | int j=>
   by_cases hj:Wi i j
   ·exact Xy _ s σ H _ _ v u Q I rx ry ⟨i,j,rfl,rfl,hj,po0 sB q (if_pos hj) (.int _)⟩
   ·rw[show zP (.int i) (.int j)= .bad from if_neg hj]at q;exact q.elim
  | _=>exact q.elim
 | @lst l xs ts h1 r1=>
  cases r' with
  | int k=>
   by_cases hk:0<=k/\k < 1000000/\ts.length*k.toNat<=bnd
   ·have eg:zP (.lst ts) (.int k)= .ok _:=if_pos hk;exact XR _ s σ H _ _ v u Q I rx ry ⟨l,k,xs,rfl,rfl,sB _ _ h1,by omega,by omega,by rw[r1.length];exact ZC hk.2.2,λp hp=>GD sB q eg (r1.rep _) hp⟩
   ·rw[show zP (.lst ts) (.int k)= .bad from if_neg hk]at q;exact q.elim
  | _=>exact q.elim
 | @tup l xs ts h1 r1=>
  cases r' with
  | int k=>
   by_cases hk:2<=k/\k < 1000000/\ts ≠ []/\ts.length*k.toNat<=bnd
   ·have eg:zP (.tup ts) (.int k)= .ok _:=if_pos hk;obtain rfl:v=Value.ref l:=rx;obtain⟨tk,rfl⟩:=ry;obtain⟨its,rv,p,_⟩:=I.tuple (SqT.of (sB _ _ h1));have ln:=r1.length.symm.trans rv.length;have hne:its ≠ []:=λz=>hk.2.2.1 (by rw[z]at ln;exact d7.mp ln)
    refine Vz p hne hk.1 hk.2.1 (by rw[← ln];exact ZC hk.2.2.2) ⟨.ref _,upd H _ (.tup (ab k.toNat xs).flatten),I.laid (λb u e=>af _ e) (ai _) ?_,rfl, ?_⟩
    ·exact⟨by rw[jR,r1.length,cy];exact ZC hk.2.2.2,(ab _ its).flatten,rv.rep _,⟨_,ag _ rfl,rfl,_,rfl⟩,.inr ⟨_,ag _ rfl,rfl⟩⟩
    ·exact XX sB q eg (r1.rep _) (I.hok.fresh (ai _))
   ·rw[show zP (.tup ts) (.int k)= .bad from if_neg hk]at q;exact q.elim
  | _=>exact q.elim
 | _=>cases r' <;> exact q.elim
theorem GF (ha:Snd X Y a fa)(hb:Snd X Y b fb):Snd X Y (.BinOp a .Sub b pos) (zc jP fa fb):=Us Vx ha hb
theorem GG (ha:Snd X Y a fa)(hb:Snd X Y b fb):Snd X Y (.BinOp a .Mod b pos) (zc jj fa fb):=Us Vy ha hb
theorem XY (ha:Snd X Y a fa)(hb:Snd X Y b fb):Snd X Y (.BinOp a .FloorDiv b pos) (zc JD fa fb):=Us Q5 ha hb
theorem GH (ha:Snd X Y a fa)(hb:Snd X Y b fb):Snd X Y (.BinOp a .Mult b pos) (zc zP fa fb):=Us yr ha hb
noncomputable def Q6 (fa:En->R T):En->R T:=λρ=>(fa ρ).bind λx=>match x with
 | .int i=> .ok (.int (-i))
 | _=> .bad
theorem GI (ha:Snd X Y a fa):Snd X Y (.UnaryOp .USub a pos) (Q6 fa):= .mk λρ=>PE.imp (Gk XA (ha ρ)) λσ H Q ⟨B,I,q⟩=>step I q λt v H1 _ s1 r1 I1 q1=>by
 cases r1 with
 | int i=>exact⟨i,rfl,po0 I1.sB q1 rfl (.int _)⟩
 | _=>exact q1.elim
noncomputable def wc (g:T->T->R Bool):R2:=λx y H Q=>∃t t' b,Rep H x t/\Rep H y t' /\g t t' = .ok b/\Q (.bl b) H
noncomputable def Zh (g:T->T->R Bool)(fa fb:En->R T):En->R T:=λρ=>(fa ρ).bind λx=>(fb ρ).bind λy=>(g x y).bind λb=> .ok (.bl b)
noncomputable def zh (g:T->T->R Bool)(fa fb:En->R T):En->R Bool:=λρ=>(fa ρ).bind λx=>(fb ρ).bind λy=>g x y
noncomputable def Nx (g:T->T->R Bool):Prop:=∀t t' c,g t t' ≠ .ex c
theorem Uu {op:CmpOp}{g:T->T->R Bool}(nx:Nx g)(ho:OpR X (compareOp op) (wc g))(ha:jb X Y a fa)(hb:jb X Y b fb)(hm:behindInMarks op b=false):Snd X Y (.Compare a [op] [b] pos) (Zh g fa fb):= .mk λρ=>
 PE.imp (Vg ho (ha ρ) (hb ρ) hm) λσ H Q ⟨B,I,q⟩=>step I q λt v H1 _ s1 r1 I1 q1=>step I1 q1 λt' v' H2 _ s2 r2 I2 q2=>by
  cases e:g t t' with
  | bad=>rw[e]at q2;exact q2.elim
  | ex c=>exact absurd e (nx _ _ _)
  | ok b=>rw[e]at q2;exact⟨t,t',b,r1.mono s2,r2,e,ZB I2 q2 (.bl b)⟩
theorem wM {op:CmpOp}{g:T->T->R Bool}(nx:Nx g)(ho:OpR X (compareOp op) (wc g))(ha:jb X Y a fa)(hb:jb X Y b fb)(hm:behindInMarks op b=false):Wx X Y (.Compare a [op] [b] pos) (zh g fa fb):= .mk λρ=>
 PT.imp (Vh ho (ha ρ) (hb ρ) hm) λσ H Q ⟨B,I,q⟩=>step I q λt v H1 _ s1 r1 I1 q1=>step I1 q1 λt' v' H2 _ s2 r2 I2 q2=>by
  cases e:g t t' with
  | bad=>rw[e]at q2;exact q2.elim
  | ex c=>exact absurd e (nx _ _ _)
  | ok b=>rw[e]at q2;exact⟨t,t',b,r1.mono s2,r2,e,b,rfl,ZB I2 q2 rfl⟩
noncomputable def eqC (t t' :T):R Bool:=match eqF 30 t t' with
 | some b=> .ok b
 | none=> .bad
noncomputable def neC (t t' :T):R Bool:=match eqF 30 t t' with
 | some b=> .ok (!b)
 | none=> .bad
theorem XZ:Nx eqC:=λt t' c h=>by unfold eqC at h;split at h <;> cases h
theorem k3:Nx neC:=λt t' c h=>by unfold neC at h;split at h <;> cases h
theorem vo (hu:X.A.units+64 < cLine):OpR X (compareOp .Eq) (wc eqC):=by
 intro pins s σ H x y v u Q I rx ry h;obtain⟨t,t',b,r,r',e,q⟩:=h;unfold eqC at e;split at e
 ·rename_i k ek;have e' :=by injection e
  subst e';exact(Q3 I 30 X.A (by omega) t t' k x y v u ek r r' rx ry).2.1 _ _ _ _ ⟨.bl k,H,I,rfl,q⟩
 ·cases e
theorem vp (hu:X.A.units+64 < cLine):OpR X (compareOp .NotEq) (wc neC):=by
 intro pins s σ H x y v u Q I rx ry h;obtain⟨t,t',b,r,r',e,q⟩:=h;unfold neC at e;split at e
 ·rename_i k ek;cases e;exact(Q3 I 30 X.A (by omega) t t' k x y v u ek r r' rx ry).2.2 _ _ _ _ ⟨.bl _,H,I,rfl,q⟩
 ·cases e
noncomputable def ltC:T->T->R Bool
 | .int i,.int j=> .ok (decide (i < j))
 | _,_=> .bad
noncomputable def leC:T->T->R Bool
 | .int i,.int j=> .ok (decide (i<=j))
 | .str x,.str y=> .ok (!decide (y.cps.toList < x.cps.toList))
 | _,_=> .bad
noncomputable def gtC:T->T->R Bool
 | .int i,.int j=> .ok (decide (j < i))
 | _,_=> .bad
noncomputable def geC:T->T->R Bool
 | .int i,.int j=> .ok (decide (j<=i))
 | _,_=> .bad
theorem GJ:Nx ltC:=λt t' c h=>by unfold ltC at h;split at h <;> cases h
theorem wN:Nx leC:=λt t' c h=>by unfold leC at h;split at h <;> cases h
theorem GK:Nx gtC:=λt t' c h=>by unfold gtC at h;split at h <;> cases h
theorem GL:Nx geC:=λt t' c h=>by unfold geC at h;split at h <;> cases h
theorem k6:OpR X (compareOp .Lt) (wc ltC):=by
 intro pins s σ H x y v u Q I rx ry h;obtain⟨t,t',b,r,r',e,q⟩:=h;unfold ltC at e;split at e
 ·rename_i i j;cases e;cases r;cases r';exact Gm _ s σ H _ _ v u Q I rx ry ⟨i,j,rfl,rfl,q⟩
 ·cases e
theorem k7:OpR X (compareOp .Gt) (wc gtC):=by
 intro pins s σ H x y v u Q I rx ry h;obtain⟨t,t',b,r,r',e,q⟩:=h;unfold gtC at e;split at e
 ·rename_i i j;cases e;cases r;cases r';exact Go _ s σ H _ _ v u Q I rx ry ⟨i,j,rfl,rfl,q⟩
 ·cases e
theorem k8:OpR X (compareOp .GtE) (wc geC):=by
 intro pins s σ H x y v u Q I rx ry h;obtain⟨t,t',b,r,r',e,q⟩:=h;unfold geC at e;split at e
 ·rename_i i j;cases e;cases r;cases r';exact Gp _ s σ H _ _ v u Q I rx ry ⟨i,j,rfl,rfl,q⟩
 ·cases e
theorem jA:OpR X (compareOp .LtE) (wc leC):=by
 intro pins s σ H x y v u Q I rx ry h;obtain⟨t,t',b,r,r',e,q⟩:=h;unfold leC at e;split at e
 ·rename_i i j;cases e;cases r;cases r';exact Gn _ s σ H _ _ v u Q I rx ry ⟨i,j,rfl,rfl,q⟩
 ·cases e;cases r;cases r';obtain⟨t1,rfl⟩:=rx;obtain⟨t2,rfl⟩:=ry;exact PySem.P.le_str ⟨.bl _,H,I,rfl,q⟩
 ·cases e
end
section
variable {X:Cx}{Y:Fx}{a b c d:Expr}{fa fb fc fd:En->R T}{pos:Pos}
noncomputable def jo (f:T->Option Bool):List T->Option Bool
 | []=>some false
 | t :: r=>match f t with
  | none=>none
  | some b=>match jo f r with
   | none=>none
   | some c=>some (b || c)
noncomputable def inC (t t' :T):R Bool:=match t' with
 | .tup ys=>match jo (λy=>eqF 30 y t) ys with | some b=> .ok b | none=> .bad
 | .lst ys=>match jo (λy=>eqF 30 y t) ys with | some b=> .ok b | none=> .bad
 | _=> .bad
noncomputable def Uv (t t' :T):R Bool:=(inC t t').bind λb=> .ok (!b)
theorem Q7:Nx inC:=λt t' c h=>by
 unfold inC at h;split at h
 ·split at h <;> cases h
 ·split at h <;> cases h
 ·cases h
theorem k9:Nx Uv:=λt t' c h=>by
 unfold Uv at h;cases e:inC t t' with
 | bad=>rw[e]at h;cases h
 | ex k=>exact absurd e (Q7 _ _ _)
 | ok k=>rw[e]at h;cases h
open Classical in
theorem yt {H:Hp}(f:T->Option Bool):∃e:Value->Bool,∀(v:V) (t:T) (u:Value) (b:Bool),zU v u->Rep H v t->f t=some b->e u=b:=by
 refine⟨λu=>decide (∃v t,zU v u/\Rep H v t/\f t=some true),λv t u b rv r e=> ?_⟩;cases b with
 | true=>exact decide_eq_true ⟨v,t,rv,r,e⟩
 | false=>
  refine decide_eq_false ?_
  rintro⟨v',t',rv',r',e'⟩
  have:=rv.inj rv';subst this;have:=r.fn r';subst this;rw[e]at e';cases e'
theorem yu {H:Hp}{f:T->Option Bool}{e:Value->Bool}(he:∀(v:V) (t:T) (u:Value) (b:Bool),zU v u->Rep H v t->f t=some b->e u=b):∀{xs:List V} {ts:List T} {its:List Value} {b:Bool},
  zS xs its->zD H xs ts->jo f ts=some b->its.any e=b/\∀u∈its,∃v t k,zU v u/\Rep H v t/\f t=some k
 | _,_,_,b,.nil,.nil,h=>by
  have h' :=h;cases h';exact⟨rfl,λu hu=>by simp at hu⟩
 | _,_,_,b,.cons rv vs,.cons r rs,h=>by
  rename_i v u vals us t ts;unfold jo at h;cases q:f t with
  | none=>rw[q]at h;cases h
  | some k=>
   rw[q]at h;cases q' :jo f ts with
   | none=>rw[q']at h;cases h
   | some k' =>
    rw[q']at h;cases h;obtain⟨h1,h2⟩:=yu he vs rs q';refine⟨by rw[eC,h1,he v t u k rv r q],λw hw=> ?_⟩
    rcases ah.mp hw with rfl | hw
    ·exact⟨v,t,k,rv,r,q⟩
    ·exact h2 w hw
theorem yv (hu:X.A.units+64 < cLine)(neg:Bool):OpR X (compareOp (if neg then .NotIn else .In)) (wc (if neg then Uv else inC)):=by
 intro pins s σ H x y v u Q I rx ry h;obtain⟨t,t',b,r,r',e,q⟩:=h;have hs:∃k,inC t t' = .ok k/\b=(if neg then !k else k):=by
  cases neg with
  | false=>exact⟨b,e,rfl⟩
  | true=>
   have e' :Uv t t' = .ok b:=e;unfold Uv at e';cases z:inC t t' with
   | bad=>rw[z]at e';cases e'
   | ex k=>exact absurd z (Q7 _ _ _)
   | ok k=>rw[z]at e';cases e';exact⟨k,rfl,rfl⟩
 obtain⟨k,ek,rfl⟩:=hs;unfold inC at ek;obtain⟨f,hf⟩:=yt λy=>eqF 30 y t;have eqa:∀w,(∃v t' k,zU v w/\Rep H v t' /\eqF 30 t' t=some k)->cI X.A.in1 s w v (f w):=λw ⟨v',t',k,rv,rr,ee⟩=>by
  rw[hf v' t' w k rv rr ee];exact(Q3 I 30 _ (by rw[JC];omega) t' t k v' x w v ee rr r rv rx).1
 split at ek
 ·split at ek
  ·rename_i k' hk;cases ek;cases r' with
   | @tup l xs _ h1 r1=>
    obtain rfl:u=Value.ref l:=ry;obtain⟨its,rv,p,_⟩:=ZH I h1 r1;obtain⟨h2,h3⟩:=yu hf rv r1 hk;have h4:its.toArray.any f=k:=by simpa using h2
    cases neg with
    | false=>exact SeqAt.in_tupleAt f p (λw hw=>eqa w (h3 w (by simpa using hw))) (by rw[h4];exact⟨.bl k,H,I,rfl,q⟩)
    | true=>exact SeqAt.notIn_tupleAt f p (λw hw=>eqa w (h3 w (by simpa using hw))) (by rw[h4];exact⟨.bl _,H,I,rfl,q⟩)
  ·cases ek
 ·split at ek
  ·rename_i k' hk;cases ek;cases r' with
   | @lst l xs _ h1 r1=>
    obtain rfl:u=Value.ref l:=ry;obtain⟨its,rv,p,_⟩:=zJ I (.inl h1) r1;obtain⟨h2,h3⟩:=yu hf rv r1 hk;have h4:its.toArray.any f=k:=by simpa using h2
    cases neg with
    | false=>exact SeqAt.in_listAt f p (λw hw=>eqa w (h3 w (by simpa using hw))) (by rw[h4];exact⟨.bl k,H,I,rfl,q⟩)
    | true=>exact SeqAt.notIn_listAt f p (λw hw=>eqa w (h3 w (by simpa using hw))) (by rw[h4];exact⟨.bl _,H,I,rfl,q⟩)
  ·cases ek
 ·cases ek
theorem vq (hu:X.A.units+64 < cLine):OpR X (compareOp .In) (wc inC):=yv hu false
theorem VA (hu:X.A.units+64 < cLine):OpR X (compareOp .NotIn) (wc Uv):=yv hu true
noncomputable def ZY (t t' :T):R Bool:=match t' with
 | .non=>match t with | .non=> .ok true | _=> .ok false
 | .bl k=>match t with | .bl j=> .ok (j == k) | _=> .ok false
 | _=> .bad
noncomputable def Zb (t t' :T):R Bool:=(ZY t t').bind λb=> .ok (!b)
theorem Q8:Nx ZY:=λt t' c h=>by
 unfold ZY at h;split at h
 ·split at h <;> cases h
 ·split at h <;> cases h
 ·cases h
theorem ka:Nx Zb:=λt t' c h=>by
 unfold Zb at h;cases e:ZY t t' with
 | bad=>rw[e]at h;cases h
 | ex k=>exact absurd e (Q8 _ _ _)
 | ok k=>rw[e]at h;cases h
theorem yw (neg:Bool):OpR X (compareOp (if neg then .IsNot else .Is)) (wc (if neg then Zb else ZY)):=by
 intro pins s σ H x y v u Q I rx ry h;obtain⟨t,t',b,r,r',e,q⟩:=h;have hs:∃k,ZY t t' = .ok k/\b=(if neg then !k else k):=by
  cases neg with
  | false=>exact⟨b,e,rfl⟩
  | true=>
   have e' :Zb t t' = .ok b:=e;unfold Zb at e';cases z:ZY t t' with
   | bad=>rw[z]at e';cases e'
   | ex k=>exact absurd z (Q8 _ _ _)
   | ok k=>rw[z]at e';cases e';exact⟨k,rfl,rfl⟩
 obtain⟨k,ek,rfl⟩:=hs;have go:plainIs v u=true/\(v == u)=k:=by
  cases r' with
  | non=>
   obtain rfl:u=Value.none:=ry;cases r with
   | non=>obtain rfl:v=Value.none:=rx;cases ek;exact⟨rfl,rfl⟩
   | bl j=>obtain rfl:v=Value.bool j:=rx;cases ek;exact⟨rfl,rfl⟩
   | int j=>obtain⟨t,rfl⟩:=rx;cases ek;exact⟨rfl,rfl⟩
   | str j=>obtain⟨t,rfl⟩:=rx;cases ek;exact⟨rfl,rfl⟩
   | tup _ _=>obtain rfl:v=Value.ref _:=rx;cases ek;exact⟨rfl,rfl⟩
   | lst _ _=>obtain rfl:v=Value.ref _:=rx;cases ek;exact⟨rfl,rfl⟩
   | fz _ _=>obtain rfl:v=Value.ref _:=rx;cases ek;exact⟨rfl,rfl⟩
  | bl k' =>
   obtain rfl:u=Value.bool k' :=ry;cases r with
   | non=>obtain rfl:v=Value.none:=rx;cases ek;exact⟨rfl,rfl⟩
   | bl j=>obtain rfl:v=Value.bool j:=rx;cases ek;exact⟨rfl,by cases j <;> cases k' <;> rfl⟩
   | int j=>obtain⟨t,rfl⟩:=rx;cases ek;exact⟨rfl,rfl⟩
   | str j=>obtain⟨t,rfl⟩:=rx;cases ek;exact⟨rfl,rfl⟩
   | tup _ _=>obtain rfl:v=Value.ref _:=rx;cases ek;exact⟨rfl,rfl⟩
   | lst _ _=>obtain rfl:v=Value.ref _:=rx;cases ek;exact⟨rfl,rfl⟩
   | fz _ _=>obtain rfl:v=Value.ref _:=rx;cases ek;exact⟨rfl,rfl⟩
  | _=>cases ek
 cases neg with
 | false=>exact wpAny_is_plain go.1 (by rw[go.2];exact⟨.bl k,H,I,rfl,q⟩)
 | true=>exact wpAny_isNot_plain go.1 (by rw[go.2];exact⟨.bl _,H,I,rfl,q⟩)
theorem vt:OpR X (compareOp .Is) (wc ZY):=yw false
theorem VB:OpR X (compareOp .IsNot) (wc Zb):=yw true
noncomputable def chE (g g' :T->T->R Bool)(fa fb fc:En->R T):En->R T:=λρ=>(fa ρ).bind λx=>(fb ρ).bind λy=>(g x y).bind λk=>if k=true then (fc ρ).bind λz=>(g' y z).bind λk' => .ok (.bl k') else .ok (.bl false)
noncomputable def chT (g g' :T->T->R Bool)(fa fb fc:En->R T):En->R Bool:=λρ=>(fa ρ).bind λx=>(fb ρ).bind λy=>(g x y).bind λk=>if k=true then (fc ρ).bind λz=>g' y z else .ok false
theorem VC {op op' :CmpOp}{g g' :T->T->R Bool}(nx:Nx g)(nx' :Nx g')(ho:OpR X (compareOp op) (wc g))(ho' :OpR X (compareOp op') (wc g'))(ha:jb X Y a fa)(hb:jb X Y b fb)(hc:jb X Y c fc)
  (hm:lastMarks [op,op'] [b,c]=false:=by with_unfolding_all rfl):Snd X Y (.Compare a [op,op'] [b,c] pos) (chE g g' fa fb fc):= .mk λρ=>
 PE.imp (qW ho ho' (ha ρ) (hb ρ) (hc ρ) hm) λσ H Q ⟨B,I,q⟩=>step I q λt v H1 _ s1 r1 I1 q1=>step I1 q1 λt' v' H2 _ s2 r2 I2 q2=>by
  cases e:g t t' with
  | bad=>rw[e]at q2;exact q2.elim
  | ex c=>exact absurd e (nx _ _ _)
  | ok k=>
   rw[e]at q2;refine⟨t,t',k,r1.mono s2,r2,e,k,rfl, ?_⟩;cases k with
   | false=>exact ZB I2 q2 (.bl _)
   | true=>
    refine step I2 q2 λt3 v3 H3 _ s3 r3 I3 q3=> ?_
    ·cases e:g' t' t3 with
     | bad=>rw[e]at q3;exact q3.elim
     | ex c=>exact absurd e (nx' _ _ _)
     | ok k=>rw[e]at q3;exact⟨t',t3,k,r2.mono s3,r3,e,ZB I3 q3 (.bl k)⟩
theorem VD {op op' :CmpOp}{g g' :T->T->R Bool}(nx:Nx g)(nx' :Nx g')(ho:OpR X (compareOp op) (wc g))(ho' :OpR X (compareOp op') (wc g'))(ha:jb X Y a fa)(hb:jb X Y b fb)(hc:jb X Y c fc)
  (hm:lastMarks [op,op'] [b,c]=false:=by with_unfolding_all rfl):Wx X Y (.Compare a [op,op'] [b,c] pos) (chT g g' fa fb fc):= .mk λρ=>
 PT.imp (qX ho ho' (ha ρ) (hb ρ) (hc ρ) hm) λσ H Q ⟨B,I,q⟩=>step I q λt v H1 _ s1 r1 I1 q1=>step I1 q1 λt' v' H2 _ s2 r2 I2 q2=>by
  cases e:g t t' with
  | bad=>rw[e]at q2;exact q2.elim
  | ex c=>exact absurd e (nx _ _ _)
  | ok k=>
   rw[e]at q2;refine⟨t,t',k,r1.mono s2,r2,e,k,rfl, ?_⟩;cases k with
   | false=>exact⟨false,rfl,ZB I2 q2 rfl⟩
   | true=>
    refine step I2 q2 λt3 v3 H3 _ s3 r3 I3 q3=> ?_
    ·cases e:g' t' t3 with
     | bad=>rw[e]at q3;exact q3.elim
     | ex c=>exact absurd e (nx' _ _ _)
     | ok k=>rw[e]at q3;exact⟨t',t3,k,r2.mono s3,r3,e,k,rfl,ZB I3 q3 rfl⟩
noncomputable def VE (r r' r'' :R2)(ta tb tc td:TE):TE:=λσ H Q=>ta σ H λx H1=>tb σ H1 λy H2=>r x y H2 λz H3=>∃k,z= .bl k/\
 (if k=true then tc σ H3 λw' H4=>r' y w' H4 λz' H5=>∃k',z' = .bl k' /\(if k' =true then td σ H5 λw2 H6=>r'' w' w2 H6 Q else Q (.bl false) H5) else Q (.bl false) H3)
theorem yx {op op' op'' :CmpOp}{r r' r'' :R2}{ta tb tc td:TE}(ho:OpR X (compareOp op) r)(ho' :OpR X (compareOp op') r')(ho'' :OpR X (compareOp op'') r'')(ha:PE X a ta)(hb:PE X b tb)(hc:PE X c tc)(hd:PE X d td)
  (hm:lastMarks [op,op',op''] [b,c,d]=false:=by with_unfolding_all rfl):PE X (.Compare a [op,op',op''] [b,c,d] pos) (VE r r' r'' ta tb tc td):=by
 intro pins s σ H Q I h;refine Compare_chain (thn (ha _ s σ H _ I h) λv s1 ⟨x,H1,I1,r1,q1⟩=>chain_link (thn (hb _ s1 σ H1 _ I1 q1) λu s2 ⟨y,H2,I2,r2,q2⟩=>
  thn (ho _ s2 σ H2 x y v u _ I2 r1 r2 q2) λd' s3 ⟨z,H3,I3,r3,k,e,q3⟩=> ?_)) hm
 subst e;cases r3;refine aS ?_;cases k with
 | false=>exact ite_ff ⟨.bl _,H3,I3,rfl,q3⟩
 | true=>
  refine ite_tt (chain_link (thn (hc _ s3 σ H3 _ I3 q3) λw' s4 ⟨z',H4,I4,r4,q4⟩=>thn (ho' _ s4 σ H4 y z' u w' _ I4 r2 r4 q4) λd2 s5 ⟨z5,H5,I5,r5,k5,e5,q5⟩=> ?_));subst e5;cases r5;refine aS ?_;cases k5 with
  | false=>exact ite_ff ⟨.bl _,H5,I5,rfl,q5⟩
  | true=>exact ite_tt (chain_last (thn (hd _ s5 σ H5 _ I5 q5) λw6 s6 ⟨z6,H6,I6,r6,q6⟩=>ho'' _ s6 σ H6 z' z6 w' w6 Q I6 r4 r6 q6))
noncomputable def ch3E (g g' g'' :T->T->R Bool)(fa fb fc fd:En->R T):En->R T:=λρ=>(fa ρ).bind λx=>(fb ρ).bind λy=>(g x y).bind λk=>if k=true then (fc ρ).bind λz=>(g' y z).bind λk' =>
 if k' =true then (fd ρ).bind λw=>(g'' z w).bind λk'' => .ok (.bl k'') else .ok (.bl false) else .ok (.bl false)
theorem Q9 {op op' op'' :CmpOp}{g g' g'' :T->T->R Bool}(nx:Nx g)(nx' :Nx g')(nx'' :Nx g'')(ho:OpR X (compareOp op) (wc g))(ho' :OpR X (compareOp op') (wc g'))(ho'' :OpR X (compareOp op'') (wc g''))
  (ha:jb X Y a fa) (hb:jb X Y b fb) (hc:jb X Y c fc) (hd:jb X Y d fd)
  (hm:lastMarks [op,op',op''] [b,c,d]=false:=by with_unfolding_all rfl):Snd X Y (.Compare a [op,op',op''] [b,c,d] pos) (ch3E g g' g'' fa fb fc fd):= .mk λρ=>
 PE.imp (yx ho ho' ho'' (ha ρ) (hb ρ) (hc ρ) (hd ρ) hm) λσ H Q ⟨B,I,q⟩=>step I q λt v H1 _ s1 r1 I1 q1=>step I1 q1 λt' v' H2 _ s2 r2 I2 q2=>by
  cases e:g t t' with
  | bad=>rw[e]at q2;exact q2.elim
  | ex c=>exact absurd e (nx _ _ _)
  | ok k=>
   rw[e]at q2;refine⟨t,t',k,r1.mono s2,r2,e,k,rfl, ?_⟩;cases k with
   | false=>exact ZB I2 q2 (.bl _)
   | true=>
    refine step I2 q2 λt3 v3 H3 _ s3 r3 I3 q3=> ?_
    ·cases e:g' t' t3 with
     | bad=>rw[e]at q3;exact q3.elim
     | ex c=>exact absurd e (nx' _ _ _)
     | ok k=>
      rw[e]at q3;refine⟨t',t3,k,r2.mono s3,r3,e,k,rfl, ?_⟩;cases k with
      | false=>exact ZB I3 q3 (.bl _)
      | true=>
       refine step I3 q3 λt4 v4 H4 _ s4 r4 I4 q4=> ?_
       ·cases e:g'' t3 t4 with
        | bad=>rw[e]at q4;exact q4.elim
        | ex c=>exact absurd e (nx'' _ _ _)
        | ok k=>rw[e]at q4;exact⟨t3,t4,k,r3.mono s4,r4,e,ZB I4 q4 (.bl k)⟩
variable {rest:List Expr}{ga gb:En->R Bool}
noncomputable def ZS (fa fb:En->R T):En->R T:=λρ=>(fa ρ).bind λx=>match x with
 | .bl true=>fb ρ
 | .bl false=> .ok (.bl false)
 | _=> .bad
noncomputable def orE (fa fb:En->R T):En->R T:=λρ=>(fa ρ).bind λx=>match x with
 | .bl true=> .ok (.bl true)
 | .bl false=>fb ρ
 | _=> .bad
noncomputable def qI (fa:En->R T):En->R T:=λρ=>(fa ρ).bind λx=>match x with
 | .bl k=> .ok (.bl (!k))
 | _=> .bad
theorem GM {op}(h:Snd X Y a fa):Snd X Y (.BoolOp op [a] pos) fa:= .mk λρ=>Xp (h ρ)
theorem GN (ha:Snd X Y a fa)(hb:Snd X Y (.BoolOp .And (b :: rest) pos) fb):Snd X Y (.BoolOp .And (a :: b :: rest) pos) (ZS fa fb):= .mk λρ=>
 PE.imp (Xq (ha ρ) (hb ρ)) λσ H Q ⟨B,I,q⟩=>step I q λt v H1 _ s1 r1 I1 q1=>by
  cases r1 with
  | bl k=>
   refine⟨k,rfl, ?_⟩;cases k with
   | true=>exact⟨_,I1,q1⟩
   | false=>exact ZB I1 q1 (.bl _)
  | _=>exact q1.elim
theorem s_or (ha:Snd X Y a fa)(hb:Snd X Y (.BoolOp .Or (b :: rest) pos) fb):Snd X Y (.BoolOp .Or (a :: b :: rest) pos) (orE fa fb):= .mk λρ=>
 PE.imp (Ga (ha ρ) (hb ρ)) λσ H Q ⟨B,I,q⟩=>step I q λt v H1 _ s1 r1 I1 q1=>by
  cases r1 with
  | bl k=>
   refine⟨k,rfl, ?_⟩;cases k with
   | false=>exact⟨_,I1,q1⟩
   | true=>exact ZB I1 q1 (.bl _)
  | _=>exact q1.elim
theorem GO (ha:Snd X Y a fa):Snd X Y (.UnaryOp .Not a pos) (qI fa):= .mk λρ=>
 PE.imp (Xr (ha ρ)) λσ H Q ⟨B,I,q⟩=>step I q λt v H1 _ s1 r1 I1 q1=>by
  cases r1 with
  | bl k=>exact⟨k,rfl,ZB I1 q1 (.bl _)⟩
  | _=>exact q1.elim
structure UP (X:Cx) (Y:Fx) (e:Expr) (f:En->R Bool):Prop where
 mk ::
 go:∀ρ,PW X e (tS Y rE f ρ)
noncomputable instance {X:Cx}{Y:Fx}{e:Expr}{f:En->R Bool}:CoeFun (UP X Y e f) λ_=>∀ρ,PW X e (tS Y rE f ρ):=⟨UP.go⟩
theorem UP.t {e:Expr}{f:En->R Bool}(h:UP X Y e f):Wx X Y e f:= .mk λρ=>(h ρ).pt
theorem PW.imp {e:Expr}{t t' :TT}(h:PW X e t)(i:∀σ H Q,t' σ H Q->t σ H Q):PW X e t' :=λwh pins s σ H Q I q=>h wh _ s σ H Q I (i σ H Q q)
noncomputable def Wy (fa fb:En->R Bool):En->R Bool:=λρ=>(fa ρ).bind λx=>if x=true then fb ρ else .ok false
noncomputable def orT (fa fb:En->R Bool):En->R Bool:=λρ=>(fa ρ).bind λx=>if x=true then .ok true else fb ρ
noncomputable def Jj (fa:En->R Bool):En->R Bool:=λρ=>(fa ρ).bind λx=> .ok (!x)
theorem kb (h:Wx X Y a ga):UP X Y (.BoolOp .And [a] pos) ga:= .mk λρ=>Vc (h ρ)
theorem GP (h:Wx X Y a ga):UP X Y (.BoolOp .Or [a] pos) ga:= .mk λρ=>Xm (h ρ)
theorem GQ (ha:Wx X Y a ga)(hb:UP X Y (.BoolOp .And (b :: rest) pos) gb):UP X Y (.BoolOp .And (a :: b :: rest) pos) (Wy ga gb):= .mk λρ=>
 PW.imp (Xn (ha ρ) (hb ρ)) λσ H Q ⟨B,I,q⟩=>step I q λt v H1 _ s1 r1 I1 q1=>by
  have r1' :=r1;subst r1';cases v with
  | true=>exact⟨_,I1,q1⟩
  | false=>exact ZB I1 q1 rfl
theorem w_or (ha:Wx X Y a ga)(hb:UP X Y (.BoolOp .Or (b :: rest) pos) gb):UP X Y (.BoolOp .Or (a :: b :: rest) pos) (orT ga gb):= .mk λρ=>
 PW.imp (G7 (ha ρ) (hb ρ)) λσ H Q ⟨B,I,q⟩=>step I q λt v H1 _ s1 r1 I1 q1=>by
  have r1' :=r1;subst r1';cases v with
  | false=>exact⟨_,I1,q1⟩
  | true=>exact ZB I1 q1 rfl
theorem GR (ha:Wx X Y a ga):Wx X Y (.UnaryOp .Not a pos) (Jj ga):= .mk λρ=>
 PT.imp (Xo (ha ρ)) λσ H Q ⟨B,I,q⟩=>step I q λt v H1 _ s1 r1 I1 q1=>by
  have r1' :=r1;subst r1';exact ZB I1 q1 rfl
noncomputable def tru:T->R Bool
 | .bl k=> .ok k
 | .non=> .ok false
 | .int i=> .ok (i != 0)
 | .tup xs=> .ok (!xs.isEmpty)
 | .lst xs=> .ok (!xs.isEmpty)
 | _=> .bad
noncomputable def ZJ (fa:En->R T):En->R Bool:=λρ=>(fa ρ).bind tru
theorem isE {H:Hp}{xs:List V}{ts:List T}(r:zD H xs ts):(!xs.isEmpty)= !ts.isEmpty:=by cases r <;> rfl
theorem GS (ha:jb X Y a fa)(he:∀whole,isTrue a X.env whole=(do let v ← whole;standAt a.pos;holding [v] (truthy v)):=by intro _;rfl):Wx X Y a (ZJ fa):= .mk λρ=>
 PT.imp (qY (ha ρ) he) λσ H Q ⟨B,I,q⟩=>step I q λt v H1 _ s1 r1 I1 q1=>by
  cases r1 with
  | bl k=>exact⟨k,rfl,ZB I1 q1 rfl⟩
  | non=>exact⟨false,rfl,ZB I1 q1 rfl⟩
  | int i=>exact⟨_,rfl,ZB I1 q1 rfl⟩
  | tup h r=>exact⟨_,.inr (.inl ⟨_,SqT.of h,rfl⟩),ZB I1 q1 (isE r)⟩
  | lst h r=>exact⟨_,.inl ⟨_,SqL.of h,rfl⟩,ZB I1 q1 (isE r)⟩
  | _=>exact q1.elim
noncomputable def ifE (g:En->R Bool)(fa fb:En->R T):En->R T:=λρ=>(g ρ).bind λk=>if k=true then fa ρ else fb ρ
theorem s_if (hc:Wx X Y c ga)(ha:Snd X Y a fa)(hb:Snd X Y b fb):Snd X Y (.IfExp c a b pos) (ifE ga fa fb):= .mk λρ=>
 PE.imp (qS (hc ρ) (ha ρ) (hb ρ)) λσ H Q ⟨B,I,q⟩=>step I q λt v H1 _ s1 r1 I1 q1=>by
  have r1' :=r1;subst r1';cases v with
  | true=>exact⟨_,I1,q1⟩
  | false=>exact⟨_,I1,q1⟩
end
end PV
namespace PV
open PySem PySem.Spec PyProof.Rows L2
section
variable {X:Cx}{Y:Fx}{a b c d:Expr}{fa fb fc fd:En->R T}{pos p:Pos}
noncomputable def ap1 (g:T->R T)(fa:En->R T):En->R T:=λρ=>(fa ρ).bind g
noncomputable abbrev St1 (X:Cx)(a:Expr):Prop:=starEach [a] X.env=[(false,eval a X.env)]
theorem Ja {id:String}{x:Str}{r:List V->Hp->VK->Prop}{g:T->R T}(hc:Zo X (.builtin id) r)(hr:∀v t B H Q,Rep H v t->zm B H->Po Y rC B H (g t) Q->r [v] H Q)
  (gl:Gl X x) (mg:X.mg x=none) (bt:bootBuiltins x=some (.builtin id)) (ha:jb X Y a fa) (hs:St1 X a:=by exact st1 rfl) (hn:x ≠ "__name__":=by decide) (hd:(x == ("__debug__":Str))=false:=by decide):Snd X Y (.Call (.Name x p) [a] [] pos) (ap1 g fa):= .mk λρ=>
 PE.imp (jw hc gl mg bt (zy (ha ρ) zX hs) hn hd hs rfl) λσ H Q ⟨B,I,q⟩=>step I q λt v H1 _ s1 r1 I1 q1=>hr v t _ H1 Q r1 I1.sB q1
theorem vv {id:String}{x:Str}{r:List V->Hp->VK->Prop}{g:T->R T}(hc:Zo X (.type id) r)(hr:∀v t B H Q,Rep B v t->zm B H->Po Y rC B H (g t) Q->r [v] H Q)
  (gl:Gl X x) (mg:X.mg x=none) (bt:bootBuiltins x=some (.type id)) (ha:Snd X Y a fa) (hs:St1 X a:=by exact st1 rfl) (hn:x ≠ "__name__":=by decide) (hd:(x == ("__debug__":Str))=false:=by decide):Snd X Y (.Call (.Name x p) [a] [] pos) (ap1 g fa):= .mk λρ=>
 PE.imp (jx hc gl mg bt (zy (ha ρ) zX hs) hn hd hs rfl) λσ H Q ⟨B,I,q⟩=>step I q λt v H1 _ s1 r1 I1 q1=>hr v t _ H1 Q r1 I1.sB q1
noncomputable def zY:T->R T
 | .tup xs=> .ok (.int xs.length)
 | .lst xs=> .ok (.int xs.length)
 | .fz xs=> .ok (.int xs.length)
 | .str x=>if x.length<=bnd then .ok (.int x.length) else .bad
 | _=> .bad
theorem GT (v:V)(t:T)(B H:Hp)(Q:VK)(r:Rep H v t)(sB:zm B H)(q:Po Y rC B H (zY t) Q):
  (∃p ys,[v]=[V.ref p]/\(SqL X.K H p ys\/SqT X.K H p ys)/\Q (V.int ys.length) H)\/(∃z,[v]=[V.str z]/\z.length<=sizeLine/\Q (V.int z.length) H):=by
 cases r with
 | tup h r=>exact .inl ⟨_,_,rfl,.inr (SqT.of h),po0 sB q rfl (by rw[r.length];exact .int _)⟩
 | lst h r=>exact .inl ⟨_,_,rfl,.inl (SqL.of h),po0 sB q rfl (by rw[r.length];exact .int _)⟩
 | fz h r=>exact .inl ⟨_,_,rfl,.inl (.inl (.inr ⟨_,h⟩)),po0 sB q rfl (by rw[r.length];exact .int _)⟩
 | str x=>
  by_cases hb:x.length<=bnd
  ·exact .inr ⟨x,rfl,ZC hb,po0 sB q (if_pos hb) (.int _)⟩
  ·rw[show zY (.str x)= .bad from if_neg hb]at q;exact q.elim
 | _=>exact q.elim
theorem GU (gl:Gl X "len")(mg:X.mg "len"=none)(ha:jb X Y a fa)(hs:St1 X a:=by exact st1 rfl):Snd X Y (.Call (.Name "len" p) [a] [] pos) (ap1 zY fa):=
 Ja (Wt.or Wu) GT gl mg PySem.boot_len ha hs
noncomputable def X5:T->R T
 | .tup xs=> .ok (.tup xs)
 | .lst xs=> .ok (.tup xs)
 | _=> .bad
theorem GV (v:V)(t:T)(B H:Hp)(Q:VK)(r:Rep B v t)(sB:zm B H)(q:Po Y rC B H (X5 t) Q):
  ∃p ys,[v]=[V.ref p]/\((SqL X.K H p ys/\∀l,H l=none->Q (.ref l) (upd H l (.tup ys)))\/(SqT X.K H p ys/\Q (.ref p) H)):=by
 cases r with
 | tup h r=>exact⟨_,_,rfl,.inr ⟨SqT.of (sB _ _ h),po0 sB q rfl (.tup h r)⟩⟩
 | lst h r=>exact⟨_,_,rfl,.inl ⟨SqL.of (sB _ _ h),λl hl=>XX sB q rfl r hl⟩⟩
 | _=>exact q.elim
theorem VF (gl:Gl X "tuple")(mg:X.mg "tuple"=none)(ha:Snd X Y a fa)(hs:St1 X a:=by exact st1 rfl):Snd X Y (.Call (.Name "tuple" p) [a] [] pos) (ap1 X5 fa):=
 vv wK GV gl mg (PyProof.Rows.Boot.«tuple») ha hs
noncomputable def tyN:T->String
 | .non=>"NoneType"
 | .bl _=>"bool"
 | .int _=>"int"
 | .str _=>"str"
 | .tup _=>"tuple"
 | .lst _=>"list"
 | .fz _=>"list"
noncomputable def isT (n:String)(t:T):Bool:=tyN t == n || (n == "int" && tyN t == "bool")
theorem GW {H:Hp}{v:V}{t:T}(K:ae)(r:Rep H v t):Up K H v (.type (tyN t)):=by
 cases r with
 | non=>exact .non
 | bl b=>exact .bl b
 | int b=>exact .int b
 | str b=>exact .str b
 | tup h _=>exact .tup h
 | lst h _=>exact .lst h
 | fz h _=>exact .frz h
theorem Qa:Zo X (.builtin "isinstance") (λxs H Q=>∃v n t,xs=[v,.ty n]/\Rep H v t/\cg X.K (.type (tyN t)) (.type n)=some (isT n t)/\Q (.bl (isT n t)) H):=by
 intro pins s σ H xs us Q I rv h;obtain⟨v,n,t,rfl,r,hk,q⟩:=h;obtain⟨u,w,rfl,ru,rw'⟩:=y8 rv;obtain rfl:w=Value.type n:=rw';exact yd I ru (GW X.K r) hk λtk=>⟨.bl _,H,I.tok tk,rfl,q⟩
noncomputable def wO (n:String)(t:T):R T:= .ok (.bl (isT n t))
theorem VG (K:ae)(t:T):cg K (.type (tyN t)) (.type "int")=some (isT "int" t):=by cases t <;> rfl
theorem Qb (K:ae)(t:T):cg K (.type (tyN t)) (.type "bool")=some (isT "bool" t):=by cases t <;> rfl
theorem VH (K:ae)(t:T):cg K (.type (tyN t)) (.type "str")=some (isT "str" t):=by cases t <;> rfl
theorem yy (K:ae)(t:T):cg K (.type (tyN t)) (.type "tuple")=some (isT "tuple" t):=by cases t <;> rfl
theorem Qc {n:String}{p' :Pos}(hk:∀t,cg X.K (.type (tyN t)) (.type n)=some (isT n t))(gl:Gl X "isinstance")(mg:X.mg "isinstance"=none)(gl' :Gl X (bf n))(mg' :X.mg (bf n)=none)(bt:bootBuiltins (bf n)=some (.type n))(ha:jb X Y a fa)
  (hs:starEach [a,.Name (bf n) p'] X.env=[(false,eval a X.env),(false,eval (.Name (bf n) p') X.env)]:=by exact st2 rfl rfl) (hs2:starEach [.Name (bf n) p'] X.env=[(false,eval (.Name (bf n) p') X.env)]:=by exact st1 rfl)
  (hn:bf n ≠ "__name__":=by decide) (hd:(bf n == ("__debug__":Str))=false:=by decide) (hz:((backTo pos (starEach [.Name (bf n) p'] X.env)).any λx=>x.fst)=false:=by exact ja rfl):
  Snd X Y (.Call (.Name "isinstance" p) [a,.Name (bf n) p'] [] pos) (ap1 (wO n) fa):= .mk λρ=>
 PE.imp (jw Qa gl mg PyProof.Rows.Boot.«isinstance» (zy (ha ρ) (zy (Vb (v:= .ty n) gl' mg' bt rfl hn hd) zX hs2) (by rw[hs,hs2])) (by decide) (by decide) (by rw[hs,hs2]) hz) λσ H Q ⟨B,I,q⟩=>
  step I q λt v H1 _ s1 r1 I1 q1=>⟨v,n,t,rfl,r1,hk t,po0 I1.sB q1 rfl (.bl _)⟩
noncomputable def atT (xs:List T)(i:Int):R T:=match atI xs i with
 | some t=> .ok t
 | none=> .bad
noncomputable def ixT:T->T->R T
 | .tup xs,.int i=>atT xs i
 | .lst xs,.int i=>atT xs i
 | .fz xs,.int i=>atT xs i
 | .str z,.int i=>if z.length<=bnd then match atI z.cps.toList i with | some c=> .ok (.str ⟨#[c]⟩) | none=> .bad else .bad
 | _,_=> .bad
theorem yz {H:Hp}{xs:List V}{ts:List T}{i:Int}{t:T}(r:zD H xs ts)(h:atI ts i=some t):∃v,atI xs i=some v/\Rep H v t:=by
 unfold atI at h ⊢;rw[r.length];cases e:ixN _ i with
 | none=>rw[e]at h;cases h
 | some j=>
  rw[e]at h;obtain⟨v,h1,h2⟩:=r.get (h);exact⟨v,h1,h2⟩
theorem s_ix (ha:Snd X Y a fa)(hb:Snd X Y b fb)(hs:yi b:=by exact λ_ _=>rfl):Snd X Y (.Subscript a b pos) (zc ixT fa fb):= .mk λρ=>
 PE.imp (Gv XN (ha ρ) (hb ρ) hs) λσ H Q ⟨B,I,q⟩=>step I q λt v H1 _ s1 r1 I1 q1=>step I1 q1 λt' v' H2 _ s2 r2 I2 q2=>by
  have r1:=r1.mono (zO.ge I1.sB s2);cases r2 with
  | int i=>
   cases r1 with
   | @tup _ xs ts h r=>
    have q2:Po Y rC _ H2 (atT ts i) Q:=q2;unfold atT at q2;split at q2
    ·rename_i t' e;obtain⟨w,e1,e2⟩:=yz r e;exact .inr (.inl ⟨_,xs,i,w,rfl,rfl,SqT.of (I2.sB _ _ h),e1,po0 I2.sB q2 rfl e2⟩)
    ·exact q2.elim
   | @lst _ xs ts h r=>
    have q2:Po Y rC _ H2 (atT ts i) Q:=q2;unfold atT at q2;split at q2
    ·rename_i t' e;obtain⟨w,e1,e2⟩:=yz r e;exact .inl ⟨_,xs,i,w,rfl,rfl,SqL.of (I2.sB _ _ h),e1,po0 I2.sB q2 rfl e2⟩
    ·exact q2.elim
   | @fz _ _ xs ts h r=>
    have q2:Po Y rC _ H2 (atT ts i) Q:=q2;unfold atT at q2;split at q2
    ·rename_i t' e;obtain⟨w,e1,e2⟩:=yz r e;exact .inl ⟨_,xs,i,w,rfl,rfl,.inl (.inr ⟨_,I2.sB _ _ h⟩),e1,po0 I2.sB q2 rfl e2⟩
    ·exact q2.elim
   | str z=>
    have q2:Po Y rC _ H2 (if z.length<=bnd then match atI z.cps.toList i with | some c=> .ok _ | none=> .bad else .bad) Q:=q2
    split at q2
    ·rename_i hb;split at q2
     ·rename_i c e;exact .inr (.inr ⟨z,i,c,rfl,rfl,ZC hb,e,po0 I2.sB q2 rfl (.str _)⟩)
     ·exact q2.elim
    ·exact q2.elim
   | _=>exact q2.elim
  | _=>cases r1 <;> exact q2.elim
structure VI (X:Cx) (Y:Fx) (e:Option Expr) (f:En->R (Option Int)):Prop where
 mk ::
 go:∀ρ,PO X e (tS Y rE f ρ)
noncomputable instance {X:Cx}{Y:Fx}{e:Option Expr}{f:En->R (Option Int)}:CoeFun (VI X Y e f) λ_=>∀ρ,PO X e (tS Y rE f ρ):=⟨VI.go⟩
noncomputable def noO:En->R (Option Int):=λ_=> .ok none
noncomputable def jT (fa:En->R T):En->R (Option Int):=λρ=>(fa ρ).bind λt=>match t with
 | .int i=> .ok (some i)
 | _=> .bad
theorem PO.imp {e:Option Expr}{t t' :TO}(h:PO X e t)(i:∀σ H Q,t' σ H Q->t σ H Q):PO X e t' :=λpins s σ H Q I q=>h _ s σ H Q I (i σ H Q q)
theorem kd:VI X Y none noO:= .mk λρ=>PO.imp Vl λσ H Q ⟨B,I,q⟩=>ZB I q rfl
theorem ke (ha:Snd X Y a fa):VI X Y (some a) (jT fa):= .mk λρ=>PO.imp (Vm (ha ρ)) λσ H Q ⟨B,I,q⟩=>step I q λt v H1 _ s1 r1 I1 q1=>by
 cases r1 with
 | int i=>exact⟨i,rfl,ZB I1 q1 rfl⟩
 | _=>exact q1.elim
noncomputable def cut (xs:List T)(lo hi:Option Int):List T:=(xs.drop (HT.sIx xs.length 0 lo)).take (HT.sIx xs.length xs.length hi - HT.sIx xs.length 0 lo)
noncomputable def slT (t:T)(lo hi:Option Int):R T:=match t with
 | .tup xs=> .ok (.tup (cut xs lo hi))
 | .lst xs=> .ok (.lst (cut xs lo hi))
 | _=> .bad
noncomputable def slE (fa:En->R T)(fl fh:En->R (Option Int)):En->R T:=λρ=>(fa ρ).bind λt=>(fl ρ).bind λlo=>(fh ρ).bind λhi=>slT t lo hi
theorem yA {H:Hp}{xs:List V}{ts:List T}{lo hi:Option Int}(r:zD H xs ts):zD H (X4 xs lo hi) (cut ts lo hi):=by
 unfold X4 cut;rw[r.length];exact(r.drop _).take _
theorem jU {prog:Program}{w:World}{A:Around}{E:Value->Shared->Prop}{s:Shared}{t sl:Addr}{items:Array Value}{vl vu:Value}{lo hi:Option Int}{Q:Value->Shared->Prop}(ht:IsTup s.heap t items)(hs:s.heap.IsSliceOf sl vl vu .none)(pl:IsPart vl lo)(pu:IsPart vu hi)
  (hw:HT.sIx items.size 0 lo=0/\HT.sIx items.size items.size hi=items.size) (h:Q (.ref t) s):wpAny (model prog w) A (getItem (.ref t) (.ref sl)) Q E s:=by
 obtain⟨os,hos,hcs,hds⟩:=id hs;have hTs:s.TypeIs (.ref sl) _:=⟨os,hos,hcs⟩;unfold getItem
 try with_reducible refine bQ ?_
 refine a7 (wpAny_sequenceKey ht.typeIs (by decide) ?_)
 refine a7 (bg ht.typeIs aY
  (bF aY ht.typeIs entry_tuple_getitem ?_ (args_tuple_getitem _ _)))
 show wpAny _ _ (dJ _ >>= _) _ _ s;refine a7 (tupleItemsOf_ ht ?_);refine a7 (wpAny_typeOf hTs ?_);refine a7 (HT.sliceApplied_gen hs pl pu ?_);have hyes:(((HT.sIx items.size 0 lo):Int) == 0 && (1:Int) == 1 && (HT.sIx items.size items.size hi - HT.sIx items.size 0 lo) == items.size)=true:=by
  rw[hw.1,hw.2];simp
 show wpAny _ _ (if (((HT.sIx _ 0 lo:Nat):Int) == 0 && (1) == 1 && (HT.sIx _ _ hi - HT.sIx _ 0 lo) == items.size)=true then _ else _) _ _ s
 rw[if_pos hyes];refine a7 (a7 (wpAny_typeOf ht.typeIs (am ?_)));exact a7 (dw (am ⟨_,rfl,am h⟩))
theorem Uw:SlR X (λx lo hi H Q=>∃a xs,x= .ref a/\SqT X.K H a xs/\(HT.sIx xs.length 0 lo=0/\HT.sIx xs.length xs.length hi=xs.length)/\Q (.ref a) H):=by
 intro pins s σ H x v vl vu lo hi sl Q I rx hs pl pu h;obtain⟨a,xs,rfl,hx,hw,q⟩:=h;obtain rfl:v=Value.ref a:=rx;obtain⟨its,r,ht,hz⟩:=I.tuple hx;have hlen:its.toArray.size=xs.length:=by exact r.length.symm
 refine⟨"tuple",_,aY.lookup,ht.typeIs, ?_⟩;exact jU ht hs pl pu (by rw[hlen];exact hw) ⟨.ref a,H,I,rfl,q⟩
theorem VJ {xs:List T}{lo hi:Option Int}(h1:HT.sIx xs.length 0 lo=0)(h2:HT.sIx xs.length xs.length hi=xs.length):cut xs lo hi=xs:=by
 unfold cut;rw[h1,h2];simp
theorem VL {lo hi:Option Expr}{fl fh:En->R (Option Int)}{p2:Pos}(ha:Snd X Y a fa)(hl:VI X Y lo fl)(hh:VI X Y hi fh):Snd X Y (.Subscript a (.Slice lo hi none p2) pos) (slE fa fl fh):= .mk λρ=>
 PE.imp (Q1 (XJ.or (Uw.or Vq)) (ha ρ) (hl ρ) (hh ρ)) λσ H Q ⟨B,I,q⟩=>step I q λt v H1 _ s1 r1 I1 q1=>step I1 q1 λl l' H2 _ s2 el I2 q2=>step I2 q2 λh h' H3 _ s3 eh I3 q3=>by
  have el' :=el;have eh' :=eh;subst el' eh';have r1:=r1.mono ((zO.ge I1.sB s2).trans (zO.ge I2.sB s3));cases r1 with
  | @tup _ xs ts hx r=>
   by_cases hw:HT.sIx xs.length 0 l' =0/\HT.sIx xs.length xs.length h' =xs.length
   ·refine .inr (.inl ⟨_,xs,rfl,SqT.of (I3.sB _ _ hx),hw,po0 I3.sB q3 rfl ?_⟩);rw[r.length]at hw;rw[VJ hw.1 hw.2];exact .tup hx r
   ·exact .inl ⟨_,xs,rfl,SqT.of (I3.sB _ _ hx),hw,λp hp=>XX I3.sB q3 rfl (yA r) hp⟩
  | @lst _ xs ts hx r=>
   exact .inr (.inr ⟨_,xs,rfl,SqL.of (I3.sB _ _ hx),λp hp=>GD I3.sB q3 rfl (yA r) hp⟩)
  | _=>exact q3.elim
noncomputable def jB (t t' :T):R T:=match t,t' with
 | .int i,.int j=> .ok (.int (if j < i then j else i))
 | _,_=> .bad
theorem kg (hc:X.calm=true)(gl:Gl X "min")(mg:X.mg "min"=none)(ha:Snd X Y a fa)(hb:Snd X Y b fb)
  (hs:starEach [a,b] X.env=[(false,eval a X.env),(false,eval b X.env)]:=by exact st2 rfl rfl) (hs2:starEach [b] X.env=[(false,eval b X.env)]:=by exact st1 rfl):
  Snd X Y (.Call (.Name "min" p) [a,b] [] pos) (zc jB fa fb):= .mk λρ=>
 PE.imp (jw (ya hc) gl mg PyProof.Rows.Boot.«min» (zy (ha ρ) (zy (hb ρ) zX hs2) (by rw[hs,hs2])) (by decide) (by decide) (by rw[hs,hs2]) (by rw[hs2];rfl)) λσ H Q ⟨B,I,q⟩=>
  step I q λt v H1 _ s1 r1 I1 q1=>step I1 q1 λt' v' H2 _ s2 r2 I2 q2=>by
   cases r1 with
   | int i=>
    cases r2 with
    | int j=>exact⟨i,j,rfl,po0 I2.sB q2 rfl (.int _)⟩
    | _=>exact q2.elim
   | _=>cases r2 <;> exact q2.elim
noncomputable def Wz:List T->Option Bool
 | []=>some true
 | .bl k :: r=>match Wz r with | some j=>some (k && j) | none=>none
 | _ :: _=>none
noncomputable def qJ:T->R T
 | .lst ts=>match Wz ts with | some k=> .ok (.bl k) | none=> .bad
 | _=> .bad
theorem yB:∀{H:Hp} {xs:List V} {ts:List T} {its:List Value} {k:Bool},zD H xs ts->zS xs its->Wz ts=some k->∃tr:Nat->Bool,(∀i v,its[i]? =some v->v=Value.bool (tr i))/\(aQ its.length).all tr=k
 | _,_,_,_,k,.nil,.nil,h=>by
  have h' :=h;cases h';exact⟨λ_=>true,λi v e=>by simp at e,rfl⟩
 | H,_,_,_,k,.cons r rs,.cons (b:=u) rv vs,h=>by
  cases r with
  | bl b=>
   unfold Wz at h;split at h
   ·rename_i j e;cases h;obtain⟨tr,h1,h2⟩:=yB rs vs e;obtain rfl:u=Value.bool b:=rv;refine⟨λi=>match i with | 0=>b | i+1=>tr i,λi v e=> ?_, ?_⟩
    ·cases i with
     | zero=>simp at e;exact e.symm
     | succ i=>exact h1 i v (by simpa using e)
    ·rw[ar,cz,bq,fW,← h2];rfl
   ·cases h
  | _=>cases h
theorem yC (hh:X.A.handled=none):Zo X (.builtin "all") (λvs H Q=>∃l xs ts k,vs=[.ref l]/\H l=some (.lst xs)/\zD H xs ts/\Wz ts=some k/\Q (.bl k) H):=by
 intro pins s σ H vs us Q I rv h;obtain⟨l,xs,ts,k,rfl,hl,r,hk,q⟩:=h;obtain⟨u,rfl,ru⟩:=Zx rv;obtain rfl:u=Value.ref l:=ru;obtain⟨its,rv,p,_⟩:=zJ I (.inl hl) r;obtain⟨tr,h1,h2⟩:=yB r rv hk;refine call_all_walk (b_ p ?_);have hlt:=I.hok.lt hl;have old:∀b o,s.heap.get? b=some o->(s.heap.push { cls:= .type "list_iterator",data:= .fields #[.ref l,.int 0 0] }).get? b=some o:=λb o e=>af _ e;refine⟨s.heap.objs.size,_,_,_,_,_,tr,rfl,dN (A:=X.A.in1) hh _ l (aC hlt) its.toArray, ?_, ?_,λh' tk hk' => ?_⟩
 ·refine⟨?_,p.at λo e=>old _ o e⟩;exact⟨_,ag _ rfl,rfl,rfl⟩
 ·intro i v s' Q' E' hi hq;rw[h1 i v (by simpa using hi)]
  exact aS hq
 ·rw[av,h2];refine⟨.bl k,H,I.kept (λb o e=>hk' b o ?_ (old b o e)),rfl,q⟩;simp;exact aC (ao e)
theorem GX (hh:X.A.handled=none)(gl:Gl X "all")(mg:X.mg "all"=none)(ha:jb X Y a fa)(hs:St1 X a:=by exact st1 rfl):Snd X Y (.Call (.Name "all" p) [a] [] pos) (ap1 qJ fa):=
 Ja (yC hh) (λv t B H Q r sB q=>by
  cases r with
  | @lst l xs ts h r=>
   have q:Po Y rC B H (match Wz ts with | some k=> .ok _ | none=> .bad) Q:=q
   split at q
   ·rename_i k e;exact⟨l,xs,ts,k,rfl,h,r,e,po0 sB q rfl (.bl k)⟩
   ·exact q.elim
  | _=>exact q.elim) gl mg PyProof.Rows.Boot.«all» ha hs
end
inductive RS where
 | nx (ρ:En) | rt (t:T) | bk (ρ:En) | ct (ρ:En) | ex (c:Nat) | bad | rf (ts:List T)
noncomputable def R.s {α:Type}(r:R α)(k:α->RS):RS:=match r with
 | .ok a=>k a
 | .ex c=> .ex c
 | .bad=> .bad
noncomputable def PoS (Y:Fx)(B:Hp)(r:RS)(D:vg):Prop:=match r with
 | .nx ρ' =>∀σ' H' B',zm B B' ->SI Y B' ρ' σ' H' ->D.nx σ' H'
 | .rt t=>∀v H',zm Y.H0 H' ->Rep (zO Y.B0 Y.H0 H') v t->D.rt v H'
 | .bk ρ' =>∀σ' H' B',zm B B' ->SI Y B' ρ' σ' H' ->D.bk σ' H'
 | .ct ρ' =>∀σ' H' B',zm B B' ->SI Y B' ρ' σ' H' ->D.ct σ' H'
 | .ex c=>XP Y B c
 | .bad=>False
 | .rf ts=>∀a xs H' B',zm Y.H0 H' ->Y.H0 a=none->H' a=some (.lst xs)->zD B' xs ts->B' a=none->zm B' (zO Y.B0 Y.H0 H')->D.rt (.ref a) H'
theorem PoS.up {Y:Fx}{B B' :Hp}{r:RS}{D:vg}(s:zm B B')(h:PoS Y B r D):PoS Y B' r D:=by
 cases r with
 | nx ρ=>exact λσ' H' B2 s2 I=>h σ' H' B2 (s.trans s2) I
 | bk ρ=>exact λσ' H' B2 s2 I=>h σ' H' B2 (s.trans s2) I
 | ct ρ=>exact λσ' H' B2 s2 I=>h σ' H' B2 (s.trans s2) I
 | rt t=>exact h
 | rf t=>exact h
 | ex c=>exact λd H' s0 sB=>h d H' s0 (s.trans sB)
 | bad=>exact h
noncomputable def tSS (Y:Fx)(f:En->RS)(ρ:En):TS:=λD σ H=>∃B,SI Y B ρ σ H/\PoS Y B (f ρ) D
structure wm (X:Cx) (Y:Fx) (e:Stmt) (f:En->RS):Prop where
 mk ::
 go:∀ρ,PS X e (tSS Y f ρ)
noncomputable instance {X:Cx}{Y:Fx}{e:Stmt}{f:En->RS}:CoeFun (wm X Y e f) λ_=>∀ρ,PS X e (tSS Y f ρ):=⟨wm.go⟩
structure WA (X:Cx) (Y:Fx) (e:List Stmt) (f:En->RS):Prop where
 mk ::
 go:∀ρ,PSs X e (tSS Y f ρ)
noncomputable instance {X:Cx}{Y:Fx}{e:List Stmt}{f:En->RS}:CoeFun (WA X Y e f) λ_=>∀ρ,PSs X e (tSS Y f ρ):=⟨WA.go⟩
theorem Jk {α β:Type}{Y:Fx}{rel:Hp->Hp->β->α->Prop}{f:En->R α}{k:α->RS}{ρ:En}{B:Hp}{σ:Sg}{H:Hp}{D:vg}{K:β->Hp->Prop}
  (I:SI Y B ρ σ H) (h:PoS Y B ((f ρ).s k) D)
  (n:∀a b H1,f ρ= .ok a->zm H H1->rel (zO B H H1) H1 b a->SI Y (zO B H H1) ρ σ H1->PoS Y (zO B H H1) (k a) D->K b H1):tS Y rel f ρ σ H K:=by
 refine⟨B,I, ?_⟩;cases e:f ρ with
 | bad=>rw[e]at h;exact h
 | ex c=>rw[e]at h;exact h
 | ok a=>
  rw[e]at h;exact λb H1 s r=>n a b H1 e s r (I.grow s) (PoS.up (zO.ge I.sB s) h)
theorem zB {α:Type}{xs:List α}{i j:Nat}{x y:α}(h:(xs.set i x)[j]? =some y):(j=i/\y=x)\/(j ≠ i/\xs[j]? =some y):=by
 by_cases e:j=i
 ·subst e
  by_cases hl:j < xs.length
  ·rw[bb hl]at h;exact .inl ⟨rfl,(aD h).symm⟩
  ·rw[aU (by rw[bw];omega)]at h;cases h
 ·rw[aE (bv e)]at h;exact .inr ⟨e,h⟩
theorem uD {α:Type}{xs:List α}{i:Nat}{x y:α}(h:(xs.set i x)[i]? =some y):i < xs.length:=by
 by_cases hl:i < xs.length
 ·exact hl
 ·rw[aU (by rw[bw];omega)]at h;cases h
theorem StI.set {Y:Fx}{B:Hp}{ρ:En}{σ:Sg}{H:Hp}{as:List Addr}{O:Addr->Option (Nat×Nat)}(x:StI Y B ρ σ H as O)(i:Nat)(s:Sl)(v:Option V)(h1:s.isO=false)(h3:∀ts,s ≠ .ow ts):StI Y B (ρ.set i s) (σ.set i v) H as O:=
 x.on (λj y hy h=>by
  rcases zB h with ⟨_,e⟩ | ⟨hj,h'⟩
  ·rw[e,h1]at hy;cases hy
  ·exact⟨h',aE (bv hj)⟩) (zm.refl _) rfl rfl (zm.refl _) λb o hb b0 h0 _=>⟨hb,b0,h0,λok j us h=>by
  rcases zB h with ⟨_,e⟩ | ⟨hj,h'⟩
  ·exact absurd e.symm (h3 us)
  ·rw[aE (bv hj)];exact ok j us h'⟩
theorem SI.setV {Y:Fx}{B:Hp}{ρ:En}{σ:Sg}{H:Hp}(I:SI Y B ρ σ H)(i:Nat){v:V}{t:T}(r:Rep B v t):SI Y B (ρ.set i (.vl t)) (σ.set i (some v)) H where
 s0:=I.s0
 sH:=I.sH
 sB:=I.sB
 old:=I.old
 len:=by rw[bw,bw];exact I.len
 vl:=λj u h=>by
  rcases zB h with ⟨rfl,e⟩ | ⟨hj,h'⟩
  ·cases e;exact⟨v,bb (by rw[← I.len];exact uD h),r⟩
  ·obtain⟨w,e,rr⟩:=I.vl j u h';exact⟨w,by rw[aE (bv hj)];exact e,rr⟩
 ow:=λj us h=>by
  rcases zB h with ⟨rfl,e⟩ | ⟨hj,h'⟩
  ·cases e
  ·obtain⟨a,xs,e,b0,h0,hh,rr,d⟩:=I.ow j us h';refine⟨a,xs,by rw[aE (bv hj)];exact e,b0,h0,hh,rr,λk ws hk hw=> ?_⟩
   rcases zB hw with ⟨rfl,e'⟩ | ⟨hk',hw'⟩
   ·cases e'
   ·rw[aE (bv hk')];exact d k ws hk hw'
 xc:=λj c h=>by
  rcases zB h with ⟨rfl,e⟩ | ⟨hj,h'⟩
  ·cases e
  ·obtain⟨a,e,r⟩:=I.xc j c h';exact⟨a,by rw[aE (bv hj)];exact e,r⟩
 st:=let ⟨as,O,x⟩:=I.st;⟨as,O,x.set i _ _ rfl (λ_=>Sl.noConfusion)⟩
theorem SI.newO {Y:Fx}{B:Hp}{ρ:En}{σ:Sg}{H:Hp}(I:SI Y B ρ σ H)(i:Nat){p:Addr}{xs:List V}{ts:List T}(hp:H p=none)(r:zD B xs ts):SI Y B (ρ.set i (.ow ts)) (σ.set i (some (.ref p))) (upd H p (.lst xs)) where
 s0:=I.s0
 sH:=I.sH.trans (zm.new hp _)
 sB:=I.sB.trans (zm.new hp _)
 old:=I.old
 len:=by rw[bw,bw];exact I.len
 vl:=λj u h=>by
  rcases zB h with ⟨rfl,e⟩ | ⟨hj,h'⟩
  ·cases e
  ·obtain⟨w,e,rr⟩:=I.vl j u h';exact⟨w,by rw[aE (bv hj)];exact e,rr⟩
 ow:=λj us h=>by
  have op:∀k ws a,ρ[k]? =some (Sl.ow ws)->σ[k]? =some (some (V.ref a))->a ≠ p:=λk ws a h1 h2=>by
   obtain⟨a',xs',e,_,_,hh,_⟩:=I.ow k ws h1;rw[e]at h2;cases h2;exact zA hh hp
  rcases zB h with ⟨rfl,e⟩ | ⟨hj,h'⟩
  ·cases e;refine⟨p,xs,bb (by rw[← I.len];exact uD h),I.sB.free hp,I.sH.free hp,zE,r,λk ws hk hw=> ?_⟩
   rcases zB hw with ⟨rfl,e'⟩ | ⟨hk',hw'⟩
   ·exact absurd rfl hk
   ·rw[aE (bv hk')];exact λz=>op k ws p hw' z rfl
  ·obtain⟨a,xs',e,b0,h0,hh,rr,d⟩:=I.ow j us h';refine⟨a,xs',by rw[aE (bv hj)];exact e,b0,h0,by rw[zn (op j us a h' e)];exact hh,rr,λk ws hk hw=> ?_⟩
   rcases zB hw with ⟨rfl,e'⟩ | ⟨hk',hw'⟩
   ·rw[bb (by rw[← I.len];exact uD hw)]
    intro z;exact op j us a h' e (by injection z with z;injection z with z;injection z with z;exact z.symm)
   ·rw[aE (bv hk')];exact d k ws hk hw'
 xc:=λj c h=>by
  rcases zB h with ⟨rfl,e⟩ | ⟨hj,h'⟩
  ·cases e
  ·obtain⟨a,e,r⟩:=I.xc j c h';exact⟨a,by rw[aE (bv hj)];exact e,r⟩
 st:=by
  obtain⟨as,O,x⟩:=I.st;refine⟨as,O,x.on (λj y hy h=> ?_) (zm.refl _) rfl rfl (zm.refl _) λb o hb b0 h0 _=> ?_⟩
  ·rcases zB h with ⟨_,e⟩ | ⟨hj,h'⟩
   ·subst e;cases hy
   ·exact⟨h',aE (bv hj)⟩
  ·have hne:b ≠ p:=zA hb hp;refine⟨by rw[zn hne];exact hb,b0,h0,λok j us h=> ?_⟩
   rcases zB h with ⟨rfl,e⟩ | ⟨hj,h'⟩
   ·rw[bb (by rw[← I.len];exact uD h)]
    intro z;injection z with z;injection z with z;injection z with z;exact hne z.symm
   ·rw[aE (bv hj)];exact ok j us h'
theorem SI.chg {Y:Fx}{B:Hp}{ρ:En}{σ:Sg}{H:Hp}(I:SI Y B ρ σ H)(i:Nat){p:Addr}{ts us:List T}{ys:List V}(hi:ρ[i]? =some (.ow ts))(he:σ[i]? =some (some (.ref p)))(r:zD B ys us):SI Y B (ρ.set i (.ow us)) σ (upd H p (.lst ys)):=by
 obtain⟨p',xs,e,b0,h0,hh,rr,d⟩:=I.ow i ts hi;rw[he]at e;cases e;have nb:∀b o,B b=some o->b ≠ p:=λb o h z=>by subst z;rw[b0]at h;cases h
 have n0:∀b o,Y.H0 b=some o->b ≠ p:=λb o h z=>by subst z;rw[h0]at h;cases h
 refine⟨I.s0,λb o h=>by rw[zn (n0 b o h)];exact I.sH b o h,λb o h=>by rw[zn (nb b o h)];exact I.sB b o h,I.old,by rw[bw];exact I.len,λj u h=> ?_,λj ws h=> ?_,λj c h=> ?_, ?_⟩
 rotate_right
 ·obtain⟨as,O,x⟩:=I.st;refine⟨as,O,x.on (λj y hy h=> ?_) (zm.refl _) rfl rfl (zm.refl _) λb o hb b0' h0' cs=> ?_⟩
  ·rcases zB h with ⟨_,e⟩ | ⟨hj,h'⟩
   ·subst e;cases hy
   ·exact⟨h',rfl⟩
  ·have hne:b ≠ p:=λz=>by
    subst z;rcases cs with ⟨C,dx,vs,ez⟩ | ok
    ·rw[hh]at hb;cases hb;cases ez
    ·exact ok i ts hi he
   refine⟨by rw[zn hne];exact hb,b0',h0',λok j us h=> ?_⟩
   rcases zB h with ⟨rfl,e⟩ | ⟨hj,h'⟩
   ·rw[he];intro z;injection z with z;injection z with z;injection z with z;exact hne z.symm
   ·exact ok j us h'
 rotate_right
 ·rcases zB h with ⟨rfl,z⟩ | ⟨hj,h'⟩
  ·cases z
  ·exact I.xc j c h'
 ·rcases zB h with ⟨rfl,z⟩ | ⟨hj,h'⟩
  ·cases z
  ·exact I.vl j u h'
 ·rcases zB h with ⟨rfl,z⟩ | ⟨hj,h'⟩
  ·cases z;refine⟨p,ys,he,b0,h0,zE,r,λk vs hk hw=> ?_⟩;rcases zB hw with ⟨rfl,e'⟩ | ⟨hk',hw'⟩
   ·exact absurd rfl hk
   ·exact d k vs hk hw'
  ·obtain⟨a,xs',e,c0,g0,gg,ss,d'⟩:=I.ow j ws h';have hne:a ≠ p:=λz=>by subst z;exact d j ws hj h' e
   refine⟨a,xs',e,c0,g0,by rw[zn hne];exact gg,ss,λk vs hk hw=> ?_⟩
   rcases zB hw with ⟨rfl,e'⟩ | ⟨hk',hw'⟩
   ·rw[he];intro z;injection z with z;injection z with z;injection z with z;exact hne z.symm
   ·exact d' k vs hk hw'
noncomputable def GY:Sl->Sl
 | .ow ts=> .vl (.lst ts)
 | .ob _ _=> .un
 | .st _=> .un
 | x=>x
noncomputable def frz (ρ:En):En:=ρ.map GY
theorem SI.up {Y:Fx}{B:Hp}{ρ:En}{σ:Sg}{H:Hp}(I:SI Y B ρ σ H):zm B (zO B Y.H0 H):=λb o h=>by
 cases q:Y.H0 b with
 | none=>rw[Z6 q];exact I.sB b o h
 | some u=>rw[Z7 q];exact h
theorem SI.frz {Y:Fx}{B:Hp}{ρ:En}{σ:Sg}{H:Hp}(I:SI Y B ρ σ H):SI Y (zO B Y.H0 H) (PV.frz ρ) σ H:=by
 have up:zm B (zO B _ H):=λb o h=>by
  cases q:Y.H0 b with
  | none=>rw[Z6 q];exact I.sB b o h
  | some u=>rw[Z7 q];exact h
 refine⟨I.s0,I.sH,λb o h=> ?_,λb o h=>by rw[Z7 h];exact I.old b o h,by unfold PV.frz;rw[xqz];exact I.len,λj t h=> ?_,λj ts h=> ?_,λj c h=> ?_, ?_⟩
 rotate_right
 ·have no:∀(j:Nat) (y:Sl),y.isS=true->(PV.frz ρ)[j]? ≠ some y:=λj y hy h=>by
   unfold PV.frz at h;rw[aj]at h;cases e:ρ[j]? with
   | none=>rw[e]at h;cases h
   | some x=>rw[e]at h;cases x <;> (cases h;cases hy)
  obtain⟨as,O,x⟩:=I.st;refine⟨Y.as,λ_=>none,eO _,λi os e=>(no i _ rfl e).elim,λi j os os' e=>(no i _ rfl e).elim,λi k n e=>(no i _ rfl e).elim,λi k fs h=> ?_,λi os e=>(no i _ rfl e).elim⟩;have h' :ρ[i]? =some (Sl.oc k fs):=by
   unfold PV.frz at h;rw[aj]at h;cases e:ρ[i]? with
   | none=>rw[e]at h;cases h
   | some x=>rw[e]at h;cases x <;> (cases h;try rfl)
  obtain⟨a,C,dx,vs,e1,e2,e3,e4,e5⟩:=x.oc i k fs h';exact⟨a,C,dx,vs,e1,e2,e3,e4,e5.mono up (zm.refl _)⟩
 rotate_right
 ·unfold PV.frz at h;rw[aj]at h;cases e:ρ[j]? with
  | none=>rw[e]at h;cases h
  | some x=>
   rw[e]at h;cases x with
   | xc d=>
    cases h;obtain⟨a,e1,r⟩:=I.xc j _ e;exact⟨a,e1,up a _ r⟩
   | un=>cases h
   | vl _=>cases h
   | ow _=>cases h
   | ob _ _=>cases h
   | oc _ _=>cases h
   | st _=>cases h
 ·cases q:Y.H0 b with
  | none=>rw[Z6 q]at h;exact h
  | some u=>rw[Z7 q]at h;exact I.sB b o h
 ·unfold PV.frz at h;rw[aj]at h;cases e:ρ[j]? with
  | none=>rw[e]at h;cases h
  | some x=>
   rw[e]at h;cases x with
   | un=>cases h
   | vl u=>
    cases h;obtain⟨v,e1,r⟩:=I.vl j _ e;exact⟨v,e1,r.mono up⟩
   | ow us=>
    cases h;obtain⟨a,xs,e1,b0,h0,hh,rr,_⟩:=I.ow j us e;exact⟨.ref a,e1,.lst (by rw[Z6 h0];exact hh) (rr.mono up)⟩
   | xc _=>cases h
   | ob _ _=>cases h
   | oc _ _=>cases h
   | st _=>cases h
 ·unfold PV.frz at h;rw[aj]at h;cases e:ρ[j]? with
  | none=>rw[e]at h;cases h
  | some x=>
   rw[e]at h;cases x with
   | un=>cases h
   | vl u=>cases h
   | ow us=>cases h
   | xc _=>cases h
   | ob _ _=>cases h
   | oc _ _=>cases h
   | st _=>cases h
theorem vw {Y:Fx}{B H H' :Hp}(s0:zm Y.H0 H)(old:∀b o,Y.H0 b=some o->B b=Y.B0 b)(s:zm H H')(sB:zm B H):zm (zO B H H') (zO Y.B0 Y.H0 H'):=λb o h=>by
 cases q:H b with
 | none=>
  rw[Z6 q]at h;rw[Z6 (s0.free q)];exact h
 | some u=>
  rw[Z7 q]at h;cases z:Y.H0 b with
  | none=>rw[Z6 z];exact s b o (sB b o h)
  | some w=>rw[Z7 z,← old b w z];exact h
section
variable {X:Cx}{Y:Fx}{a b c d:Expr}{fa fb fc fd:En->R T}{pos p:Pos}{st:Stmt}{sts sts' :List Stmt}{f g:En->RS}
noncomputable def nxS:En->RS:=λρ=> .nx ρ
noncomputable def zj (f g:En->RS):En->RS:=λρ=>match f ρ with
 | .nx ρ' =>g ρ'
 | r=>r
theorem GZ:WA X Y [] nxS:= .mk λρ=>PSs.imp Vd λD σ H ⟨B,I,q⟩=>q σ H B (zm.refl B) I
theorem z00 (h:wm X Y st f):WA X Y [st] f:= .mk λρ=>Ve (h ρ)
theorem kh (h1:wm X Y st f)(h2:WA X Y sts g):WA X Y (st :: sts) (zj f g):= .mk λρ=>by
 refine PSs.imp (qU (u:=λD σ H=>∃ρ',tSS Y g ρ' D σ H) (h1 ρ) ?_) ?_
 ·intro pins s σ H D I ⟨ρ',q⟩;exact h2 ρ' _ s σ H D I q
 ·intro D σ H ⟨B,I,q⟩;refine⟨B,I, ?_⟩;unfold zj at q;cases e:f ρ with
  | nx ρ' =>
   rw[e]at q;intro σ' H' B' s' I';exact⟨ρ',B',I',PoS.up s' q⟩
  | rt t=>rw[e]at q;exact q
  | rf t=>rw[e]at q;exact q
  | bk ρ' =>rw[e]at q;exact q
  | ct ρ' =>rw[e]at q;exact q
  | ex c=>rw[e]at q;exact q
  | bad=>rw[e]at q;exact q
noncomputable def zz (i:Nat)(fa:En->R T):En->RS:=λρ=>(fa ρ).s λt=> .nx (ρ.set i (.vl t))
theorem ki {i:Nat}{x:Str}{p' :Pos}(hN:X.N.Nodup)(hi:X.N[i]? =some x)(hx:L2.Loc X.env.scope x)(ha:Snd X Y a fa)(hs:swapsWith a (some (.Name x p')) pos.line X.env=pure false:=by rfl)
  (hf:X.fn x=true\/X.env.scope.names.lookup x=some .local:=by first | exact .inl rfl | exact .inr rfl | assumption):wm X Y (.Assign [.Name x p'] a pos) (zz i fa):= .mk λρ=>
 PS.imp (UY hN hi hx (ha ρ) hs hf) λD σ H ⟨B,I,q⟩=>Jk I q λt v H1 _ s1 r1 I1 q1=>q1 _ _ _ (zm.refl _) (I1.setV i r1)
noncomputable def UQ (i:Nat)(ga:En->R (List T)):En->RS:=λρ=>(ga ρ).s λts=>if ts.length<=bnd then .nx (ρ.set i (.ow ts)) else .bad
theorem kl {i:Nat}{x:Str}{p' :Pos}{es:List Expr}{ga:En->R (List T)}(hN:X.N.Nodup)(hi:X.N[i]? =some x)(hx:L2.Loc X.env.scope x)(ha:uC X Y es ga)(hs:swapsWith (.List es p) (some (.Name x p')) pos.line X.env=pure false:=by rfl)
  (hf:X.fn x=true\/X.env.scope.names.lookup x=some .local:=by first | exact .inl rfl | exact .inr rfl | assumption):wm X Y (.Assign [.Name x p'] (.List es p) pos) (UQ i ga):= .mk λρ=>
 PS.imp (UY hN hi hx (vm (ha ρ)) hs hf) λD σ H ⟨B,I,q⟩=>Jk I q λts vs H1 _ s1 r1 I1 q1=>by
  split at q1
  ·rename_i hb;exact⟨by rw[r1.length];exact ZC hb,λp hp=>q1 _ _ _ (zm.refl _) (I1.newO i hp r1)⟩
  ·exact q1.elim
noncomputable def zo (fa:En->R T):En->RS:=λρ=>(fa (frz ρ)).s λt=> .rt t
theorem z01 (ha:Snd X Y a fa):wm X Y (.Return (some a) pos) (zo fa):= .mk λρ=>
 PS.imp (vi (ha _)) λD σ H ⟨B,I,q⟩=>by
  refine⟨_,I.frz, ?_⟩;unfold zo at q;cases e:fa _ with
  | bad=>rw[e]at q;exact q
  | ex c=>
   rw[e]at q;exact λd H' s0 sG=>q d H' s0 (I.up.trans sG)
  | ok t=>
   rw[e]at q;intro v H' s r;have J:=I.frz;exact q v H' (I.sH.trans s) (r.mono (vw J.sH J.old s J.sB))
noncomputable def ifS (g:En->R Bool)(f1 f2:En->RS):En->RS:=λρ=>(g ρ).s λk=>if k=true then f1 ρ else f2 ρ
theorem z02 {ga:En->R Bool}(hc:Wx X Y c ga)(h1:WA X Y sts f)(h2:WA X Y sts' g):wm X Y (.If c sts sts' pos) (ifS ga f g):= .mk λρ=>
 PS.imp (Ge (hc ρ) (h1 ρ) (h2 ρ)) λD σ H ⟨B,I,q⟩=>Jk I q λt v H1 _ s1 r1 I1 q1=>by
  have r1' :=r1;subst r1';cases v with
  | true=>exact⟨_,I1,q1⟩
  | false=>exact⟨_,I1,q1⟩
noncomputable def JE (fa:En->R T):En->RS:=λρ=>(fa ρ).s λ_=> .nx ρ
theorem km (ha:Snd X Y a fa)(hs:swapsWith a none pos.line X.env=pure false:=by rfl):wm X Y (.Expr a pos) (JE fa):= .mk λρ=>
 PS.imp (ua (ha ρ) hs) λD σ H ⟨B,I,q⟩=>Jk I q λt v H1 _ s1 r1 I1 q1=>q1 _ _ _ (zm.refl _) I1
noncomputable def Qd (i:Nat)(fa:En->R T):En->RS:=λρ=>match ρ[i]? with
 | some (.ow ts)=>(fa ρ).s λt=>if ts.length < bnd then .nx (ρ.set i (.ow (ts++[t]))) else .bad
 | _=> .bad
noncomputable def qK (i:Nat)(fa:En->R T):En->RS:=λρ=>match ρ[i]? with
 | some (.ow ts)=>(fa ρ).s λt=>match t with
  | .lst us=>if ts.length+us.length<=bnd then .nx (ρ.set i (.ow (ts++us))) else .bad
  | _=> .bad
 | _=> .bad
theorem kn {n:Nat}(h:n < bnd):n < sizeLine:=by exact h
theorem z03 {i:Nat}{x:Str}{px pa:Pos}(hv:PE X (.Name x px) (V9 i))(ha:Snd X Y a fa)(hb:attributeBase (.Name x px) "append" X.env (eval (.Name x px) X.env)=eval (.Name x px) X.env:=by rfl)(hs:St1 X a:=by exact st1 rfl)
  (hz:(pa.endLine == p.line)=true:=by rfl) (hw:swapsWith (.Call (.Attribute (.Name x px) "append" pa) [a] [] p) none pos.line X.env=pure false:=by rfl):wm X Y (.Expr (.Call (.Attribute (.Name x px) "append" pa) [a] [] p) pos) (Qd i fa):= .mk λρ=>by
 have e1:(((((backTo p (starEach [a] X.env)).all λx=> !x.fst) && (backToKw p (keywordEach [] X.env)).all λx=>x.fst.isSome) && decide (([a].length+([]:List Keyword).length+if ([]:List Keyword).isEmpty=true then 0 else 1) < 30))=true):=by rw[hs];rfl
 refine PS.imp (ua (Q2 d8 PySem.F.slot_list_append PySem.F.type_list_append Wv hv (zy (ha ρ) zX hs) hb e1 hz hs rfl) hw) λD σ H ⟨B,I,q⟩=> ?_;unfold Qd at q;split at q
 ·rename_i ts e;obtain⟨l,xs,e1,b0,h0,hh,rr,d⟩:=I.ow i ts e;refine⟨.ref l,e1,.inl ⟨rfl,_,SqL.of hh⟩, ?_⟩;refine Jk I q λt v H1 _ s1 r1 I1 q1=> ?_;split at q1
  ·rename_i hb;refine⟨l,xs,v,rfl,rfl,s1 _ _ hh,by rw[rr.length];exact kn hb, ?_⟩
   exact q1 _ _ _ (zm.refl _) (I1.chg i e e1 ((rr.mono (zO.ge I.sB s1)).append (.cons r1 .nil)))
  ·exact q1.elim
 ·exact q.elim
theorem z04 {i:Nat}{x:Str}{px pa:Pos}(hv:PE X (.Name x px) (V9 i))(ha:Snd X Y a fa)(hb:attributeBase (.Name x px) "extend" X.env (eval (.Name x px) X.env)=eval (.Name x px) X.env:=by rfl)(hs:St1 X a:=by exact st1 rfl)
  (hz:(pa.endLine == p.line)=true:=by rfl) (hw:swapsWith (.Call (.Attribute (.Name x px) "extend" pa) [a] [] p) none pos.line X.env=pure false:=by rfl):wm X Y (.Expr (.Call (.Attribute (.Name x px) "extend" pa) [a] [] p) pos) (qK i fa):= .mk λρ=>by
 have e1:(((((backTo p (starEach [a] X.env)).all λx=> !x.fst) && (backToKw p (keywordEach [] X.env)).all λx=>x.fst.isSome) && decide (([a].length+([]:List Keyword).length+if ([]:List Keyword).isEmpty=true then 0 else 1) < 30))=true):=by rw[hs];rfl
 refine PS.imp (ua (Q2 d8 PySem.F.slot_list_extend PySem.F.type_list_extend yj hv (zy (ha ρ) zX hs) hb e1 hz hs rfl) hw) λD σ H ⟨B,I,q⟩=> ?_;unfold qK at q;split at q
 ·rename_i ts e;obtain⟨l,xs,e1,b0,h0,hh,rr,d⟩:=I.ow i ts e;refine⟨.ref l,e1,.inl ⟨rfl,_,SqL.of hh⟩, ?_⟩;refine Jk I q λt v H1 _ s1 r1 I1 q1=> ?_;cases r1 with
  | @lst b zs us hb r=>
   have q1:PoS Y _ (if ts.length+us.length<=bnd then .nx _ else .bad) D:=q1
   split at q1
   ·rename_i hl;refine⟨l,b,xs,zs,rfl,rfl,s1 _ _ hh,I1.sB _ _ hb,by rw[rr.length,r.length];exact ZC hl, ?_⟩
    exact q1 _ _ _ (zm.refl _) (I1.chg i e e1 ((rr.mono (zO.ge I.sB s1)).append r))
   ·exact q1.elim
  | _=>exact q1.elim
 ·exact q.elim
end
noncomputable def spP (cl:Nat->Value)(n:Nat)(g:List T->R T):Sp:=λvs H Q E=>∃B ts,ts.length=n/\zm B H/\zD B vs ts/\Po ⟨B,H,E,cl,[]⟩ rC B H (g ts) Q
theorem spP.len {cl:Nat->Value}{n:Nat}{g:List T->R T}(vs:List V)(H:Hp)(Q:VK)(E:XK)(h:spP cl n g vs H Q E):vs.length=n:=by
 obtain⟨B,ts,hl,_,r,_⟩:=h;rw[r.length,hl]
noncomputable def za (n:Nat)(g:List T->R T)(ga:En->R (List T)):En->R T:=λρ=>(ga ρ).bind λts=>if ts.length=n then g ts else .bad
section
variable {X:Cx}{Y:Fx}{a b c d:Expr}{fa fb fc fd:En->R T}{pos p:Pos}
theorem ko {CX:CXT}{k n:Nat}{f:Addr}{fd:FuncData}{ps:List Str}{g:List T->R T}{x:Str}{es:List Expr}{ga:En->R (List T)}(F:Wj X.prog X.w X.K X.mg X.base CX k f fd ps (spP Y.cl n g))(hr:jg k X.A)(gl:Gl X x)(mg:X.mg x=some (.ref f))
  (kp:cK X.K (.ref f)=true) (bd:L2.Binds X.K fd ps []) (hx:ji CX X Y.E) (ha:uC X Y (a :: es) ga) (hd:(x == ("__debug__":Str))=false:=by decide)
  (hs:starEach (a :: es) X.env=(false,eval a X.env) :: starEach es X.env:=by exact Zc rfl) (hz:((backTo pos (starEach es X.env)).any λx=>x.fst)=false:=by exact ja rfl):Snd X Y (.Call (.Name x p) (a :: es) [] pos) (za n g ga):= .mk λρ=>
 PE.imp (ye F hr gl mg kp bd .nil hx (ha ρ) hd hs hz) λσ H Q ⟨B,I,q⟩=>step I q λts vs H1 _ s1 r1 I1 q1=>by
  split at q1
  ·rename_i hn;rw[bA];refine⟨_,ts,hn,I1.sB,r1, ?_⟩;revert q1;cases g ts with
   | bad=>exact λq1=>q1
   | ex c=>exact λq1 d H' s sB=>q1 d H' (I1.sH.trans s) sB
   | ok t=>exact λq1=>q1
  ·exact q1.elim
end
noncomputable def zi:RS->R T
 | .rt t=> .ok t
 | .rf ts=> .ok (.lst ts)
 | .nx _=> .ok .non
 | .ex c=> .ex c
 | _=> .bad
noncomputable def en0 (n:Nat)(ts:List T):En:=ts.map Sl.vl++ab (n - ts.length) Sl.un
theorem zD.vl {H:Hp}:∀{vs:List V} {ts:List T} {i:Nat} {t:T} {n m:Nat},zD H vs ts->(ts.map Sl.vl++ab n Sl.un)[i]? =some (Sl.vl t)->∃v:V,(vs.map some++ab m none)[i]? =some (some v)/\Rep H v t
 | _,_,i,t,n,m,.nil,h=>by
  simp only[bP,bn]at h;rw[aL]at h;split at h
  ·cases h
  ·cases h
 | _,_,0,t,n,m,.cons r _,h=>by
  simp at h;subst h;exact⟨_,rfl,r⟩
 | _,_,i+1,t,n,m,.cons _ q,h=>by
  obtain⟨v,h1,h2⟩:=zD.vl q (by simpa using h)
  exact⟨v,by simpa using h1,h2⟩
theorem vx {n:Nat}:∀{ts:List T} {i:Nat} {us:List T},(ts.map Sl.vl++ab n Sl.un)[i]? =some (Sl.ow us)->False
 | [],i,us,h=>by
  simp only[bP,bn]at h;rw[aL]at h;split at h
  ·cases h
  ·cases h
 | t :: ts,0,us,h=>by simp at h
 | t :: ts,i+1,us,h=>vx (by simpa using h)
theorem vy {n:Nat}:∀{ts:List T} {i:Nat} {c:Nat},(ts.map Sl.vl++ab n Sl.un)[i]? =some (Sl.xc c)->False
 | [],i,us,h=>by
  simp only[bP,bn]at h;rw[aL]at h;split at h
  ·cases h
  ·cases h
 | t :: ts,0,us,h=>by simp at h
 | t :: ts,i+1,us,h=>vy (by simpa using h)
theorem yD {n:Nat}{x:Sl}(h1:∀t,x ≠ .vl t)(h2:x ≠ .un):∀{ts:List T} {i:Nat},(ts.map Sl.vl++ab n Sl.un)[i]? =some x->False
 | [],i,h=>by
  simp only[bP,bn]at h;rw[aL]at h;split at h
  ·exact h2 (aD h).symm
  ·cases h
 | t :: ts,0,h=>h1 t (aD (by simpa using h)).symm
 | t :: ts,i+1,h=>yD h1 h2 (by simpa using h)
theorem SI.start {Y:Fx}{N:List Str}{vs:List V}{ts:List T}(s:zm Y.B0 Y.H0)(r:zD Y.B0 vs ts):SI Y Y.B0 (en0 N.length ts) (L2.start N vs) Y.H0 where
 s0:=s
 sH:=zm.refl _
 sB:=s
 old:=λ_ _ _=>rfl
 len:=by unfold en0 L2.start;simp[r.length]
 vl:=λi t h=>r.vl h
 ow:=λi ts h=>(vx h).elim
 xc:=λi c h=>(vy h).elim
 st:=StI.no λi s hs h=>yD (λt z=>by rw[z]at hs;cases hs) (λz=>by rw[z]at hs;cases hs) h
section
variable {P:Program}{w:World}{K:ae}{mg:Str->Option Value}{base:Heap}
theorem z05 {cl:Nat->Value}{x qual:Str}{st:Stmt}{f:Addr}{fd:FuncData}{N ps:List Str}{k n:Nat}{fb:En->RS}{g:List T->R T}(F:Fun K x qual st f fd)(S:jn N ps (zk st))(hn:n=ps.length)
  (hb:∀(cdv:Value) (A:Around) (outer:List Env) (s:Shared) (H:Hp) (E:XK) (Y:Fx),Y.cl=cl->jg k (A.deeper (envOfC qual (zk st) s.heap.objs.size f cdv))->
   WA (u8 CX0 P w K mg base N qual (zk st) f cdv A outer s H E).nox Y (Z1 st) fb)
  (hg:∀ts,ts.length=n->g ts=zi (fb (en0 N.length ts))):Wj P w K mg base CX0 (k+1) f fd ps (spP cl n g):=by
 subst hn;refine F.ok S spP.len λcdv A outer s H vs Q E hr ⟨B,ts,hl,sB,r,q⟩=> ?_;refine⟨_,hb cdv A _ s H E ⟨B,H,E,cl,[]⟩ rfl hr _,B,SI.start sB r, ?_⟩;rw[hg ts hl]at q;revert q;cases fb _ with
 | rt t=>exact λq v H' s r=>q v H' s r
 | rf t=>exact λq a xs H' B' s0 n e r _ l=>q _ H' s0 (.lst (by rw[Z6 n];exact e) (r.mono l))
 | nx ρ=>exact λq σ' H' B' _ I=>q _ H' I.sH .non
 | ex c=>exact λq=>q
 | bk ρ=>exact λq=>q.elim
 | ct ρ=>exact λq=>q.elim
 | bad=>exact λq=>q
end
noncomputable abbrev rI:Hp->Hp->It->List T->Prop:=λB1 _ J ts=>∀B2 H2,zm B1 B2->zm B2 H2->(∀i,i < ts.length->J.go i H2)/\(∀(i:Nat) t x H3,ts[i]? =some t->J.yld i H2 x H3->zm H2 H3/\Rep (zO B2 H2 H3) x t)/\(∀i,ts.length<=i->J.stop i H2)
structure uc (X:Cx) (Y:Fx) (tg iter:Expr) (f:En->R (List T)):Prop where
 mk ::
 go:∀ρ,PI X tg iter (tS Y rI f ρ)
noncomputable instance {X:Cx}{Y:Fx}{tg iter:Expr}{f:En->R (List T)}:CoeFun (uc X Y tg iter f) λ_=>∀ρ,PI X tg iter (tS Y rI f ρ):=⟨uc.go⟩
section
variable {X:Cx}{Y:Fx}{a b c d tg:Expr}{fa fb fc fd:En->R T}{pos p:Pos}
theorem PI.imp {e:Expr}{t t' :TI}(h:PI X tg e t)(i:∀σ H Q,t' σ H Q->t σ H Q):PI X tg e t' :=λpins s σ H Q I q=>h _ s σ H Q I (i σ H Q q)
theorem kq {K:ae}{B1 H1:Hp}{a:Addr}{xs:List V}{ts:List T}(h:B1 a=some (.tup xs))(r:zD B1 xs ts):rI B1 H1 (Itt K a) ts:=λB2 H2 s1 s2=>by
 have h2:=s2 _ _ (s1 _ _ h);refine⟨λi hi=> ?_,λi t x H3 e y=> ?_,λi hi=>⟨xs,SqT.of h2,by rw[r.length];exact hi⟩⟩
 ·obtain⟨v,e,_⟩:=r.get (a9 hi);exact⟨xs,v,SqT.of h2,e⟩
 ·obtain⟨rfl,y⟩:=y;obtain⟨v,e1,r1⟩:=r.get e;have:=y xs (SqT.of h2);rw[e1]at this;cases this;refine⟨zm.refl _, ?_⟩;rw[zO.self B2 _ s2];exact r1.mono s1
theorem kr {K:ae}{B1 H1:Hp}{a:Addr}{xs:List V}{ts:List T}(h:B1 a=some (.lst xs))(r:zD B1 xs ts):rI B1 H1 (Itl K a) ts:=λB2 H2 s1 s2=>by
 have h2:=s2 _ _ (s1 _ _ h);refine⟨λi hi=> ?_,λi t x H3 e y=> ?_,λi hi=>⟨xs,SqL.of h2,by rw[r.length];exact hi⟩⟩
 ·obtain⟨v,e,_⟩:=r.get (a9 hi);exact⟨xs,v,SqL.of h2,e⟩
 ·obtain⟨rfl,y⟩:=y;obtain⟨v,e1,r1⟩:=r.get e;have:=y xs (SqL.of h2);rw[e1]at this;cases this;refine⟨zm.refl _, ?_⟩;rw[zO.self B2 _ s2];exact r1.mono s1
noncomputable def rng (lo:Int)(n:Nat):List T:=(aQ n).map λ(i:Nat)=>T.int (lo+(i:Int))
theorem vz {B1 H1:Hp}{lo:Int}{n:Nat}:rI B1 H1 (Itr lo n) (rng lo n):=λB2 H2 s1 s2=>by
 have hl:(rng lo n).length=n:=by unfold rng;simp
 refine⟨λi hi=>by rw[hl]at hi;exact hi,λi t x H3 e y=> ?_,λi hi=>by rw[hl]at hi;exact hi⟩
 obtain⟨rfl,rfl⟩:=y;refine⟨zm.refl _, ?_⟩;unfold rng at e;rw[aj]at e
 by_cases hi:i < n
 ·rw[cV hi]at e;cases e;exact .int _
 ·rw[aU (by simp;omega)]at e;cases e
noncomputable def Zy (fa:En->R T):En->R (List T):=λρ=>(fa ρ).bind λt=>match t with
 | .int j=>if -1000000 < j/\j < 1000000 then .ok (rng 0 j.toNat) else .bad
 | _=> .bad
noncomputable def Jl (fa fb:En->R T):En->R (List T):=λρ=>(fa ρ).bind λt=>(fb ρ).bind λt' =>match t,t' with
 | .int i,.int j=>if -1000000 < i/\i < 1000000/\ -1000000 < j/\j < 1000000 then .ok (rng i (j - i).toNat) else .bad
 | _,_=> .bad
theorem ku (gl:Gl X "range")(mg:X.mg "range"=none)(ha:Snd X Y a fa)(hs:St1 X a:=by exact st1 rfl):uc X Y tg (.Call (.Name "range" p) [a] [] pos) (Zy fa):= .mk λρ=>PI.imp (y0 gl mg (zy (ha ρ) zX hs) hs) λσ H R ⟨B,I,q⟩=>step I q λt v H1 _ s1 r1 I1 q1=>by
 cases r1 with
 | int j=>
  have q1:Po Y rI _ H1 (if -1000000 < j/\j < 1000000 then .ok _ else .bad) R:=q1
  split at q1
  ·exact⟨j,rfl,by omega,by omega,ZB I1 q1 vz⟩
  ·exact q1.elim
 | _=>exact q1.elim
theorem kv (gl:Gl X "range")(mg:X.mg "range"=none)(ha:Snd X Y a fa)(hb:Snd X Y b fb)(hs:starEach [a,b] X.env=[(false,eval a X.env),(false,eval b X.env)]:=by exact st2 rfl rfl)(hs2:St1 X b:=by exact st1 rfl):uc X Y tg (.Call (.Name "range" p) [a,b] [] pos) (Jl fa fb):= .mk λρ=>
 PI.imp (y3 gl mg (zy (ha ρ) (zy (hb ρ) zX hs2) (by rw[hs,hs2])) hs hs2) λσ H R ⟨B,I,q⟩=>step I q λt v H1 _ s1 r1 I1 q1=>step I1 q1 λt' v' H2 _ s2 r2 I2 q2=>by
  cases r1 with
  | int i=>
   cases r2 with
   | int j=>
    have q2:Po Y rI _ H2 (if -1000000 < i/\i < 1000000/\ -1000000 < j/\j < 1000000 then .ok _ else .bad) R:=q2
    split at q2
    ·exact⟨i,j,rfl,⟨by omega,by omega,by omega,by omega⟩,ZB I2 q2 vz⟩
    ·exact q2.elim
   | _=>exact q2.elim
  | _=>cases r2 <;> exact q2.elim
noncomputable def kx (X:Cx)(Y:Fx)(tg:Expr)(g:T->En->R En):Prop:=∃t:TG,PG X tg t/\∀B ρ σ H v x Q,SI Y B ρ σ H->Rep B v x->(match g x ρ with | .ok ρ' =>∀σ',SI Y B ρ' σ' H->Q σ' H | _=>False)->t v σ H Q
noncomputable def zl (i:Nat):T->En->R En:=λt ρ=> .ok (ρ.set i (.vl t))
theorem vA {i:Nat}{x:Str}(hN:X.N.Nodup)(hi:X.N[i]? =some x)(hx:L2.Loc X.env.scope x)(hf:X.fn x=true\/X.env.scope.names.lookup x=some .local:=by first | exact .inl rfl | exact .inr rfl | assumption):kx X Y (.Name x pos) (zl i):=
 ⟨wI i,jQ hN hi hx hf,λB ρ σ H v x Q I r q=>q _ (I.setV i r)⟩
noncomputable def zK (i j:Nat):T->En->R En:=λt ρ=>match t with
 | .tup [x,y]=> .ok ((ρ.set i (.vl x)).set j (.vl y))
 | _=> .bad
theorem ky {i j:Nat}{x y:Str}{p' p2:Pos}{k:Nat}(hc:X.calm=true)(hN:X.N.Nodup)(hi:X.N[i]? =some x)(hj:X.N[j]? =some y)(hx:L2.Loc X.env.scope x)(hy:L2.Loc X.env.scope y)
  (hf:X.fn x=true\/X.env.scope.names.lookup x=some .local:=by first | exact .inl rfl | exact .inr rfl | assumption) (hf' :X.fn y=true\/X.env.scope.names.lookup y=some .local:=by first | exact .inl rfl | exact .inr rfl | assumption):
  kx X Y (.Tuple [.Name x pos,.Name y p'] k p2) (zK i j):=by
 refine⟨gi X.K 2 _,vj hc (Jo (jQ hN hi hx hf) (Jo (jQ hN hj hy hf') UX)),λB ρ σ H v t Q I r q=> ?_⟩;cases r with
 | @tup l xs ts h r=>
  cases r with
  | nil=>exact q.elim
  | cons r1 rr=>
   cases rr with
   | nil=>exact q.elim
   | cons r2 rr=>
    cases rr with
    | cons _ _=>exact q.elim
    | nil=>
     exact⟨l,_,rfl,SqT.of (I.sB _ _ h),rfl,_,_,rfl,_,_,rfl,rfl,q _ ((I.setV i r1).setV j r2)⟩
 | _=>exact q.elim
noncomputable def ZD (g:T->En->R En)(fb:En->RS):List T->En->RS
 | [],ρ=> .nx ρ
 | t :: ts,ρ=>match g t ρ with
  | .ok ρ1=>match fb ρ1 with
   | .nx ρ2=>ZD g fb ts ρ2
   | .ct ρ2=>ZD g fb ts ρ2
   | .bk ρ2=> .nx ρ2
   | r=>r
  | .ex c=> .bad
  | .bad=> .bad
noncomputable def jp (fi:En->R (List T))(g:T->En->R En)(fb:En->RS):En->RS:=λρ=>(fi ρ).s λts=>ZD g fb ts ρ
theorem z06 {iter:Expr}{sts:List Stmt}{fi:En->R (List T)}{g:T->En->R En}{fb:En->RS}(hp:PassesOwn (model X.prog X.w) X.A X.env X.xe)(hc:X.calm=true)(hi:uc X Y tg iter fi)(hg:kx X Y tg g)(hb:WA X Y sts fb)
  (hs:∀x,foldedSetIterable iter X.env x=pure x:=by intro _;rfl):wm X Y (.For tg iter sts [] pos) (jp fi g fb):= .mk λρ=>by
 obtain⟨tG,hG,hG'⟩:=hg;refine PS.imp (Xv (tb:=λD σ H=>∃ρ',tSS Y fb ρ' D σ H) hp hc (hi ρ) hG (λpins s σ H D I ⟨ρ',q⟩=>hb ρ' _ s σ H D I q) hs) λD σ H ⟨B,I,q⟩=> ?_;refine Jk I q λts J H1 _ s1 r1 I1 q1=> ?_;refine⟨λi m σ' H' =>m=ts.length - i/\i<=ts.length/\∃ρ' B',SI Y B' ρ' σ' H' /\zm _ B' /\PoS Y B' (ZD g fb (ts.drop i) ρ') D,⟨ts.length,by simp,ba _,ρ,_,I1,zm.refl _,q1⟩, ?_⟩
 rintro i m σ' H' ⟨rfl,hi,ρ',B',I',sB',q'⟩
 obtain⟨hgo,hyld,hstop⟩:=r1 B' H' sB' I'.sB
 by_cases hlt:i < ts.length
 ·refine .inr ⟨hgo i hlt,λσ2 H2=>∃ρ2 B2,SI Y B2 ρ2 σ2 H2/\zm _ B2/\PoS Y B2 _ D,λσ2 H2 ⟨ρ2,B2,I2,s2,q2⟩=>⟨ts.length - (i+1),by omega,rfl,hlt,ρ2,B2,I2,s2,q2⟩,λx H2 y=> ?_⟩
  obtain⟨s2,r2⟩:=hyld i _ x H2 (a9 hlt) y;rw[dW hlt]at q';unfold ZD at q';refine hG' _ ρ' σ' H2 x _ _ (I'.grow s2) r2 ?_;cases eg:g _ ρ' with
  | bad=>rw[eg]at q';exact q'
  | ex c=>rw[eg]at q';exact q'
  | ok ρ1=>
   rw[eg]at q';intro σ1 J1;refine⟨ρ1,_,J1, ?_⟩;have q2:=PoS.up (zO.ge I'.sB s2) q';dsimp only at q2;have s3:=sB'.trans (zO.ge I'.sB s2);revert q2;cases fb ρ1 with
   | nx ρ2=>exact λq2 σ3 H3 B3 s4 I3=>⟨ρ2,B3,I3,s3.trans s4,PoS.up s4 q2⟩
   | ct ρ2=>exact λq2 σ3 H3 B3 s4 I3=>⟨ρ2,B3,I3,s3.trans s4,PoS.up s4 q2⟩
   | bk ρ2=>exact λq2=>q2
   | rt t=>exact λq2=>q2
   | rf t=>exact λq2=>q2
   | ex c=>exact λq2=>q2
   | bad=>exact λq2=>q2
 ·have e:i=ts.length:=by omega
  subst e;rw[hU]at q';exact .inl ⟨hstop _ (ai _),q' σ' H' B' (zm.refl _) I'⟩
noncomputable def jl (g:En->R Bool)(fb:En->RS):Nat->En->RS
 | 0,_=> .bad
 | n+1,ρ=>(g ρ).s λk=>if k=true then match fb ρ with
   | .nx ρ2=>jl g fb n ρ2
   | .ct ρ2=>jl g fb n ρ2
   | .bk ρ2=> .nx ρ2
   | r=>r
  else .nx ρ
theorem VM {n:Nat}{sts:List Stmt}{ga:En->R Bool}{fb:En->RS}(hp:PassesOwn (model X.prog X.w) X.A X.env X.xe)(hc:Wx X Y c ga)(hb:WA X Y sts fb):wm X Y (.While c sts [] pos) (jl ga fb n):= .mk λρ=>by
 refine PS.imp (qV (tc:=λσ H Q=>∃ρ',tS Y rE ga ρ' σ H Q) (tb:=λD σ H=>∃ρ',tSS Y fb ρ' D σ H) hp (λpins s σ H D I ⟨ρ',q⟩=>hc ρ' _ s σ H D I q) (λpins s σ H D I ⟨ρ',q⟩=>hb ρ' _ s σ H D I q)) λD σ H ⟨B,I,q⟩=> ?_;refine⟨λm σ' H' =>∃ρ' B',SI Y B' ρ' σ' H' /\PoS Y B' (jl ga fb m ρ') D,⟨n,ρ,B,I,q⟩, ?_⟩
 rintro m σ' H' ⟨ρ',B',I',q'⟩
 cases m with
 | zero=>exact q'.elim
 | succ m=>
  unfold jl at q';refine⟨ρ',Jk I' q' λt v H1 _ s1 r1 I1 q1=> ?_⟩;have r1' :=r1;subst r1';cases v with
  | false=>exact q1 _ _ _ (zm.refl _) I1
  | true=>
   refine⟨λσ2 H2=>∃ρ2 B2,SI Y B2 ρ2 σ2 H2/\PoS Y B2 _ D,λσ2 H2 h=>⟨m,eQ m,h⟩,ρ',_,I1, ?_⟩;revert q1;cases fb ρ' with
   | nx ρ2=>exact λq2 σ3 H3 B3 s4 I3=>⟨ρ2,B3,I3,PoS.up s4 q2⟩
   | ct ρ2=>exact λq2 σ3 H3 B3 s4 I3=>⟨ρ2,B3,I3,PoS.up s4 q2⟩
   | bk ρ2=>exact λq2=>q2
   | rt t=>exact λq2=>q2
   | rf t=>exact λq2=>q2
   | ex c=>exact λq2=>q2
   | bad=>exact λq2=>q2
end
theorem JF {env:Env}:∀(ns:List (Str×NameKind)) (acc:List (Str×Addr)),(∀x∈ns,x.2=NameKind.free->∃c,env.cells.lookup x.1=some c)->(∀x c,acc.lookup x=some c->env.cells.lookup x=some c)->
  ∃cl,(forIn ns acc (λ(x:Str×NameKind) (r:List (Str×Addr))=>if (x.2 == NameKind.free)=true then (do let c ← cellOf env x.1;pure (ForInStep.yield ((x.1,c) :: r))) else pure (ForInStep.yield r)):Sem _)=pure cl/\
   (∀x c,cl.lookup x=some c->env.cells.lookup x=some c)/\(∀x c,acc.lookup x=some c->∃c',cl.lookup x=some c')/\(∀x∈ns,x.2=NameKind.free->∃c,cl.lookup x.1=some c)
 | [],acc,_,h=>⟨acc,rfl,h,λx c e=>⟨c,e⟩,λx hx=>by simp at hx⟩
 | (n,k) :: ns,acc,hf,h=>by
  by_cases hk:k=NameKind.free
  ·obtain⟨c,hc⟩:=hf _ aa hk;have h' :∀x d,((n,c) :: acc).lookup x=some d->env.cells.lookup x=some d:=λx d e=>by
    by_cases hx:x=n
    ·subst hx;have e' :=by simpa[aP] using e
     cases e';exact hc
    ·have e' :=by
      rw[aP,(beq_eq_false_iff_ne.mpr hx)]at e;exact e
     exact h x d e'
   obtain⟨cl,e,h1,h2,h3⟩:=JF ns _ (λx hx=>hf x (a8 _ hx)) h';refine⟨cl, ?_,h1,λx d ed=> ?_,λx hx hxf=> ?_⟩
   ·rw[ie];subst hk;have q:cellOf env n=pure c:=by unfold cellOf;rw[hc]
    simp only[beq_self_eq_true,if_true,q];exact e
   ·by_cases hx:x=n
    ·subst hx;exact h2 x c (by simp[aP])
    ·exact h2 x d (by rw[aP,(beq_eq_false_iff_ne.mpr hx)];exact ed)
   ·rcases ah.mp hx with rfl | hx
    ·exact h2 n c (by simp[aP])
    ·exact h3 x hx hxf
  ·obtain⟨cl,e,h1,h2,h3⟩:=JF ns acc (λx hx=>hf x (a8 _ hx)) h;refine⟨cl, ?_,h1,h2,λx hx hxf=> ?_⟩
   ·rw[ie];have q:(k == NameKind.free)=false:=by simpa using hk
    simp only[q,aH,if_false];exact e
   ·rcases ah.mp hx with rfl | hx
    ·exact absurd hxf hk
    ·exact h3 x hx hxf
theorem yE {scope:Scope}{env:Env}(hf:∀x∈scope.names,x.2=NameKind.free->∃c,env.cells.lookup x.1=some c):
  ∃cl,closureFor scope env=pure cl/\(∀x c,cl.lookup x=some c->env.cells.lookup x=some c)/\(∀x∈scope.names,x.2=NameKind.free->∃c,cl.lookup x.1=some c):=by
 obtain⟨cl,e,h1,_,h3⟩:=JF _ [] hf (λx c e=>by simp at e)
 refine⟨cl, ?_,h1,h3⟩;unfold closureFor;exact(by simpa using e)
noncomputable def cxC (X:Cx)(scope:Scope)(N' :List Str)(cl:List (Str×Addr))(C:Addr)(s3:Shared)(H3:Hp)(fp:List Addr)(pins:List (Addr×Obj)):Cx:=
 { X with N:=N',s₀:=s3,H₀:=H3,env:=compEnvC scope cl C X.env,outer:=X.stack,stack:=X.stack,ex:=fp,fn:=λ_=>false,pn:=X.pn++pins,xe:=λ_ _=>False }
structure CSc (X:Cx) (scope:Scope):Prop where
 kind:scope.kind= .function
 nocell:∀x∈scope.names,x.2 ≠ .cell
 loc:∀x∈scope.names,x.2= .local->scope.names.lookup x.1=some .local
 fre:∀x∈scope.names,x.2= .free->X.env.kindOf x.1=some .cell\/X.env.kindOf x.1=some .free
theorem jC {scope:Scope}{env:Env}{x:Str}{k:NameKind}(h:(relabel scope env).names.lookup x=some k)(hk:k= .cell\/k= .free)(hn:∀x∈scope.names,x.2 ≠ NameKind.cell):∃y∈scope.names,y.1=x/\y.2= .free:=by
 have go:∀ns:List (Str×NameKind),(∀x∈ns,x.2 ≠ NameKind.cell)->(ns.map λ(n,k)=>if (k == NameKind.free && env.scope.kind == .function && env.kindOf n == some .cell) then (n,NameKind.cell) else (n,k)).lookup x=some k->∃y∈ns,y.1=x/\y.2= .free:=by
  intro ns
  induction ns with
  | nil=>intro _ h;simp at h
  | cons y ns ih=>
   intro hn h;obtain⟨n,k'⟩:=y
   by_cases hx:x=n
   ·subst hx;refine⟨(x,k'),aa,rfl, ?_⟩;rw[az]at h
    by_cases hc:(k' == NameKind.free && env.scope.kind == .function && env.kindOf x == some .cell)=true
    ·rw[ac,ac]at hc;exact eq_of_beq hc.1.1
    ·simp only[if_neg hc,aP,beq_self_eq_true]at h;cases h;rcases hk with rfl | rfl
     ·exact absurd rfl (hn _ aa)
     ·rfl
   ·obtain⟨z,hz,h1,h2⟩:=ih (λz hz=>hn z (a8 _ hz)) (by
     rw[az]at h
     by_cases hc:(k' == NameKind.free && env.scope.kind == .function && env.kindOf n == some .cell)=true
     ·simp only[if_pos hc,aP,(beq_eq_false_iff_ne.mpr hx)]at h;exact h
     ·simp only[if_neg hc,aP,(beq_eq_false_iff_ne.mpr hx)]at h;exact h)
    exact⟨z,a8 _ hz,h1,h2⟩
 exact go _ hn h
section
variable {X:Cx}{pins:List (Addr×Obj)}{σ:Sg}{H:Hp}{s:Shared}
theorem yF {scope:Scope}{N' :List Str}{cl:List (Str×Addr)}{fp:List Addr}{h' :Heap}{tk:Nat}{σ' :Sg}(I:L2.Inv X pins σ H s)(S:CSc X scope)(hc:X.calm=true)
  (hcl:∀x c,cl.lookup x=some c->X.env.cells.lookup x=some c) (hcf:∀x∈scope.names,x.2=NameKind.free->∃c,cl.lookup x.1=some c)
  (hfp:∀b∈fp,wb X pins H b) (hfo:∀b∈fp,∃o,s.heap.get? b=some o)
  (hns:h'.Ns s.heap.objs.size (λ_=>none)) (hk:∀b o,s.heap.get? b=some o->h'.get? b=some o)
  (hl:σ'.length=N'.length) (hσ:∀(i:Nat) (x:Str) (v:V),N'[i]? =some x->σ'[i]? =some (some v)->∃j:Nat,X.N[j]? =some x/\σ[j]? =some (some v)/\Vis X.env.scope x/\(scope.names.lookup x=some .free)/\(X.env.kindOf x=some .cell\/X.env.kindOf x=some .free)):
  L2.Inv (cxC X scope N' cl s.heap.objs.size s H fp pins) [] σ' H { s with heap:=h',toks:=tk }:=by
 have stk:=I.stkSub;have hlt:=λb hb=>let ⟨o,e⟩:=hfo b hb;ao e;have fresh:=I.hok.fresh (ai _);refine⟨⟨I.ok.mod,S.kind,I.ok.glob,I.ok.blt,ai _,λx y c h1 h2=>I.ok.inj x y c (hcl _ _ h1) (hcl _ _ h2),λx hx=> ?_,λx c h _=>(ax h).elim,λ_=>I.ok.hd hc,I.ok.frames,.inl rfl,λb hb=> ?_,I.bs,
   aq I.ok.bsz I.sz,λb o e hb=> ?_,λb hb hb' => ?_,I.stack,I.stkFree⟩,rfl,I.bare,Un.kept hk,⟨_,hns,λi x v h1 h2 h3=> ?_⟩,λx c e=> ?_,fresh,λx c e=>I.freeC x c (hcl _ _ e),λp hp=> ?_,I.hok.kept hk,hl⟩
 ·have hx' :=hx;obtain⟨y,hy,rfl,hyf⟩:∃y∈scope.names,y.1=x/\y.2= .free:=by
   rcases hx' with h | h
   ·exact jC h (.inl rfl) S.nocell
   ·exact jC h (.inr rfl) S.nocell
  exact hcf y hy hyf
 ·refine⟨aC (hlt b hb),λx c e=>(hfp b hb).2.2.2.2.1 x c (hcl _ _ e)⟩
 ·rcases(hfp b hb).2.2.2.1 with h | h
  ·exact I.ok.noex b o e h
  ·exact absurd (aF (ao e) (aq I.ok.bsz h)) (bi _)
 ·have q:=hfp b hb;rcases ah.mp (stk b hb') with z | z
  ·exact q.2.1 z
  ·exact q.2.2.1 z
 ·obtain⟨j,e1,e2,e3,e4,e5⟩:=hσ i x v h1 h2;obtain⟨m,hn,hloc⟩:=I.loc;obtain⟨u,ru,lk⟩:=hloc j x v e1 e2 e3;refine⟨u,ru,.inr ⟨?_, ?_⟩⟩
  ·rcases h3 with h | h | h
   ·exfalso;have:∀ns:List _,ns.lookup x=some .free->(ns.map λ(n,k)=>if (k == NameKind.free && X.env.scope.kind == .function && X.env.kindOf n == some .cell) then (n,NameKind.cell) else (n,k)).lookup x ≠ some .local:=by
     intro ns
     induction ns with
     | nil=>intro z;simp at z
     | cons y ns ih=>
      obtain⟨n,k⟩:=y;intro z w;rw[az]at w
      by_cases hx:x=n
      ·subst hx;have hkf:=by simpa[aP] using z
       by_cases hcn:(k == NameKind.free && X.env.scope.kind == .function && X.env.kindOf x == some .cell)=true
       ·simp only[if_pos hcn,aP,beq_self_eq_true]at w;cases w
       ·simp only[if_neg hcn,aP,beq_self_eq_true]at w;rw[hkf]at w;cases w
      ·have z' :=by rw[aP,(beq_eq_false_iff_ne.mpr hx)]at z;exact z
       refine ih z' ?_
       by_cases hcn:(k == NameKind.free && X.env.scope.kind == .function && X.env.kindOf n == some .cell)=true
       ·simp only[if_pos hcn,aP,(beq_eq_false_iff_ne.mpr hx)]at w;exact w
       ·simp only[if_neg hcn,aP,(beq_eq_false_iff_ne.mpr hx)]at w;exact w
    exact this _ e4 h
   ·exact .inl h
   ·exact .inr h
  ·rcases lk with ⟨hk',_⟩ | ⟨_,c,hc',hcell⟩
   ·rcases e5 with z | z <;> (rw[z]at hk';cases hk')
   ·obtain⟨c',hc2⟩:=hcf _ (be e4) rfl;have:=hcl x c' hc2;rw[hc']at this;cases this;obtain⟨o,eo,ed⟩:=hcell;exact⟨c,hc2,o,hk _ _ eo,ed⟩
 ·obtain⟨v,o,eo,ed⟩:=I.cell x c (hcl _ _ e);exact⟨v,o,hk _ _ eo,ed⟩
 ·have hp' :=by
   have:=hp;rwa[bA]at this
  obtain⟨e,n,ne,nf,dc⟩:=I.pin p hp';refine⟨hk _ _ e,n,aC (ao e),λhb=> ?_,dc⟩;rcases ah.mp (stk _ hb) with z | z
  ·exact ne z
  ·exact nf z
end
noncomputable def PIf (X:Cx)(ifs:List Expr)(t:TT):Prop:=
 ∀(pins:List (Addr×Obj)) (s:Shared) (σ:Sg) (H:Hp) (Q:Bool->Hp->Prop),L2.Inv X pins σ H s->t σ H Q->
  wpAny (model X.prog X.w) X.A (forIn ifs true λc r=>if r=true then do let ok ← isTrue c X.env (eval c X.env);pure (ForInStep.yield ok) else pure (ForInStep.yield r)) (TP X pins σ Q) X.xe s
theorem VN {X:Cx}:PIf X [] (λ_ H Q=>Q true H):=λ_ _ σ H _ I h=>wpAny_tests_nil ⟨H,I,h⟩
theorem VO {X:Cx}{c:Expr}{t:TT}(h:PT X c t):PIf X [c] t:=λpins s σ H Q I q=>wpAny_tests_one (h _ s σ H Q I q)
noncomputable abbrev XE (X:Cx)(xe:Value->Shared->Prop):Cx:={ X with xe:=xe }
theorem uE {X:Cx}{pins:List (Addr×Obj)}{σ:Sg}{H:Hp}{s:Shared}{xe:Value->Shared->Prop}(I:L2.Inv X pins σ H s):L2.Inv (XE X xe) pins σ H s:=
 ⟨⟨I.ok.mod,I.ok.kind,I.ok.glob,I.ok.blt,I.ok.above,I.ok.inj,I.ok.has,I.ok.cab,I.ok.hd,I.ok.frames,I.ok.stk,I.ok.exf,I.ok.bs,I.ok.bsz,I.ok.noex,I.ok.exfs,I.ok.funs,I.ok.frf⟩,I.os,I.bare,I.base,I.loc,I.cell,I.free,I.freeC,I.pin,I.hok,I.len⟩
theorem yG {X:Cx}{pins:List (Addr×Obj)}{σ:Sg}{H:Hp}{s:Shared}{xe:Value->Shared->Prop}(I:L2.Inv (XE X xe) pins σ H s):L2.Inv X pins σ H s:=(uE I:L2.Inv _ _ σ H s)
theorem z07 {X:Cx}{e:Expr}{t:TG}{xe:Value->Shared->Prop}(hx:X.xe=λ_ _=>False)(h:PG X e t):PG (XE X xe) e t:=λpins s σ H v u Q I r q=>cx (h _ s σ H v u Q (yG I) r q) (λ_ s' ⟨σ',H',I',q'⟩=>⟨σ',H',uE I',q'⟩) λe s' z=>by rw[hx]at z;exact z.elim
theorem kz {X:Cx}{e:List Expr}{t:TT}{xe:Value->Shared->Prop}(hx:X.xe=λ_ _=>False)(h:PIf X e t):PIf (XE X xe) e t:=λpins s σ H Q I q=>cx (h _ s σ H Q (yG I) q) (λ_ s' ⟨H',I',q'⟩=>⟨H',uE I',q'⟩) λe s' z=>by rw[hx]at z;exact z.elim
theorem uF {α:Type}{M:Model}{A:Around}{m:Sem α}{Q:α->Shared->Prop}{E E' :Value->Shared->Prop}{s:Shared}(hE:∀e s',E' e s' ->E e s')(h:wpAny M A m Q E' s):wpAny M A m Q E s:=cx h (λ_ _ q=>q) hE
noncomputable def Qe (J:It)(D:Addr)(g:TG)(tt:TT)(te:TE)(fin:Sg->Hp->Prop)(W:Nat->Nat->List V->Sg->Hp->Prop):Prop:=
 ∀i m ys σ H,W i m ys σ H->H D=some (.lst ys)/\((J.stop i H/\fin σ H)\/(J.go i H/\∀x H2,J.yld i H x H2->g x σ H2 λσ3 H3=>tt σ3 H3 λk H4=>
  if k=true then te σ3 H4 λv H5=>H5 D=some (.lst ys)/\ys.length < sizeLine/\∃m',m' < m/\W (i+1) m' (ys++[v]) σ3 (upd H5 D (.lst (ys++[v]))) else ∃m',m' < m/\W (i+1) m' ys σ3 H4))
theorem yH {X:Cx}{R:Result->Shared->Prop}(hx:∀e s',X.xe e s' ->notedBy (model X.prog X.w) X.A X.env (λe s' =>R (.error e) s') e s')(hc:X.calm=true){tg iter elt:Expr}{ifs:List Expr}{scope:Scope}{pos:Pos}{J:It}{fp:List Addr}{it:Addr}{tn:Nat->Heap->Prop}(TJ:UO X.prog X.w X.K tg J fp it tn)
  {g:TG} {tt:TT} {te:TE} (hg:PG X tg g) (ht:PIf X ifs tt) (he:PE X elt te) {D:Addr} {fin:Sg->Hp->Prop} (W:Nat->Nat->List V->Sg->Hp->Prop) (turn:Qe J D g tt te fin W)
  (hR:∀s σ H,L2.Inv X [] σ H s->fin σ H->R (.ok .next) s) {m0:Nat} {σ0:Sg} {H0:Hp} {s0:Shared} (w0:W 0 m0 [] σ0 H0) (I0:L2.Inv X [] σ0 H0 s0) (t0:tn 0 s0.heap) (f0:∀b∈fp,wb X [] H0 b):
  codeAny (model X.prog X.w) X.A (.compLoop (.ListComp elt [⟨tg,iter,ifs,0⟩] scope pos) 0 (.ref it) (.ref D) X.env) R s0:=by
 have stat:∀{H' :Hp},(∀b∈fp,H' b=none)->∀b∈fp,wb X [] H' b:=λhn b hb=>⟨hn b hb,(f0 b hb).2⟩;refine codeAny_loop rfl (λn s' =>∃i ys σ' H',L2.Inv X [] σ' H' s' /\tn i s'.heap/\(∀b∈fp,H' b=none)/\W i n ys σ' H') (λn s3 h3=> ?_) m0 ⟨0,[],σ0,H0,I0,t0,λb hb=>(f0 b hb).1,w0⟩;obtain⟨i,ys,σ3,H3,I3,st3,fr3,w3⟩:=h3;show wpAny _ X.A ((compTurn _ 0 _ _ _).onRaise (λx=>do noteFrame x _;theTreesLotGoes x)) _ _ s3
 refine wpAny_noted ?_;obtain⟨hD,h⟩:=turn i n ys σ3 H3 w3;rcases h with ⟨stop,qn⟩ | ⟨go,next⟩
 ·refine a7 (wpAny_standAt (a7 (thn (TJ.done X rfl rfl rfl hc i [] s3 σ3 H3 _ I3 (stat fr3) st3 stop) λr s4 ⟨hr,I4⟩=> ?_)));subst hr;exact am (hR s4 σ3 H3 I4 qn)
 ·refine a7 (wpAny_standAt (a7 (thn (TJ.item X rfl rfl rfl hc i [] s3 σ3 H3 _ I3 (stat fr3) st3 go) λr s4 ⟨u,hr,h4⟩=> ?_)));subst hr;refine a7 (thn h4 λ_ s5 ⟨x,H5,I5,r5,y5,st5,fr5⟩=> ?_);have I5' :=I5.pinned (stat fr5) (TJ.obj _ _ st5);refine a7 (uF hx (thn (hg _ s5 σ3 H5 x u _ I5' r5 (next x H5 y5)) λ_ s6 ⟨σ6,H6,I6,q6⟩=> ?_));have again:∀{σ7:Sg} {H7:Hp} {s7:Shared} {ys' :List V},L2.Inv X _ σ7 H7 s7->(∃m',m' < n/\W (i+1) m' ys' σ7 H7)->∃m,m < n/\∃i ys σ' H',L2.Inv X [] σ' H' s7/\tn i _/\(∀b∈fp,H' b=none)/\W i m ys σ' H' :=λ{σ7 H7 s7 ys'} I7 ⟨m',hm,w7⟩=>by
   refine⟨m',hm,i+1,ys',σ7,H7,I7.unpinned,TJ.keep _ _ _ st5 λb hb o e=>(I7.pin _ (ay _ (ay _ (j9 hb e)))).1,λb hb=> ?_,w7⟩;obtain⟨o,e,d⟩:=TJ.obj _ _ st5 b hb;exact(I7.pin _ (ay _ (ay _ (j9 hb e)))).2.1
  refine a7 (uF hx (thn (ht _ s6 σ6 H6 _ I6 q6) λk s7 ⟨H7,I7,q7⟩=> ?_));cases k with
  | false=>exact am ⟨rfl,again I7 q7⟩
  | true=>
   refine a7 (a7 (uF hx (thn (he _ s7 σ6 H7 _ I7 q7) λv s8 ⟨y,H8,I8,r8,hD8,hlen,q8⟩=> ?_)));refine a7 (uF hx (thn (Wv _ s8 σ6 H8 (.ref D) [y] _ [v] (λ_ H9=>∃m',m' < n/\W _ m' _ σ6 H9) I8 rfl (.cons r8 .nil) ⟨D,ys,y,rfl,rfl,hD8,hlen,q8⟩) λw s9 ⟨_,H9,I9,_,q9⟩=> ?_));exact am (am ⟨rfl,again I9 q9⟩)
noncomputable def uG (k:Nat)(js:List Nat)(σ:Sg):Sg:=ab k none++js.map λj=>(σ[j]?).getD none
section
variable {X:Cx}
noncomputable abbrev vC (X:Cx)(scope:Scope)(N' :List Str)(P:Cx->Prop):Prop:=∀cl C s3 H3 fp pins,P (cxC X scope N' cl C s3 H3 fp pins)
noncomputable abbrev kA (X:Cx)(scope:Scope)(N' :List Str)(E:XK)(P:Cx->Prop):Prop:=∀cl C s3 H3 fp pins xe,ji (CX1 X.prog X.w) (XE (cxC X scope N' cl C s3 H3 fp pins) xe) E->P (XE (cxC X scope N' cl C s3 H3 fp pins) xe)
structure gq (X:Cx) (scope:Scope) (N' :List Str) (k:Nat) (js:List Nat):Prop where
 len:N'.length=k+js.length
 cap:∀(i j:Nat),js[i]? =some j->∃x,N'[k+i]? =some x/\X.N[j]? =some x/\Vis X.env.scope x/\scope.names.lookup x=some .free/\(X.env.kindOf x=some .cell\/X.env.kindOf x=some .free)
theorem wP {E:XK}(hp:XU X E){tg iter elt:Expr}{ifs:List Expr}{scope:Scope}{pos pos' :Pos}{N' :List Str}{k:Nat}{js:List Nat}{wi:TI}{g:TG}{tt:TT}{te:TE}{use:Option (Value->Sem Unit)}(S:CSc X scope)(CP:gq X scope N' k js)(hc:X.calm=true)
  (hi:PI X tg iter wi) (hg:vC X scope N' λXC=>PG XC tg g) (ht:vC X scope N' λXC=>PIf XC ifs tt) (he:kA X scope N' E λXC=>PE XC elt te) {pins:List (Addr×Obj)} {σ:Sg} {H:Hp} {s:Shared} {Q:Value->Shared->Prop} {F:Addr->Hp->Prop} (I:L2.Inv X pins σ H s)
  (h:wi σ H λJ H1=>∀D,H1 D=none->∃W,(∃m,W 0 m [] (uG k js σ) (upd H1 D (.lst [])))/\Qe J D g tt te (λ_ H' =>F D H') W)
  (hQ:∀D C H' s',L2.Inv X pins σ H' s' ->F D H' ->H' C=none->(X.s₀.heap.objs.size<=C)->C ≠ X.env.locals->(∀x c,X.env.cells.lookup x=some c->c ≠ C)->(∀p∈X.pn++pins,p.1 ≠ C)->(∃m,s'.heap.Ns C m)->compPost (model X.prog X.w) X.A X.xe use Q (.ref D) C (.ok .next) s')
  (hs:∀x,foldedSetIterable iter X.env x=pure x:=by intro _;rfl):
  wpAny (model X.prog X.w) X.A (comprehension (.ListComp elt [⟨tg,iter,ifs,0⟩] scope pos) scope X.env pos' (newList []) false (eval iter X.env) use) Q X.xe s:=by
 obtain⟨cl,ecl,hcl,hcf⟩:=yE (scope:=scope) (env:=X.env) λx hx hf=>I.ok.has x.1 (S.fre x hx hf);refine wpAny_comprehension_free rfl hs ecl S.kind S.loc ?_;refine thn (hi pins s σ H _ I h) λv s1 h1=>thn h1 λitv s2 h2=> ?_;obtain⟨it,fp,tn,J,H2,e,I2,TJ,st2,f2,q2⟩:=h2;subst e;refine a_ ?_;have hD:=I2.hok.fresh (ai _);have I3:L2.Inv X pins σ (upd H2 s2.heap.objs.size (.lst [])) { s2 with heap:=s2.heap.push { cls:= .type "list",data:= .seq _ } }:=
  I2.laid (t' :=s2.toks) (λb u e=>af _ e) (ai _) ⟨ba _,[],_,.nil,ag _ rfl⟩
 obtain⟨W,⟨m0,w0⟩,turn⟩:=q2 s2.heap.objs.size hD;have f3:∀b∈fp,wb X pins (upd H2 s2.heap.objs.size (.lst [])) b:=λb hb=>by
  obtain⟨o,eo,_⟩:=TJ.obj _ _ st2 b hb;exact⟨by rw[zn (aC (ao eo))];exact(f2 b hb).1,(f2 b hb).2⟩
 have o3:∀b∈fp,∃o,(s2.heap.push { cls:= .type "list",data:= .seq ([]:List Value).toArray }).get? b=some o:=λb hb=>by
  obtain⟨o,eo,_⟩:=TJ.obj _ _ st2 b hb;exact⟨o,af _ eo⟩
 refine wpAny_newFunctionEnv S.nocell (by intro y hy;simp at hy) (λh4 hns4 hsb4=> ?_) S.kind
 generalize hG:s2.heap.push _=G3 at I3 o3 hns4 hsb4 ⊢;have s3e:∃s3:Shared,s3={ s2 with heap:=G3 }:=⟨_,rfl⟩;obtain⟨s3,es3⟩:=s3e;have hh3:s3.heap=s2.heap.push { cls:= .type "list",data:= .seq ([]:List Value).toArray }:=by rw[es3,hG]
 have hg3:G3=s3.heap:=by rw[es3]
 rw[← es3]at I3;rw[hg3]at hns4 hsb4 o3;have k4:=λb o e=>hsb4.extBut b o (aC (ao e)) (af _ e);have IC:=yF (N' :=N') (cl:=cl) (fp:=fp) (σ' :=uG k js σ) (tk:=s3.toks+([]:List (Str×Value)).length) I3 S hc hcl hcf f3 o3 hns4 k4 (by unfold uG;simp[CP.len]) (λi x v h1 h2=>by
  unfold uG at h2
  by_cases hik:i < k
  ·rw[aN (by simpa using hik),aL,if_pos hik]at h2
   cases h2
  ·have hk' :k<=i:=by omega
   rw[aK (by simpa using hk'),aI,aj]at h2
   cases ej:js[i - k]? with
   | none=>rw[ej]at h2;cases h2
   | some j=>
    rw[ej]at h2;obtain⟨y,e1,e2,e3,e4,e5⟩:=CP.cap (i - k) j ej;have:k+(i - k)=i:=by omega
    rw[this,h1]at e1;cases e1;refine⟨j,e2, ?_,e3,e4,e5⟩;have h2' :some ((σ[j]?).getD none)=some (some v):=h2;cases ez:σ[j]? with
    | none=>rw[ez]at h2';cases h2'
    | some z=>rw[ez]at h2';exact congrArg some (aD h2'))
 have TC:UO _ _ _ tg J fp it tn:=TJ;have t4:tn 0 h4:=TJ.keep _ _ _ st2 λb hb o e=>k4 b o (by rw[hh3];exact af _ e)
 have fC:∀b∈fp,wb (cxC X scope N' cl s3.heap.objs.size s3 (upd H2 s2.heap.objs.size (.lst [])) fp pins) [] _ b:=λb hb=>by
  obtain⟨q0,q1,q2,q3,q4,q5⟩:=f3 b hb;obtain⟨o,eo⟩:=o3 b hb;refine⟨q0,aC (ao eo),λhb' => ?_,.inl hb,λx c e=>q4 x c (hcl _ _ e),λp hp=> ?_⟩
  ·rcases ah.mp (I3.stkSub b hb') with z | z
   ·exact q1 z
   ·exact q2 z
  ·exact q5 p (by
    have:=hp;rwa[bA]at this)
 have fin:∀(s5:Shared) (σ5:Sg) (H5:Hp),L2.Inv (cxC X scope N' cl s3.heap.objs.size s3 (upd H2 s2.heap.objs.size (.lst [])) fp pins) [] σ5 H5 s5->F s2.heap.objs.size H5->compPost (model X.prog X.w) X.A X.xe use Q _ s3.heap.objs.size (.ok .next) s5:=λs5 σ5 H5 I5 q5=>by
  have J5:=I3.call' (ch:=fp) I5.os I5.base I5.hok I5.bare λb hb=>by
   obtain⟨q0,q1,q2,q3,q4,q5⟩:=f3 b hb;exact⟨q3,q1,q4,q5⟩
  refine hQ _ _ H5 s5 J5 q5 I5.free I3.sz (da I3.lt) (λx c e z=> ?_) (λp hp z=> ?_) (let ⟨m,hm,_⟩:=I5.loc;⟨m,hm⟩)
  ·obtain⟨v',o,eo,_⟩:=I3.cell x c e;exact absurd (ao eo) (by rw[z];exact bi _)
  ·exact absurd (ao (I3.pin p hp).1) (by rw[z];exact bi _)
 have pass:ji (CX1 X.prog X.w) (XE (cxC X scope N' cl s3.heap.objs.size s3 (upd H2 s2.heap.objs.size (.lst [])) fp pins) (notedBy (model X.prog X.w) X.A (compEnvC scope cl s3.heap.objs.size X.env) λe s' =>compPost (model X.prog X.w) X.A X.xe use Q (.ref s2.heap.objs.size) s3.heap.objs.size (.error e) s')) E:=by
  intro pins1 σ1 H1 s1 e s' I1 c1;have J1:=I3.call' I1.os I1.base I1.hok I1.bare λb hb=>by
   obtain⟨q0,q1,q2,q3,q4,q5⟩:=f3 b hb;exact⟨q3,q1,q4,q5⟩
  obtain⟨m1,hm1,_⟩:=I1.loc;refine thn (hp pins σ H1 s1 e s' _ m1 _ _ J1 hm1 I1.free I3.sz (λz=> ?_) rfl c1) λ_ s'' q=> ?_
  ·obtain⟨_,o,eo,_⟩:=I3.stack.mem z;exact absurd (ao eo) (bi _)
  ·cases use <;> exact q
 have loop:=yH (X:=XE (cxC X scope N' cl _ s3 _ fp _) (notedBy _ X.A _ λe s' =>compPost _ X.A _ use Q _ _ _ s')) (iter:=iter) (scope:=scope) (pos:=pos) (λ_ _ z=>z) hc TC (z07 rfl (hg _ _ _ _ _ _)) (kz rfl (ht _ _ _ _ _ _)) (he _ _ _ _ _ _ _ pass) W turn (λs5 σ5 H5 I5=>fin s5 σ5 H5 (yG I5)) w0 (uE IC) t4 fC;rw[es3]at loop;exact codeAny_compStart_list loop (TJ.self _ _ _ _ _ t4 loop)
end
noncomputable def zr (g:T->En->R En)(ft:En->R Bool)(fe:En->R T):List T->En->R (List T)
 | [],_=> .ok []
 | t :: ts,ρ=>(g t ρ).bind λρ1=>(ft ρ1).bind λk=>if k=true then (fe ρ1).bind λv=>(zr g ft fe ts ρ1).bind λvs=> .ok (v :: vs) else zr g ft fe ts ρ1
noncomputable def ud:Option Sl->Sl
 | some (.vl t)=> .vl t
 | some (.ob k _)=> .oc k []
 | some (.oc k fs)=> .oc k fs
 | _=> .un
noncomputable def w8 (k:Nat)(js:List Nat)(ρ:En):En:=ab k .un++js.map λj=>ud ρ[j]?
noncomputable def quiet {α:Type}:R α->R α
 | .ok a=> .ok a
 | _=> .bad
noncomputable def zp (g:T->En->R En)(ft:En->R Bool)(fe:En->R T)(k:Nat)(js:List Nat)(ρ:En)(ts:List T):R (List T):=if ts.length<=bnd then quiet (zr g ft fe ts (w8 k js ρ)) else .bad
noncomputable def zF (fi:En->R (List T))(g:T->En->R En)(ft:En->R Bool)(fe:En->R T)(k:Nat)(js:List Nat):En->R T:=λρ=>(fi ρ).bind λts=>(zp g ft fe k js ρ ts).bind λvs=> .ok (.lst vs)
noncomputable def GOk (tG:TG)(g:T->En->R En):Prop:=∀Y B ρ σ H v x Q,SI Y B ρ σ H->Rep B v x->(match g x ρ with | .ok ρ' =>∀σ',SI Y B ρ' σ' H->Q σ' H | _=>False)->tG v σ H Q
theorem Qf (i:Nat):GOk (wI i) (zl i):=λY B ρ σ H v x Q I r q=>q _ (I.setV i r)
theorem Qg (K:ae)(i j:Nat):GOk (gi K 2 (UW (wI i) (UW (wI j) Gf))) (zK i j):=λY B ρ σ H v t Q I r q=>by
 cases r with
 | @tup l xs ts h r=>
  cases r with
  | nil=>exact q.elim
  | cons r1 rr=>
   cases rr with
   | nil=>exact q.elim
   | cons r2 rr=>
    cases rr with
    | cons _ _=>exact q.elim
    | nil=>exact⟨l,_,rfl,SqT.of (I.sB _ _ h),rfl,_,_,rfl,_,_,rfl,rfl,q _ ((I.setV i r1).setV j r2)⟩
 | _=>exact q.elim
theorem SI.blockS {Y:Fx}{B:Hp}{ρ:En}{σ:Sg}{H H' :Hp}(I:SI Y B ρ σ H)(k:Nat)(js:List Nat)(E:XK)(s:zm H H'):SI ⟨B,H,E,Y.cl,[]⟩ B (w8 k js ρ) (uG k js σ) H' where
 s0:=I.sB
 sH:=s
 sB:=I.sB.trans s
 old:=λ_ _ _=>rfl
 len:=by unfold w8 uG;simp
 vl:=λi t h=>by
  unfold w8 at h;unfold uG
  by_cases hik:i < k
  ·rw[aN (by simpa using hik),aL,if_pos hik]at h;cases h
  ·have hk' :k<=i:=by omega
   rw[aK (by simpa using hk'),aI,aj]at h ⊢
   cases ej:js[i - k]? with
   | none=>rw[ej]at h;cases h
   | some j=>
    rw[ej]at h;have h' :ud ρ[j]? = .vl t:=aD h;unfold ud at h';split at h'
    ·rename_i u e;cases h';obtain⟨v,e1,r⟩:=I.vl j _ e;exact⟨v,by show some ((σ[j]?).getD none)=_;rw[e1];rfl,r⟩
    all_goals cases h'
 ow:=λi ts h=>by
  exfalso;unfold w8 at h
  by_cases hik:i < k
  ·rw[aN (by simpa using hik),aL,if_pos hik]at h;cases h
  ·have hk' :k<=i:=by omega
   rw[aK (by simpa using hk'),aI,aj]at h
   cases ej:js[i - k]? with
   | none=>rw[ej]at h;cases h
   | some j=>
    rw[ej]at h;have h' :ud ρ[j]? = .ow ts:=aD h;unfold ud at h';split at h' <;> cases h'
 xc:=λi c h=>by
  exfalso;unfold w8 at h
  by_cases hik:i < k
  ·rw[aN (by simpa using hik),aL,if_pos hik]at h;cases h
  ·have hk' :k<=i:=by omega
   rw[aK (by simpa using hk'),aI,aj]at h
   cases ej:js[i - k]? with
   | none=>rw[ej]at h;cases h
   | some j=>
    rw[ej]at h;have h' :ud ρ[j]? = .xc c:=aD h;unfold ud at h';split at h' <;> cases h'
 st:=by
  have get:∀(i:Nat) (x:Sl),x.isO=true->(w8 k js ρ)[i]? =some x->∃j,js[i - k]? =some j/\k<=i/\ud ρ[j]? =x:=λi x hx h=>by
   unfold w8 at h
   by_cases hik:i < k
   ·rw[aN (by simpa using hik),aL,if_pos hik]at h
    cases h;cases hx
   ·have hk' :k<=i:=by omega
    rw[aK (by simpa using hk'),aI,aj]at h
    cases ej:js[i - k]? with
    | none=>rw[ej]at h;cases h
    | some j=>
     rw[ej]at h;exact⟨j,rfl,hk',aD h⟩
  refine⟨[],λ_=>none,eO _,λi os h=> ?_,λi _ os _ h=> ?_,λi k' n h=> ?_,λi k' fs h=> ?_,λi os h=> ?_⟩
  ·obtain⟨j,_,_,e⟩:=get i _ rfl h;unfold ud at e;split at e <;> cases e
  ·obtain⟨j,_,_,e⟩:=get i _ rfl h;unfold ud at e;split at e <;> cases e
  ·obtain⟨j,_,_,e⟩:=get i _ rfl h;unfold ud at e;split at e <;> cases e
  ·obtain⟨j,ej,hk',e⟩:=get i _ rfl h;have sg:(uG k js σ)[i]? =some ((σ[j]?).getD none):=by
    unfold uG;rw[aK (by simpa using hk'),aI,aj,ej];rfl
   obtain⟨as,O,x⟩:=I.st;unfold ud at e;split at e
   ·cases e
   ·rename_i k2 n2 e2;cases e;obtain⟨a,C,dx,vs,_,e3,e4,e5,_,_,e6⟩:=x.ob j _ _ e2;exact⟨a,C,dx,vs,by rw[sg,e3];rfl,e4,e5,e6,λm f d z=>by cases z⟩
   ·rename_i k2 fs2 e2;cases e;obtain⟨a,C,dx,vs,e3,e4,e5,e6,e7⟩:=x.oc j _ _ e2;exact⟨a,C,dx,vs,by rw[sg,e3];rfl,e4,I.sH _ _ e5,e6,e7.mono (zm.refl _) I.sH⟩
   ·cases e
  ·obtain⟨j,_,_,e⟩:=get i _ rfl h;unfold ud at e;split at e <;> cases e
theorem SI.block {Y:Fx}{B:Hp}{ρ:En}{σ:Sg}{H H3:Hp}{D:Addr}(I:SI Y B ρ σ H)(k:Nat)(js:List Nat)(E:XK)(hD:H D=none)(o:HO):SI ⟨B,H,E,Y.cl,[]⟩ B (w8 k js ρ) (uG k js σ) (upd H D o):=I.blockS k js E (zm.new hD _)
theorem SI.acc {Y:Fx}{B:Hp}{ρ:En}{σ:Sg}{H:Hp}{D:Addr}(I:SI Y B ρ σ H)(hb:B D=none)(h0:Y.H0 D=none)(ho:∀(i:Nat) (ts:List T),ρ[i]? =some (Sl.ow ts)->σ[i]? ≠ some (some (V.ref D)))(hso:∀(i:Nat) (x:Sl),ρ[i]? =some x->Sl.isS x=true->False)(o:HO):SI Y B ρ σ (upd H D o) where
 s0:=I.s0
 sH:=λb u h=>by
  rw[zn (λz=>by subst z;rw[h0]at h;cases h)];exact I.sH b u h
 sB:=λb u h=>by
  rw[zn (λz=>by subst z;rw[hb]at h;cases h)];exact I.sB b u h
 old:=I.old
 len:=I.len
 vl:=I.vl
 ow:=λi ts h=>by
  obtain⟨a,xs,e,b0,h0',hh,r,d⟩:=I.ow i ts h;refine⟨a,xs,e,b0,h0', ?_,r,d⟩;rw[zn (λz=>ho i ts h (by rw[e,z]))];exact hh
 xc:=I.xc
 st:=let ⟨as,O,x⟩:=I.st;⟨as,O,x.pre,λi os h=>hso i _ h rfl |>.elim,λi j os os' h=>hso i _ h rfl |>.elim,λi k n h=>hso i _ h rfl |>.elim,x.oc,λi os h=>hso i _ h rfl |>.elim⟩
noncomputable def X6 (ρ:En):Prop:=∀(i:Nat) (x:Sl),ρ[i]? =some x->(∀ts,x ≠ Sl.ow ts)/\(x.isS=true->False)
theorem Qh (k:Nat)(js:List Nat)(ρ:En):X6 (w8 k js ρ):=λi x h=>by
 unfold w8 at h
 by_cases hik:i < k
 ·rw[aN (by simpa using hik),aL,if_pos hik]at h
  cases h;exact⟨λ_=>Sl.noConfusion,ax⟩
 ·have hk' :=by omega
  rw[aK (by simpa using hk'),aI,aj]at h
  cases ej:js[i - k]? with
  | none=>rw[ej]at h;cases h
  | some j=>
   rw[ej]at h;have h' :ud _=x:=aD h;unfold ud at h';split at h' <;> (subst h';exact⟨λ_=>Sl.noConfusion,ax⟩)
theorem wQ {ρ:En}{i:Nat}{t:T}(h:X6 ρ):X6 (ρ.set i (.vl t)):=λj x e=>by
 rcases zB e with ⟨_,z⟩ | ⟨_,z⟩
 ·subst z;exact⟨λ_=>Sl.noConfusion,ax⟩
 ·exact h j x z
noncomputable def GNo (g:T->En->R En):Prop:=(∀t ρ ρ',X6 ρ->g t ρ= .ok ρ' ->X6 ρ')/\∀t ρ c,g t ρ ≠ .ex c
theorem Qi (i:Nat):GNo (zl i):=⟨λt ρ ρ' h e=>by
 cases e;exact wQ h,λt ρ c e=>by cases e⟩
theorem Qj (i j:Nat):GNo (zK i j):=⟨λt ρ ρ' h e=>(by
 unfold zK at e;split at e
 ·cases e;exact wQ (wQ h)
 ·cases e),λt ρ c e=>by unfold zK at e;split at e <;> cases e⟩
section
variable {X:Cx}{Y:Fx}{tg iter elt:Expr}{ifs:List Expr}{scope:Scope}{pos pos' :Pos}{N' :List Str}{k:Nat}{js:List Nat}{fi:En->R (List T)}{tG:TG}{g:T->En->R En}{ft:En->R Bool}{fe:En->R T}
structure wR (X:Cx) (Y:Fx) (ifs:List Expr) (f:En->R Bool):Prop where
 mk ::
 go:∀ρ,PIf X ifs (tS Y rE f ρ)
noncomputable instance {X:Cx}{Y:Fx}{ifs:List Expr}{f:En->R Bool}:CoeFun (wR X Y ifs f) λ_=>∀ρ,PIf X ifs (tS Y rE f ρ):=⟨wR.go⟩
theorem PIf.imp {X:Cx}{e:List Expr}{t t' :TT}(h:PIf X e t)(i:∀σ H Q,t' σ H Q->t σ H Q):PIf X e t' :=λpins s σ H Q I q=>h _ s σ H Q I (i σ H Q q)
noncomputable def zN:En->R Bool:=λ_=> .ok true
theorem kB {X:Cx}:wR X Y [] zN:= .mk λρ=>PIf.imp VN λσ H Q ⟨B,I,q⟩=>ZB I q rfl
theorem kC {X:Cx}{c:Expr}(h:Wx X Y c ft):wR X Y [c] ft:= .mk λρ=>VO (h ρ)
noncomputable def CEnd (r:R (List T))(P:List T->Prop)(Z:Nat->Prop):Prop:=match r with
 | .ok vs=>P vs
 | .ex c=>Z c
 | .bad=>False
theorem Ux {B1 H1:Hp}{σ:Sg}{ρ:En}{J:It}{ts:List T}{r:R (List T)}{D:Addr}{E0:XK}(hG:GOk tG g)(hN:GNo g)(I:SI Y B1 ρ σ H1)(rI' :rI B1 H1 J ts)(hl:ts.length<=bnd)(ev:zr g ft fe ts (w8 k js ρ)=r)(hD:H1 D=none){F:Hp->Prop}
  (hF:CEnd r (λvs=>∀H' xs B',zm H1 H' ->H' D=some (.lst xs)->zD B' xs vs->zm B' (zO B1 H1 H')->B' D=none->zm B1 B' ->F H') λc=>∀d H',zm H1 H' ->zm B1 H' ->E0 (Y.cl c) d H'):
  ∃W,(∃m,W 0 m [] (uG k js σ) (upd H1 D (.lst [])))/\Qe J D tG (λσ H Q=>∃Y' ρ',Y'.cl=Y.cl/\tS Y' rE ft ρ' σ H Q) (λσ H Q=>∃Y' ρ',Y'.cl=Y.cl/\Y'.E=E0/\tS Y' rC fe ρ' σ H Q) (λ_ H' =>F H') W:=by
 refine⟨λi m ys σ' H' =>m=ts.length - i/\i<=ts.length/\ys.length<=i/\H' D=some (.lst ys)/\∃ρ' B' us,SI ⟨B1,H1,E0,Y.cl,[]⟩ B' ρ' σ' H' /\X6 ρ' /\zm B1 B' /\B' D=none/\zD B' ys us/\((zr g ft fe (ts.drop i) ρ').bind λws=> .ok (us++ws))=r,
  ⟨ts.length,by simp,ba _,ba _,zE,_,B1,[],I.block (H3:=H1) k js _ hD _,Qh k js ρ,zm.refl _,I.sB.free hD,.nil,by rw[dh,ev];cases r <;> rfl⟩, ?_⟩
 rintro i m ys σ' H' ⟨rfl,hi,hyl,hDl,ρ',B',us,I',no',s1',bD,r',ew⟩
 refine⟨hDl, ?_⟩;obtain⟨hgo,hyld,hstop⟩:=rI' B' H' s1' I'.sB;have tD:∀H2,zm H' H2->zO B' H' H2 D=none:=λH2 s=>by rw[Z7 hDl];exact bD
 by_cases hlt:i < ts.length
 ·refine .inr ⟨hgo i hlt,λx H2 y=> ?_⟩;obtain⟨s2,r2⟩:=hyld i _ x H2 (a9 hlt) y;rw[dW hlt]at ew;unfold zr at ew;have I2:=I'.grow s2;refine hG _ _ ρ' σ' H2 x _ _ I2 r2 ?_;cases eg:g ts[i] ρ' with
  | bad=>rw[eg]at ew;subst ew;exact hF
  | ex c=>exact(hN.2 _ _ _ eg).elim
  | ok ρ1=>
   rw[eg]at ew;have no1:=hN.1 _ _ _ no' eg;intro σ1 J1;refine⟨⟨B1,H1,E0,Y.cl,[]⟩,ρ1,rfl,_,J1, ?_⟩;have ew1:((ft ρ1).bind (λk=>if k=true then (fe ρ1).bind λv=>(zr g ft fe (ts.drop (i+1)) ρ1).bind λvs=> .ok (v :: vs) else zr g ft fe (ts.drop _) ρ1)).bind (λws=> .ok _)=r:=ew
   cases ef:ft ρ1 with
   | bad=>rw[ef]at ew1;subst ew1;exact hF
   | ex c=>
    rw[ef]at ew1;subst ew1;exact λd H' a b=>hF d H' a ((s1'.trans (zO.ge I'.sB s2)).trans b)
   | ok kk=>
    rw[ef]at ew1;intro b H3 s3 eb;have eb' :=eb;subst eb';have ew2:=ew1;have J2:=J1.grow s3;have hD3:H3 D=some _:=s3 _ _ (s2 _ _ hDl);have bD3:zO (zO B' H' H2) H2 H3 D=none:=by rw[Z7 (s2 _ _ hDl)];exact tD H2 s2
    have sB3:=(zO.ge I'.sB s2).trans (zO.ge I2.sB s3);cases b with
    | false=>exact⟨ts.length - (i+1),by omega,rfl,hlt,by omega,hD3,ρ1,_,us,J2,no1,s1'.trans sB3,bD3,r'.mono sB3,ew2⟩
    | true=>
     refine⟨⟨B1,H1,E0,Y.cl,[]⟩,ρ1,rfl,rfl,_,J2, ?_⟩;have ew3:=ew2;cases ee:fe ρ1 with
     | bad=>rw[ee]at ew3;subst ew3;exact hF
     | ex c=>
      rw[ee]at ew3;subst ew3;exact λd H' a b=>hF d H' a ((s1'.trans sB3).trans b)
     | ok v=>
      rw[ee]at ew3;have ew4:=ew3;have ew5:(zr g ft fe (ts.drop (i+1)) ρ1).bind (λws=> .ok ((us++[v])++ws))=r:=by
       rw[← ew4];cases zr g ft fe _ ρ1 with
       | ok ws=>show R.ok _=R.ok _;rw[bx];rfl
       | _=>rfl
      intro w H4 s4 rw4;have hD4:=s4 _ _ hD3;have J3:=J2.grow s4;have bD4:zO (zO (zO B' H' H2) H2 H3) H3 H4 D=none:=by rw[Z7 hD3];exact bD3
      have sB4:=sB3.trans (zO.ge J2.sB s4);refine⟨hD4,aF (bV hyl hlt) (ZC hl),ts.length - (i+1),by omega,rfl,hlt,by rw[aB,aJ];omega,zE,ρ1,_,us++[v], ?_,no1,s1'.trans sB4,bD4,(r'.mono sB4).append (.cons rw4 .nil),ew5⟩
      exact J3.acc bD4 hD (λj ts' e=>((no1 j _ e).1 ts' rfl).elim) (λj x e=>(no1 j x e).2) _
 ·have e:i=ts.length:=by omega
  subst e;refine .inl ⟨hstop _ (ai _), ?_⟩;rw[hU]at ew;have ew' :R.ok _=r:=ew;rw[bA]at ew';subst ew';refine hF H' ys B' I'.sH hDl r' (λb o h=> ?_) bD s1';cases q:H1 b with
  | none=>rw[Z6 q];exact I'.sB b o h
  | some u=>
   rw[Z7 q];have z:B' b=B1 b:=I'.old b u q;rw[← z];exact h
theorem JG {B1 H1:Hp}{σ:Sg}{ρ:En}{J:It}{ts vs:List T}{D:Addr}(hG:GOk tG g)(hN:GNo g)(I:SI Y B1 ρ σ H1)(rI' :rI B1 H1 J ts)(hl:ts.length<=bnd)(ev:zr g ft fe ts (w8 k js ρ)= .ok vs)(hD:H1 D=none){F:Hp->Prop}
  (hF:∀H' xs B',zm H1 H' ->H' D=some (.lst xs)->zD B' xs vs->zm B' (zO B1 H1 H')->B' D=none->zm B1 B' ->F H'):
  ∃W,(∃m,W 0 m [] (uG k js σ) (upd H1 D (.lst [])))/\Qe J D tG (λσ H Q=>∃Y' ρ',Y'.cl=Y.cl/\tS Y' rE ft ρ' σ H Q) (λσ H Q=>∃Y' ρ',Y'.cl=Y.cl/\(Y'.E=λ_ _ _=>False)/\tS Y' rC fe ρ' σ H Q) (λ_ H' =>F H') W:=Ux hG hN I rI' hl ev hD hF
structure wn (X:Cx) (Y:Fx) (tg iter elt:Expr) (ifs:List Expr) (scope:Scope) (N' :List Str) (k:Nat) (js:List Nat) (fi:En->R (List T)) (tG:TG) (g:T->En->R En) (ft:En->R Bool) (fe:En->R T):Prop where
 sc:CSc X scope
 cp:gq X scope N' k js
 cm:X.calm=true
 it:uc X Y tg iter fi
 gt:vC X scope N' λXC=>PG XC tg tG
 gk:GOk tG g
 gn:GNo g
 tt:∀Y',Y'.cl=Y.cl->vC X scope N' λXC=>wR XC Y' ifs ft
 el:∀Y',Y'.cl=Y.cl->kA X scope N' Y'.E λXC=>Snd XC Y' elt fe
 hs:∀x,foldedSetIterable iter X.env x=pure x
theorem vD (C:wn X Y tg iter elt ifs scope N' k js fi tG g ft fe):Snd X Y (.ListComp elt [⟨tg,iter,ifs,0⟩] scope pos) (zF fi g ft fe k js):= .mk λρ=>by
 intro pins s σ H Q I ⟨B,J,q⟩;refine wP (jS rfl) (F:=λD H' =>Q (.ref D) H') (te:=λσ H Q=>∃Y' ρ',Y'.cl=Y.cl/\(Y'.E=λ_ _ _=>False)/\tS Y' rC fe ρ' σ H Q) (tt:=λσ H Q=>∃Y' ρ',Y'.cl=Y.cl/\tS Y' rE ft ρ' σ H Q) C.sc C.cp C.cm (C.it ρ) C.gt
  (λcl Cx' s3 H3 fp pins pins' s σ H Q I ⟨Y',ρ',ey,q⟩=>C.tt Y' ey cl Cx' s3 H3 fp _ ρ' _ s σ H Q I q) (λcl Cx' s3 H3 fp pins xe hp pins' s σ H Q I ⟨Y',ρ',ey,eE,q⟩=>C.el Y' ey cl Cx' s3 H3 fp _ xe (eE ▸ hp) ρ' _ s σ H Q I q) I ?_ ?_ C.hs
 ·refine step J q λts it' H1 _ s1 r1 J1 q1=> ?_;intro D hD;unfold zp at q1;split at q1
  ·rename_i hl;cases ev:zr g ft fe ts _ with
   | bad=>rw[ev]at q1;exact q1.elim
   | ex c=>rw[ev]at q1;exact q1.elim
   | ok vs=>
    rw[ev]at q1;refine JG C.gk C.gn J1 r1 hl ev hD λH' xs B' s' e' r' l' b' sb' => ?_;refine(show Po Y rC _ H1 _ Q from q1) _ H' s' ?_;exact .lst (by rw[Z6 hD];exact e') (r'.mono l')
  ·exact q1.elim
 ·intro D Cc H' s' I' q' hC h0 hL hcell hpin hns;obtain⟨m,hm⟩:=hns;refine⟨m,hm,λh' hsb=>⟨.ref D,H', ?_,rfl,q'⟩⟩;exact I'.turned (λb o hb e=>hsb.extBut b o hb e) hC (bv hL).symm (.inr h0) hcell hpin
end
section
variable {X:Cx}{Y:Fx}{tg iter elt:Expr}{ifs:List Expr}{scope:Scope}{pos pos' :Pos}{N' :List Str}{k:Nat}{js:List Nat}{fi:En->R (List T)}{tG:TG}{g:T->En->R En}{ft:En->R Bool}{fe:En->R T}
theorem vF {i:Nat}{x:Str}{pc p' :Pos}(C:wn X Y tg iter elt ifs scope N' k js fi tG g ft fe)(hN:X.N.Nodup)(hi:X.N[i]? =some x)(hx:L2.Loc X.env.scope x)
  (hsw:swapsWith (.ListComp elt [⟨tg,iter,ifs,0⟩] scope pc) (some (.Name x p')) pos.line X.env=pure true) (hf:X.fn x=true\/X.env.scope.names.lookup x=some .local:=by first | exact .inl rfl | exact .inr rfl | assumption):
  wm X Y (.Assign [.Name x p'] (.ListComp elt [⟨tg,iter,ifs,0⟩] scope pc) pos) (zz i (zF fi g ft fe k js)):= .mk λρ=>by
 intro pins s σ H D I ⟨B,J,q⟩;rw[exec_Assign_Name_used _ _ _ _ hsw];refine a7 (wpAny_standAt (a7 ?_));refine a7 (thn (wP (jS rfl) (F:=λD' H' =>D.nx (σ.set i (some (.ref D'))) H') (te:=λσ H Q=>∃Y' ρ',Y'.cl=Y.cl/\(Y'.E=λ_ _ _=>False)/\tS Y' rC fe ρ' σ H Q) (tt:=λσ H Q=>∃Y' ρ',Y'.cl=Y.cl/\tS Y' rE ft ρ' σ H Q) C.sc C.cp C.cm (C.it ρ) C.gt
  (λcl Cx' s3 H3 fp pins pins' s σ H Q I ⟨Y',ρ',ey,q⟩=>C.tt Y' ey cl Cx' s3 H3 fp _ ρ' _ s σ H Q I q) (λcl Cx' s3 H3 fp pins xe hp pins' s σ H Q I ⟨Y',ρ',ey,eE,q⟩=>C.el Y' ey cl Cx' s3 H3 fp _ xe (eE ▸ hp) ρ' _ s σ H Q I q) I ?_ ?_ C.hs) λ_ s' hq=>am (am hq))
 ·have q' :PoS Y B (((fi ρ).s λts=>(zp g ft fe k js ρ ts).s λvs=> .nx (ρ.set i (.vl (.lst vs))))) D:=by
   unfold zz zF at q;revert q;cases fi ρ with
   | bad=>exact λq=>q
   | ex c=>exact λq=>q
   | ok ts=>
    intro q;have q2:PoS Y B (((zp g ft fe k js ρ ts).bind λvs=>R.ok _).s λt=>RS.nx _) D:=q;show PoS Y B ((zp g ft fe k js ρ ts).s λvs=>RS.nx _) D;revert q2;cases zp g ft fe k js ρ ts with
    | bad=>exact λq=>q
    | ex c=>exact λq=>q
    | ok vs=>exact λq=>q
  refine Jk J q' λts it' H1 _ s1 r1 J1 q1=> ?_;intro D' hD;unfold zp at q1;split at q1
  ·rename_i hl;cases ev:zr g ft fe ts _ with
   | bad=>rw[ev]at q1;exact q1.elim
   | ex c=>rw[ev]at q1;exact q1.elim
   | ok vs=>
    rw[ev]at q1;refine JG C.gk C.gn J1 r1 hl ev hD λH' xs B' s' e' r' l' b' sb' => ?_;have rr:Rep _ _ _:= .lst (by rw[Z6 hD];exact e') (r'.mono l')
    exact q1 _ _ _ (zO.ge J1.sB s') ((J1.grow s').setV i rr)
  ·exact q1.elim
 ·intro D' Cc H' s' I' q' hC h0 hL hcell hpin hns;obtain⟨m,hm⟩:=hns;refine wpAny_assign_Name (Wm (v:= .ref D') I' hN hi hx rfl (λs'' I'' ⟨a,hsb,ha⟩=> ?_) hf);have hne:Cc ≠ a:=by
   rcases ha with rfl | ha
   ·exact hL
   ·exact(hcell x a ha).symm
  refine⟨m,hm.sameBut hsb hne,λh' hsb' =>⟨_,H', ?_,q'⟩⟩;exact I''.turned (λb o hb e=>hsb'.extBut b o hb e) hC hL (.inr h0) hcell hpin
end
noncomputable def Itc (x:Str):It:=⟨λi _=>i < x.cps.size,λi H v H' =>H' =H/\∃c,x.cps[i]? =some c/\v= .str ⟨#[c]⟩,λi _=>x.cps.size<=i⟩
theorem wo {P:Program}{w:World}{K:ae}{tg:Expr}{x:Str}{t:Tok}{ty:String}(it:Addr)(hty:ty="str_ascii_iterator"\/ty="str_iterator"):UO P w K tg (Itc x) [it] it (λi h=>h.IsStrIter it ty x t i):=by
 have W:∀A:Around,A.handled=none->Walks P w A it [it] [it] x.cps.size (SignAt x) (λi h=>h.IsStrIter it ty x t i):=λA hA=>by
  rcases hty with rfl | rfl
  ·exact Walks.strAscii hA it x t
  ·exact Walks.strWide hA it x t
 have hn:["enumerate","zip","dict_itemiterator","dict_reverseitemiterator","odict_iterator","itertools.zip_longest","itertools.pairwise"].contains ty=false:=by rcases hty with rfl | rfl <;> decide
 refine⟨by simp,λi h st b hb=> ?_,λi h h' st k=> ?_, ?_, ?_,λA i s Q E st h=> ?_⟩
 ·have e:b=it:=by simpa using hb
  subst e;obtain⟨o,e,c,d⟩:=st;exact⟨o,e,λv z=>by rw[d]at z;cases z⟩
 ·obtain⟨o,e,r⟩:=st;exact⟨o,k it (by simp) o e,r⟩
 ·intro X hP hw hK hc i pins s σ H E I hf st hg;obtain⟨f0,f1,f2,f3,f4,f5⟩:=hf it (by simp)
  refine(W X.A (I.ok.hd hc)).item i s _ _ hg st λv h' tk hv st' kk=> ?_;obtain⟨c,u,hc',rfl⟩:=hv;have I1:L2.Inv X _ σ H { s with heap:=h',toks:=tk }:=I.turned (λb o hb e=>kk b o (by simpa using hb) e) f0 f1 f3 f4 f5
  obtain⟨o,e,cl,d⟩:=id st';exact⟨_,rfl,Uj e cl d hn ⟨.str _,H,I1,⟨u,rfl⟩,⟨rfl,c,hc',rfl⟩,st',λb hb=>(hf b hb).1⟩⟩
 ·intro X hP hw hK hc i pins s σ H E I hf st hg;obtain⟨f0,f1,f2,f3,f4,f5⟩:=hf it (by simp)
  have hx:=cA hg;rcases hty with rfl | rfl
  ·exact wpAny_pyNext_ascii_end (I.ok.hd hc) st hx λh' eb=>⟨rfl,I.turned (λb o hb e=>eb b o hb e) f0 f1 f3 f4 f5⟩
  ·exact wpAny_pyNext_wide_end (I.ok.hd hc) st hx λh' eb=>⟨rfl,I.turned (λb o hb e=>eb b o hb e) f0 f1 f3 f4 f5⟩
 ·rcases hty with rfl | rfl
  ·exact wpAny_pyIter_striter_ascii st h
  ·exact wpAny_pyIter_striter_wide st h
noncomputable def jD (x:Str):List T:=x.cps.toList.map λc=>T.str ⟨#[c]⟩
theorem Qk {B1 H1:Hp}{x:Str}:rI B1 H1 (Itc x) (jD x):=λB2 H2 s1 s2=>by
 have hl:(jD x).length=x.cps.size:=by unfold jD;simp
 refine⟨λi hi=>by rw[hl]at hi;exact hi,λi t v H3 e y=> ?_,λi hi=>by rw[hl]at hi;exact hi⟩
 obtain⟨rfl,c,hc,rfl⟩:=y;refine⟨zm.refl _, ?_⟩;unfold jD at e;rw[aj]at e;have hc' :x.cps.toList[i]? =some c:=by simpa using hc
 rw[hc']at e;cases e;exact .str _
section
variable {X:Cx}{Y:Fx}{a b c d tg:Expr}{fa fb fc fd:En->R T}{pos p:Pos}
theorem kD {l:Expr}{tl:TE}(hl:PE X l tl):PI X tg l (λσ H R=>tl σ H λx H1=>(∃a,x= .ref a/\(((∃xs,SqL X.K H1 a xs)/\R (Itl X.K a) H1)\/((∃xs,SqT X.K H1 a xs)/\R (Itt X.K a) H1)))\/(∃z,x= .str z/\R (Itc z) H1)):=by
 intro pins s σ H R I h;refine thn (hl _ s σ H _ I h) λv s1 ⟨x,H1,I1,r1,q1⟩=> ?_;have ok:∀b∈[s1.heap.objs.size],wb X _ H1 b:=λb hb=>by
  have e:=by simpa using hb
  subst e;exact I1.fpOk (ai _) (I1.hok.fresh (ai _))
 rcases q1 with ⟨a,e,q⟩ | ⟨z,e,q⟩
 ·subst e;obtain rfl:v=Value.ref a:=r1;rcases q with ⟨⟨xs,hq⟩,q⟩ | ⟨⟨xs,hq⟩,q⟩
  ·obtain⟨its,rv,p,hz⟩:=I1.list hq;exact b_ p.isList ⟨s1.heap.objs.size,[s1.heap.objs.size],_,_,H1,rfl,I1.kept λb o e=>af _ e,UZ a _,⟨_,ag _ rfl,rfl,rfl⟩,ok,q⟩
  ·obtain⟨its,rv,p,hz⟩:=I1.tuple hq;exact wpAny_pyIter_tuple (show s1.heap.IsTuple a _ from p) ⟨s1.heap.objs.size,[s1.heap.objs.size],_,_,H1,rfl,I1.kept λb o e=>af _ e,Uk a _,⟨_,ag _ rfl,rfl,rfl⟩,ok,q⟩
 ·subst e;obtain⟨t,rfl⟩:=r1;cases ha:z.cps.all _
  ·exact wpAny_pyIter_wide ha ⟨s1.heap.objs.size,[s1.heap.objs.size],_,_,H1,rfl,I1.kept λb o e=>af _ e,wo _ (.inr rfl),⟨_,ag _ rfl,rfl,rfl⟩,ok,q⟩
  ·exact wpAny_pyIter_ascii ha ⟨s1.heap.objs.size,[s1.heap.objs.size],_,_,H1,rfl,I1.kept λb o e=>af _ e,wo _ (.inl rfl),⟨_,ag _ rfl,rfl,rfl⟩,ok,q⟩
noncomputable def Jb:T->R (List T)
 | .lst xs=> .ok xs
 | .tup xs=> .ok xs
 | .str x=> .ok (jD x)
 | _=> .bad
noncomputable def Zs (fa:En->R T):En->R (List T):=λρ=>(fa ρ).bind Jb
theorem z08 (ha:Snd X Y a fa):uc X Y tg a (Zs fa):= .mk λρ=>PI.imp (kD (ha ρ)) λσ H R ⟨B,I,q⟩=>step I q λt v H1 _ s1 r1 I1 q1=>by
 cases r1 with
 | @tup l xs ts h r=>
  exact .inl ⟨l,rfl,.inr ⟨⟨xs,SqT.of (I1.sB _ _ h)⟩,ZB I1 (show Po Y rI _ H1 _ R from q1) (kq h r)⟩⟩
 | @lst l xs ts h r=>
  exact .inl ⟨l,rfl,.inl ⟨⟨xs,SqL.of (I1.sB _ _ h)⟩,ZB I1 (show Po Y rI _ H1 _ R from q1) (kr h r)⟩⟩
 | str z=>exact .inr ⟨z,rfl,ZB I1 (show Po Y rI _ H1 _ R from q1) Qk⟩
 | _=>exact q1.elim
end
theorem Inv.laidT {X:Cx}{pins:List (Addr×Obj)}{σ:Sg}{H:Hp}{s:Shared}{h' :Heap}{tk:Nat}{ch:List Addr}{a:Addr}{xs:List V}(I:L2.Inv X pins σ H s)(hf:∀b∈ch,wb X pins H b)(k:∀b o,b ∉ ch->s.heap.get? b=some o->h'.get? b=some o)
  (th:∀b o,b∈ch->s.heap.get? b=some o->∃o',h'.get? b=some o') (ha:s.heap.objs.size<=a) (new:Zj X.prog X.w (upd H a (.tup xs)) h' a (.tup xs)):L2.Inv X pins σ (upd H a (.tup xs)) { s with heap:=h',toks:=tk }:=by
 have hn:=I.hok.fresh ha;have nch:∀b u,H b=some u->b ∉ ch:=λb u e hb=>by rw[(hf b hb).1]at e;cases e
 refine I.call' rfl ⟨λb o e n _ hc=>k b o hc e,λb o e n _ hc=>⟨o.slots,k b o hc e⟩,λb o e n _=>by rw[zn (aC (aF (ao e) ha))];exact n,λb o e hc=>⟨o,k b o hc e⟩,
  λb ys e=>by rw[zn (zA e hn)];exact e,λb o u e=>by rw[zn (zA e hn)];exact e,λb ps q e=>by rw[zn (zA e hn)];exact e⟩ (λb u e=> ?_) I.bare λb hb=> ?_
 ·by_cases hb:b=a
  ·subst hb;rw[zE]at e;cases e;exact new
  ·rw[zn hb]at e;refine(I.hok b u e).stay (λc v hc q=> ?_) (λc q=>by rw[zn (zA q hn)];exact q) (λc ys q=>by rw[zn (zA q hn)];exact q) λc o u q=>by rw[zn (zA q hn)];exact q
   rcases hc with rfl | hc
   ·exact k c v (nch c u e) q
   ·exact k c v (nch c _ hc) q
 ·obtain⟨f0,f1,f2,f3,f4,f5⟩:=hf b hb;exact⟨f3,f1,f4,f5⟩
noncomputable def Ite (K:ae)(l:Addr):It:=
 ⟨λi H=>∃xs x,SqL K H l xs/\xs[i]? =some x,λi H v H' =>∃p x,H p=none/\v= .ref p/\(∀xs,SqL K H l xs->xs[i]? =some x)/\H' =upd H p (.tup [.int i,x]),λi H=>∃xs,SqL K H l xs/\xs.length<=i⟩
theorem yI {P:Program}{w:World}{K:ae}{elts:List Expr}{kk:Nat}{pt:Pos}(e it l:Addr)(hei:e ≠ it)(hle:l ≠ e)(hli:l ≠ it):
  UO P w K (.Tuple elts kk pt) (Ite K l) [e,it] e (λi h=>(∃old,IsEnum h e it i old)/\h.IsListIter it l i) where
 mem:=by simp
 obj:=λi h st b hb=>by
  obtain⟨⟨old,he⟩,o,e1,c,d⟩:=st;rcases ah.mp hb with rfl | hb
  ·exact⟨_,he,λv z=>nomatch z⟩
  ·have z:b=it:=by simpa using hb
   subst z;exact⟨o,e1,λv z=>by rw[d]at z;cases z⟩
 keep:=λi h h' st k=>by
  obtain⟨⟨old,he⟩,hit⟩:=st;exact⟨⟨old,k e (by simp) _ he⟩,hit.at λo x=>k it (by simp) o x⟩
 item:=by
  intro X hP hw hK hc i pins s σ H E I hf st hg;subst hP hw hK;obtain⟨xs,x,hq,hx⟩:=hg;obtain⟨its,rv,p,hz⟩:=I.list hq;obtain⟨u,hu,ru⟩:=rv.get hx;obtain⟨⟨old,he⟩,hit⟩:=st;have hi:i < its.toArray.size:=by
   have:=(ak.mp hu).1;simpa using this
  refine(hV (prog:=X.prog) (w:=X.w) (I.ok.hd hc) e it l hei hle hli its.toArray).item i s _ _ hi ⟨⟨old,he⟩,hit,p.isList⟩ λT vals h' tk hP hT hTup hM hk=> ?_;obtain⟨t,y,hy,rfl⟩:=hP;have hyu:y=u:=by
   have:its[i]? =some y:=by simpa using hy
   rw[hu]at this;exact(aD this).symm
  subst hyu;refine⟨.ref T,rfl, ?_⟩;refine(hV (prog:=X.prog) (w:=X.w) (I.ok.hd hc) e it l hei hle hli its.toArray).go elts kk pt i T _ _ _ hM λh2 hst2 hk2=> ?_;have hTn:H T=none:=I.hok.fresh hT;have hTne:∀b∈[e,it],b ≠ T:=λb hb z=>by
   obtain⟨_,_,_,h3,h4⟩:=hM;rcases ah.mp hb with rfl | hb
   ·exact h3 z.symm
   ·have:b=it:=by simpa using hb
    subst this;exact h4 z.symm
  have uR:IsTup h2 T #[.int i t,y]:=by
   obtain⟨o,eo,r⟩:=hTup;exact⟨o,hk2 T o (λhb=>hTne T hb rfl) eo,r⟩
  refine⟨.ref T,upd H T (.tup [.int i,x]),Inv.laidT (s:=s) (h' :=h2) (ch:=[e,it]) (tk:=tk) I hf (λb o hb e=>hk2 b o hb (hk b o hb e)) (λb o hb _=> ?_) hT ⟨by rw[bZ];show 2<=16777216;decide,[.int i t,y],.cons ⟨t,rfl⟩ (.cons ru .nil),uR,.inl ⟨_,_,rfl⟩⟩,rfl,⟨T,x,hTn,rfl,λys hy=>by rw[I.list_inj hy hq];exact hx,rfl⟩,⟨hst2.1,hst2.2.1⟩,λb hb=> ?_⟩
  ·obtain⟨⟨old2,he2⟩,⟨o2,eo2,_⟩,_⟩:=hst2;rcases ah.mp hb with rfl | hb
   ·exact⟨_,he2⟩
   ·have:b=it:=by simpa using hb
    subst this;exact⟨o2,eo2⟩
  ·rw[zn (hTne b hb)];exact(hf b hb).1
 done:=by
  intro X hP hw hK hc i pins s σ H E I hf st hg;subst hP hw hK;obtain⟨xs,hq,hx⟩:=hg;obtain⟨its,rv,p,hz⟩:=I.list hq;obtain⟨⟨old,he⟩,hit⟩:=st;have hl:=rv.length;refine wpAny_pyNext_enum_end (I.ok.hd hc) he hit p.isList (cA (by simp;omega)) λh' hk=>⟨rfl, ?_⟩
  obtain⟨f0,f1,f2,f3,f4,f5⟩:=hf it (by simp)
  exact I.turned (t' :=s.toks) (λb o hb e=>hk b o hb e) f0 f1 f3 f4 f5
 self:=λ_ _ _ _ _ st h=>let ⟨⟨_,he⟩,_⟩:=st;wpAny_pyIter_enum he h
noncomputable def jq (xs:List T):List T:=(xs.zipIdx).map λp=>T.tup [.int (p.2:Nat),p.1]
theorem WB {xs:List T}{i:Nat}{t:T}(h:(jq xs)[i]? =some t):∃x,xs[i]? =some x/\t= .tup [.int (i:Nat),x]:=by
 unfold jq at h;rw[aj,List.getElem?_zipIdx]at h;cases e:xs[i]? with
 | none=>rw[e]at h;cases h
 | some x=>rw[e]at h;cases h;exact⟨x,rfl,by simp⟩
theorem Jc (xs:List T):(jq xs).length=xs.length:=by unfold jq;simp
theorem VP {K:ae}{B1 H1:Hp}{a:Addr}{xs:List V}{ts:List T}(h:B1 a=some (.lst xs))(r:zD B1 xs ts):rI B1 H1 (Ite K a) (jq ts):=λB2 H2 s1 s2=>by
 have h2:=s2 _ _ (s1 _ _ h);rw[Jc];refine⟨λi hi=> ?_,λi t x H3 e y=> ?_,λi hi=>⟨xs,SqL.of h2,by rw[r.length];exact hi⟩⟩
 ·obtain⟨v,e,_⟩:=r.get (a9 hi);exact⟨xs,v,SqL.of h2,e⟩
 ·obtain⟨p,v,hp,rfl,y,rfl⟩:=y;obtain⟨t',et,rfl⟩:=WB e;obtain⟨v',e1,r1⟩:=r.get et;have:=y xs (SqL.of h2);rw[e1]at this;cases this;refine⟨zm.new hp _,.tup (ZX hp _) (.cons (.int _) (.cons ?_ .nil))⟩;exact(r1.mono s1).mono (zO.ge s2 (zm.new hp _))
section
variable {X:Cx}{Y:Fx}{a:Expr}{fa:En->R T}{pos p pt:Pos}{elts:List Expr}{kk:Nat}
theorem VQ {ta:TA}(hg:Gl X "enumerate")(hm:X.mg "enumerate"=none)(ha:PA X [a] ta)(hs:St1 X a:=by exact st1 rfl):
  PI X (.Tuple elts kk pt) (.Call (.Name "enumerate" p) [a] [] pos) (λσ H R=>ta σ H λvs H1=>∃l xs,vs=[.ref l]/\H1 l=some (.lst xs)/\R (Ite X.K l) H1):=by
 intro pins s σ H R I h;refine Call_ (ZP I hg hm PyProof.Rows.Boot.«enumerate» (aO (thn (ha pos _ s σ H _ I h) λus s1 ⟨vs,H1,I1,r1,q1⟩=> ?_) hs rfl));obtain⟨l,xs,e,hl,q⟩:=q1;subst e;obtain⟨u,rfl,ru⟩:=Zx r1;obtain rfl:u=Value.ref l:=ru;obtain⟨_,its,n,rv,eo⟩:=(show Zj _ X.w H1 _ l _ from I1.hok l _ hl);have hlt:=ao eo;refine call_enumerate_1 eo λh' he hit hsz hk=>wpAny_pyIter_enum he ?_;have f:∀b∈[s1.heap.objs.size+1,s1.heap.objs.size],wb X _ H1 b:=λb hb=>by
  rcases ah.mp hb with rfl | hb
  ·exact I1.fpOk (dZ _) (I1.hok.fresh (dZ _))
  ·have z:=by simpa using hb
   subst z;exact I1.fpOk (ai _) (I1.hok.fresh (ai _))
 exact⟨s1.heap.objs.size+1,[s1.heap.objs.size+1,s1.heap.objs.size],_,_,H1,rfl,I1.kept hk,yI _ _ l (hW _) (aC (cH hlt)) (aC hlt),⟨⟨_,he⟩,hit⟩,f,q⟩
noncomputable def VR (fa:En->R T):En->R (List T):=λρ=>(fa ρ).bind λt=>match t with
 | .lst xs=> .ok (jq xs)
 | _=> .bad
theorem kF (hg:Gl X "enumerate")(hm:X.mg "enumerate"=none)(ha:Snd X Y a fa)(hs:St1 X a:=by exact st1 rfl):uc X Y (.Tuple elts kk pt) (.Call (.Name "enumerate" p) [a] [] pos) (VR fa):= .mk λρ=>
 PI.imp (VQ hg hm (zy (ha ρ) zX hs) hs) λσ H R ⟨B,I,q⟩=>step I q λt v H1 _ s1 r1 I1 q1=>by
  cases r1 with
  | @lst l xs ts h r=>exact⟨l,xs,rfl,I1.sB _ _ h,ZB I1 (show Po Y rI _ H1 _ R from q1) (VP h r)⟩
  | _=>exact q1.elim
noncomputable def UR:List T->Option (List Str)
 | []=>some []
 | .str x :: r=>match UR r with | some ys=>some (x :: ys) | none=>none
 | _ :: _=>none
noncomputable def kG (sep:Str):T->R T
 | .lst ts=>match UR ts with
  | some ys=>if (ys.map (·.length)).sum+ys.length*sep.length<=16777216 then .ok (.str (Txt.join sep ys)) else .bad
  | none=> .bad
 | _=> .bad
theorem wS {H:Hp}:∀{xs:List V} {ts:List T} {its:List Value} {ys:List Str},zD H xs ts->zS xs its->UR ts=some ys->StrsAre its ys
 | _,_,_,ys,.nil,.nil,h=>by
  have h' :=h;cases h';exact .nil
 | _,_,_,ys,.cons r rs,.cons rv vs,h=>by
  cases r with
  | str x=>
   unfold UR at h;split at h
   ·rename_i zs e;cases h;obtain⟨tk,rfl⟩:=rv;exact .cons x tk (wS rs vs e)
   ·cases h
  | _=>cases h
theorem VS:MtR X "str.join" (λx xs H Q=>∃z l zs ts ys,x= .str z/\xs=[.ref l]/\H l=some (.lst zs)/\zD H zs ts/\UR ts=some ys/\(ys.map (·.length)).sum+ys.length*z.length<=16777216/\Q (.str (Txt.join z ys)) H):=by
 intro pins s σ H x xs v us Q I rx rv h;obtain⟨z,l,zs,ts,ys,rfl,rfl,hl,r,e,hb,q⟩:=h;obtain⟨t,rfl⟩:=rx;obtain⟨u,rfl,ru⟩:=Zx rv;obtain rfl:u=Value.ref l:=ru;obtain⟨its,rv,p,_⟩:=zJ I (.inl hl) r;exact join_list p (by simpa using wS r rv e) hb λt' k=>⟨.str _,H,I.tok k,⟨t',rfl⟩,q⟩
theorem kH {z:Str}{kc:Nat}{pz pa:Pos}(ha:jb X Y a fa)(hb:attributeBase (.Constant (.str z) kc pz) "join" X.env (eval (.Constant (.str z) kc pz) X.env)=eval (.Constant (.str z) kc pz) X.env:=by rfl)(hs:St1 X a:=by exact st1 rfl)
  (hz:(pa.endLine == p.line)=true:=by rfl):Snd X Y (.Call (.Attribute (.Constant (.str z) kc pz) "join" pa) [a] [] p) (ap1 (kG z) fa):= .mk λρ=>by
 have e1:(((((backTo p (starEach [a] X.env)).all λx=> !x.fst) && (backToKw p (keywordEach [] X.env)).all λx=>x.fst.isSome) && decide (([a].length+([]:List Keyword).length+if ([]:List Keyword).isEmpty=true then 0 else 1) < 30))=true):=by rw[hs];rfl
 refine PE.imp (Q2 PySem.F.plainAttrs_str PySem.F.slot_str_join PySem.F.type_str_join VS vh (zy (ha ρ) zX hs) hb e1 hz hs rfl) λσ H Q ⟨B,I,q⟩=> ?_;refine⟨rfl,step I q λt v H1 _ s1 r1 I1 q1=> ?_⟩;cases r1 with
 | @lst l xs ts h r=>
  have q1:Po Y rC _ H1 (match UR ts with | some ys=>if (ys.map _).sum+ys.length*z.length<=16777216 then .ok _ else .bad | none=> .bad) Q:=q1
  split at q1
  ·rename_i ys e;split at q1
   ·rename_i hl;exact⟨z,l,xs,ts,ys,rfl,rfl,h,r,e,hl,po0 I1.sB q1 rfl (.str _)⟩
   ·exact q1.elim
  ·exact q1.elim
 | _=>exact q1.elim
end
noncomputable def dd:List Str->List Str->List Str
 | acc,[]=>acc
 | acc,x :: r=>dd (if x∈acc then acc else acc++[x]) r
section
variable {prog:Program}{w:World}{A:Around}{R:Result->Shared->Prop}{I:Addr}{fp wr:List Addr}{n:Nat}{P:Nat->Value->Prop}{St:Nat->Heap->Prop}
theorem jc {h h' :Heap}{S:Addr}{f g:Str->Bool}{m k:Nat}(x:h.SetOf (strKind prog w) S f m)(e:∀o,h.get? S=some o->h'.get? S=some o)(ef:f=g)(em:m=k):h'.SetOf (strKind prog w) S g k:=by
 subst ef em;obtain⟨o,es,ep,t,ho,r⟩:=x;exact⟨o,es,ep,t,e o ho,r⟩
theorem Ql (W:Walks prog w A.in1 I fp wr n P St)(S:Addr)(hSf:S ∉ fp)(val:Nat->Str)(hval:∀i v,P i v->∃t,v=Value.str (val i) t)(hb:n+1 < scanBound):
  ∀(k i:Nat) (acc:List Str) (s:Shared),n - i=k->i<=n->acc.length<=i->St i s.heap->s.heap.SetOf (strKind prog w) S (λx=>decide (x∈acc)) acc.length->
   (∀h' tk,(∀b o,b ∉ S :: wr->s.heap.get? b=some o->h'.get? b=some o)->h'.SetOf (strKind prog w) S (λx=>decide (x∈dd acc ((i7 i k).map val))) (dd acc ((i7 i k).map val)).length->
    R (.ok (.ret .none)) { s with heap:=h',toks:=tk })->codeAny (model prog w) A (.builtin "set.update.loop" ⟨[.ref S,.ref I],[]⟩) R s:=by
 intro k
 induction k with
 | zero=>
  intro i acc s hk hi hal hst hS hR;obtain rfl:i=n:=by omega
  refine bC eR ?_;refine a7 (W.done s _ _ hst λh' tk hk' =>am ?_);exact hR h' tk (λb o hb e=>hk' b o (λz=>hb (a8 _ z)) e) (jc hS (λo e=>hk' S o (λz=>hSf (W.sub _ z)) e) rfl rfl)
 | succ k ih=>
  intro i acc s hk hi hal hst hS hR;refine bC eR ?_;refine a7 (W.item i s _ _ (by omega) hst λv h1 tk1 hP hst1 hk1=> ?_)
  obtain⟨t,rfl⟩:=hval i v hP;have hS1:=jc hS (λo e=>hk1 S o (λz=>hSf (W.sub _ z)) e) rfl rfl;refine a7 (m:=holding _ _) (bQ ?_);unfold setAdd;have isk:(strKind prog w).is (val i) (.str (val i) t)=true:=strKind_is _ _ _ _;refine bQ (a7 ((strKind _ w).pyHash isk ?_));refine wpAny_setAddHashed_of isk rfl hS1 (by omega) λh2 hsb hS2=> ?_
  have e2:(if decide (val i∈acc)=true then acc.length else acc.length+1)=(if val i∈acc then acc else acc++[val i]).length:=by
   by_cases hm:val i∈acc
   ·simp[hm]
   ·simp[hm]
  have e1:(λx=>decide (x∈acc) || decide (x=val i))=(λx=>decide (x∈(if val i∈acc then acc else acc++[val i]))):=by
   funext x
   by_cases hm:val i∈acc
   ·simp only[if_pos hm]
    by_cases hx:x=val i
    ·subst hx;simp[hm]
    ·simp[hx]
   ·simp[hm,Bool.decide_or]
  have hS3:=jc hS2 (λo e=>e) e1 e2;refine am ⟨cb F.plain_set_update_loop _,ih _ _ _ (by omega) (by omega) ?_ (W.frame _ h1 _ hst1 λb hb o e=> ?_) hS3 λh3 tk3 hk3 hS4=> ?_⟩
  ·split
   ·omega
   ·rw[aB,aJ];omega
  ·exact(hsb.2 b (λz=>hSf (z ▸ hb))).trans e
  ·refine hR h3 tk3 (λb o hb e=>hk3 b o hb ?_) hS4;exact(hsb.2 b (λz=>hb (z ▸ aa))).trans (hk1 b o (λz=>hb (a8 _ z)) e)
end
section
variable {prog:Program}{w:World}{A:Around}{E:Value->Shared->Prop}{s:Shared}
set_option maxRecDepth 100000 in
set_option maxHeartbeats 3200000 in
theorem yJ {l:Addr}{its:List Value}{ys:List Str}{Q:Value->Shared->Prop}(hh:A.handled=none)(hl:s.heap.IsList l its.toArray)(hi:StrsAre its ys)(hb:its.length+1 < scanBound)
  (h:∀(h' :Heap) (tk:Nat),h'.SetOf (strKind prog w) s.heap.objs.size (λx=>decide (x∈dd [] ys)) (dd [] ys).length->(∀b o,b < s.heap.objs.size->s.heap.get? b=some o->h'.get? b=some o)->
   Q (.ref s.heap.objs.size) { s with heap:=h',toks:=tk }):wpAny (model prog w) A (call (.type "set") [.ref l]) Q E s:=by
 have getv:∀{its:List Value} {ys:List Str},StrsAre its ys->its.length=ys.length/\∀(i:Nat) (v:Value),its[i]? =some v->∃t,v=Value.str (ys.getD i ⟨#[]⟩) t:=λ{its ys} hi=>by
  induction hi with
  | nil=>exact⟨rfl,λi v e=>by simp at e⟩
  | cons y t _ ih=>
   refine⟨by simp[ih.1],λi v e=> ?_⟩
   cases i with
   | zero=>exact⟨t,by simpa using e.symm⟩
   | succ i=>exact ih.2 i v (by simpa using e)
 obtain⟨hlen,hget⟩:=getv hi;have hys:(i7 0 its.length).map (λi=>ys.getD i ⟨#[]⟩)=ys:=by
  rw[hlen];refine d_ λi=> ?_;rw[aj]
  by_cases hi' :i < ys.length
  ·rw[List.getElem?_range' hi',a9 hi'];simp[a9 hi']
  ·rw[aU (by simp;omega),aU (by omega)]
   rfl
 obtain⟨c,tl,hmro⟩:=cB.mro;have hmade:=cB.made;have hsub:=cB.sub;have h1:=cB.notType;have h2:=cB.canCreate;have hct:=F.typeCall_set_1 (.ref l);refine wpAny_call (codeAny_of_tree (show wpAny _ _ (callAny (.type "set") _) _ _ _ from ?_));refine am ⟨Code.quiet_builtin _ (by decide+kernel),bC F.entry_type_call ?_⟩
 rw[Around.under_plain (weight_type_call_type "set" [.ref l] []) rfl]
 repeat any_goals (first | assumption | wp_step)
 refine db (code_set_new_1 (.ref l) (E:=E) (Q₁:=λobj s₁=>∃led:Bool,obj= .ref s.heap.objs.size/\s₁={ s with heap:=s.heap.push { cls:= .type "set",dict:=none,data:= .set #[] 0 (.fresh 0 0 led) } }) λled=>⟨led,rfl,rfl⟩) λr s₁ hr=> ?_;cases r with
 | error e=>exact hr
 | ok fl=>
  cases fl with
  | ret obj=>
   obtain⟨led,rfl,rfl⟩:=hr;generalize hG:s.heap.push { cls:= .type "set",dict:=none,data:= .set #[] 0 (.fresh 0 0 led) }=G;have hS:G.get? s.heap.objs.size=some { cls:= .type "set",dict:=none,data:= .set #[] 0 (.fresh 0 0 led) }:=by rw[← hG];exact ag _ rfl
   have hGs:G.objs.size=s.heap.objs.size+1:=by rw[← hG,bW]
   have hGk:∀b o,s.heap.get? b=some o->G.get? b=some o:=λb o e=>by rw[← hG];exact af _ e
   have hT:Shared.TypeIs { s with heap:=G } (.ref s.heap.objs.size) "set":=⟨_,hS,rfl⟩;have hli:=cB.init.lookup;have hbi:=cB.init.bind (.ref s.heap.objs.size)
   repeat any_goals (first | assumption | wp_step)
   refine db (codeAny_call_builtin (R:=wants (λr s₂=>r= .none/\∃h' tk,s₂={ s with heap:=h',toks:=tk }/\h'.SetOf (strKind prog w) s.heap.objs.size (λx=>decide (x∈dd [] ys)) (dd [] ys).length/\
     (∀b o,b < s.heap.objs.size->s.heap.get? b=some o->h'.get? b=some o)) E) cB.init.plain F.entry_set_init (check_set_init_1 hT ?_)) λr₂ s₂ hr₂=> ?_
   ·obtain⟨⟨ocls,odict,odata,oslots⟩,hol,hcl,nl,hdl⟩:=hl;simp only at hcl hdl;subst hcl;subst hdl;have hol' :=hGk _ _ hol;have hsls:=F.sub_list_set;have hslf:=F.sub_list_frozenset;have hne:(Value.type "list" == Value.type "dict")=false:=by decide
    have hl1:G.IsList l its.toArray:=⟨_,hol',rfl,nl,rfl⟩;have hlS:l < s.heap.objs.size:=ao hol;unfold Builtin.«set.__init__» noKeywords Builtin.Frozenset.updateFrom;generalize hPI:pyIter=PI
    wp_walk
    subst hPI;refine b_ hl1 (a7 (wpAny_runValue ?_));have hSf:s.heap.objs.size ∉ [G.objs.size,l]:=by
     rw[hGs];intro z;rcases ah.mp z with z | z
     ·exact absurd z (aC (eQ _))
     ·exact absurd (aA.mp z) (da hlS)
    refine Ql (dN (A:=A.in1.in1.in1) (by simp[hh]) G.objs.size l (by rw[hGs];exact aC (cH hlS)) its.toArray) s.heap.objs.size hSf (λi=>ys.getD i ⟨#[]⟩) (λi v e=>hget i v (by simpa using e)) (by simpa using hb) its.length 0 [] _ (by simp) (ba _) (ai _)
     ⟨⟨_,ag _ rfl,rfl,rfl⟩,hl1.push _⟩ ?_ ?_
    ·have hget' :(G.push { cls:= .type "list_iterator",data:= .fields #[.ref l,.int 0 0] }).get? s.heap.objs.size=some { cls:= .type "set",dict:=none,data:= .set #[] 0 (.fresh 0 0 led) }:=af _ hS;exact jc ((PyProof.Rows.setObjOf_fresh (knd:=strKind prog w) led).setOf hget' (by unfold scanBound;omega)) (λo e=>e) (by funext x;simp) rfl
    ·intro h' tk' hm hS';rw[hys]at hS';refine am (show wpAny _ _ (ret Value.none) _ _ _ from am ⟨rfl,h',tk',rfl,hS',λb o hb e=> ?_⟩);refine hm b o (λz=> ?_) (af _ (hGk b o e));rcases ah.mp z with z | z
     ·exact absurd z (aC hb)
     ·have z' :b=G.objs.size:=aA.mp z;rw[hGs]at z';exact absurd z' (aC (cH hb))
   ·cases r₂ with
    | error e=>exact hr₂
    | ok fl₂=>
     cases fl₂ with
     | ret r=>
      obtain⟨rfl,h',tk,rfl,hS',hk'⟩:=hr₂
      repeat any_goals (first | assumption | wp_step)
      exact h _ _ hS' hk'
     | _=>exact hr₂.elim
  | _=>exact hr.elim
end
section
variable {X:Cx}{Y:Fx}{a b:Expr}{fa fb:En->R T}{pos pos' p p' :Pos}
theorem yK (hh:X.A.handled=none):Zo X (.type "set") (λvs H Q=>∃l xs ts ys,vs=[.ref l]/\H l=some (.lst xs)/\zD H xs ts/\UR ts=some ys/\ts.length+1 < 4096/\
  ∀q,H q=none->Q (.ref q) (upd H q (.ext λh=>h.SetOf (strKind X.prog X.w) q (λx=>decide (x∈dd [] ys)) (dd [] ys).length))):=by
 intro pins s σ H vs us Q I rv h;obtain⟨l,xs,ts,ys,rfl,hl,r,ey,hb,q⟩:=h;obtain⟨u,rfl,ru⟩:=Zx rv;obtain rfl:u=Value.ref l:=ru;obtain⟨its,rv,pl,hln,_⟩:=zJ I (.inl hl) r;refine yJ hh pl (wS r rv ey) (by unfold scanBound;omega) λh' tk hS hk=> ?_
 refine⟨.ref _,_,I.laid (λb u e=>hk b u (ao e) e) (ai _) ?_,rfl,q _ (I.hok.fresh (ai _))⟩;obtain⟨o,es,ep,t,ho,rr⟩:=id hS;exact⟨hS,⟨o,ho⟩,λh1 h2 ⟨o1,es1,ep1,t1,ho1,rr1⟩ e=>⟨o1,es1,ep1,t1,e _ ho1,rr1⟩⟩
theorem yL:Zo X (.builtin "len") (λvs H Q=>∃q φ f n,vs=[.ref q]/\H q=some (.ext φ)/\(∀h:Heap,φ h->h.SetOf (strKind X.prog X.w) q f n)/\Q (.int n) H):=by
 intro pins s σ H vs us Q I rv h;obtain⟨l,φ,f,n,rfl,hl,hφ,q⟩:=h;obtain⟨u,rfl,ru⟩:=Zx rv;obtain rfl:u=Value.ref l:=ru;obtain⟨h1,_,_⟩:=(show Zj _ X.w H _ l _ from I.hok l _ hl);obtain⟨o,es,ep,t,ho,hex,hd,_,_,hb,hf,hn⟩:=hφ _ h1;refine call_len_set ho hex hd hf ?_ ⟨.int _,H,I.tok _,⟨_,rfl⟩,by rw[hn];exact q⟩
 have:es.size < 4096:=hb;omega
noncomputable def Qm:T->R T
 | .lst ts=>match UR ts with
  | some ys=>if ts.length+1 < 4096 then .ok (.int (dd [] ys).length) else .bad
  | none=> .bad
 | _=> .bad
theorem kI (hh:X.A.handled=none)(gl:Gl X "len")(mg:X.mg "len"=none)(gl' :Gl X "set")(mg' :X.mg "set"=none)(ha:jb X Y a fa)(hs:St1 X a:=by exact st1 rfl)(hs' :St1 X (.Call (.Name "set" p') [a] [] pos'):=by exact st1 rfl):
  Snd X Y (.Call (.Name "len" p) [.Call (.Name "set" p') [a] [] pos'] [] pos) (ap1 Qm fa):= .mk λρ=>
 PE.imp (jw yL gl mg PySem.boot_len (zy (jx (yK hh) gl' mg' PyProof.Rows.Boot.«set» (zy (ha ρ) zX hs) (by decide) (by decide) hs rfl) zX hs') (by decide) (by decide) hs' rfl) λσ H Q ⟨B,I,q⟩=>
  step I q λt v H1 _ s1 r1 I1 q1=>by
   cases r1 with
   | @lst l xs ts h r=>
    have q1:Po Y rC _ H1 (match UR ts with | some ys=>if ts.length+1 < 4096 then .ok _ else .bad | none=> .bad) Q:=q1
    split at q1
    ·rename_i ys e;split at q1
     ·rename_i hl;refine⟨l,xs,ts,ys,rfl,h,r,e,hl,λz hz=>⟨z,_,_,_,rfl,zE,λh hh=>hh, ?_⟩⟩;exact q1 _ _ (zm.new hz _) (.int _)
     ·exact q1.elim
    ·exact q1.elim
   | _=>exact q1.elim
noncomputable def VT (i j:Nat)(ga:En->R (List T)):En->RS:=λρ=>(ga ρ).s λts=>match ts with
 | [x,y]=> .nx ((ρ.set i (.vl x)).set j (.vl y))
 | _=> .bad
theorem z09 {i j:Nat}{x y:Str}{ga:En->R (List T)}{px py pt pt2:Pos}{kt k2:Nat}(hc:X.calm=true)(hN:X.N.Nodup)(hi:X.N[i]? =some x)(hj:X.N[j]? =some y)(hij:i ≠ j)(hx:X.env.scope.names.lookup x=some .local)(hy:X.env.scope.names.lookup y=some .local)
  (ha:uC X Y [a,b] ga) (hs:swappedStores [.Tuple [.Name x px,.Name y py] kt pt] (.Tuple [a,b] k2 pt2) X.env=pure (some [x,y])) (hw:swapsWithSole [.Tuple [.Name x px,.Name y py] kt pt] (.Tuple [a,b] k2 pt2) pos.line X.env=pure false:=by rfl):
  wm X Y (.Assign [.Tuple [.Name x px,.Name y py] kt pt] (.Tuple [a,b] k2 pt2) pos) (VT i j ga):= .mk λρ=>
 PS.imp (Xt hc hN hi hj hij hx hy (ha ρ) hs hw) λD σ H ⟨B,I,q⟩=>Jk I q λts vs H1 _ s1 r1 I1 q1=>by
  cases r1 with
  | nil=>exact q1.elim
  | cons r rr=>
   cases rr with
   | nil=>exact q1.elim
   | cons r' rr=>
    cases rr with
    | cons _ _=>exact q1.elim
    | nil=>exact⟨_,_,rfl,q1 _ _ _ (zm.refl _) ((I1.setV i r).setV j r')⟩
end
theorem z0a {X:Cx}{E:XK}:ji CX0 X E:=λ_ _ _ _ _ _ _ h=>h.elim
section
variable {X:Cx}{Y:Fx}{a b:Expr}{fa fb:En->R T}{pos pos' p p' :Pos}
theorem VU {cl:Nat->Value}{k j n:Nat}{f:Addr}{fd:FuncData}{ps:List Str}{g:List T->R T}{x:Str}{es:List Expr}{ga:En->R (List T)}(hy:Y.cl=cl)(F:Wj X.prog X.w X.K X.mg X.base CX0 j f fd ps (spP cl n g))(hr:jg k X.A)(hj:j<=k)(gl:Gl X x)
  (mg:X.mg x=some (.ref f)) (kp:cK X.K (.ref f)=true) (bd:L2.Binds X.K fd ps []) (ha:uC X Y (a :: es) ga) (hd:(x == ("__debug__":Str))=false:=by decide)
  (hs:starEach (a :: es) X.env=(false,eval a X.env) :: starEach es X.env:=by exact Zc rfl) (hz:((backTo pos (starEach es X.env)).any λx=>x.fst)=false:=by exact ja rfl):Snd X Y (.Call (.Name x p) (a :: es) [] pos) (za n g ga):=by
 subst hy;exact ko F (hr.mono hj) gl mg kp bd z0a ha hd hs hz
theorem wT {x:Str}{i:Int}{u:Value}(gl:Gl X x)(mg:X.mg x=some u)(hu:∃t,u=Value.int i t)(hd:(x == ("__debug__":Str))=false:=by decide):Snd X Y (.Name x pos) (cE (.int i)):= .mk λρ=>
 PE.imp (Va (v:= .int i) gl mg hu hd) λσ H Q ⟨B,I,q⟩=>ZB I q (.int i)
end
noncomputable def kJ (scope sc0:Scope):Bool:=(scope.kind == .function) && scope.names.all (λx=>x.2 != .cell) && scope.names.all (λx=>x.2 != .local || scope.names.lookup x.1 == some .local) &&
 scope.names.all (λx=>x.2 != .free || sc0.names.lookup x.1 == some .cell || sc0.names.lookup x.1 == some .free)
theorem vG {X:Cx}{scope:Scope}(sc0:Scope)(h0:X.env.scope=sc0)(h:kJ scope sc0=true):CSc X scope:=by
 unfold kJ at h;simp only[ac,aG]at h;obtain⟨⟨⟨h1,h2⟩,h3⟩,h4⟩:=h;refine⟨eq_of_beq h1,λx hx=>by simpa using h2 x hx,λx hx hl=> ?_,λx hx hf=> ?_⟩
 ·have:=h3 x hx;rw[hl]at this;simpa using this
 ·have:=h4 x hx;rw[hf]at this;show X.env.scope.names.lookup x.1=_\/X.env.scope.names.lookup x.1=_;rw[h0];simpa using this
noncomputable def kK (N N' :List Str)(scope sc0:Scope)(k:Nat)(js:List Nat):Bool:=(N'.length == k+js.length) && (aQ js.length).all λi=>match js[i]? with
 | none=>true
 | some j=>match N'[k+i]?,N[j]? with
  | some x,some y=>(x == y) && (sc0.names.lookup x == some .cell || sc0.names.lookup x == some .free) && (scope.names.lookup x == some .free)
  | _,_=>false
theorem yM {X:Cx}{scope:Scope}{N' :List Str}{k:Nat}{js:List Nat}(N:List Str)(sc0:Scope)(hN:X.N=N)(h0:X.env.scope=sc0)(h:kK N N' scope sc0 k js=true):gq X scope N' k js:=by
 unfold kK at h;simp only[ac,aG]at h;obtain⟨h1,h2⟩:=h;refine⟨eq_of_beq h1,λi j e=> ?_⟩;have hi:=(ak.mp e).1;have q:=h2 i (aR.mpr hi);rw[e]at q;dsimp only at q;split at q
 ·rename_i x y e1 e2;simp only[ac,ig,beq_iff_eq]at q;obtain⟨⟨rfl,q2⟩,q3⟩:=q;refine⟨x,e1,by rw[hN];exact e2, ?_,q3, ?_⟩
  ·rw[h0];exact .inr q2
  ·show X.env.scope.names.lookup x=_\/X.env.scope.names.lookup x=_;rw[h0];exact q2
 ·cases q
theorem vH {X:Cx}{Y:Fx}{tg iter elt:Expr}{ifs:List Expr}{scope:Scope}{k:Nat}{js:List Nat}{fi:En->R (List T)}{tG:TG}{g:T->En->R En}{ft:En->R Bool}{fe:En->R T}(N' :List Str)(N:List Str)(sc0:Scope)(hN:X.N=N)(h0:X.env.scope=sc0)
  (h:(kJ scope sc0 && kK N N' scope sc0 k js)=true) (cm:X.calm=true) (it:uc X Y tg iter fi) (gt:vC X scope N' λXC=>PG XC tg tG) (gk:GOk tG g) (gn:GNo g) (tt:∀Y',Y'.cl=Y.cl->vC X scope N' λXC=>wR XC Y' ifs ft)
  (el:∀Y',Y'.cl=Y.cl->kA X scope N' Y'.E λXC=>Snd XC Y' elt fe) (hs:∀x,foldedSetIterable iter X.env x=pure x:=by intro _;rfl):wn X Y tg iter elt ifs scope N' k js fi tG g ft fe:=by
 rw[ac]at h;exact⟨vG sc0 h0 h.1,yM N sc0 hN h0 h.2,cm,it,gt,gk,gn,tt,el,hs⟩
end PV
namespace PV
open PySem PySem.Spec PyProof.Rows L2 PySem.W
end PV
namespace PySem.W
open PySem PySem.Calls PyProof.Rows PySem.Spec Builtin Builtin.ObjectAttr Builtin.Getset_descriptor
end PySem.W
namespace PySem.W
open PySem PySem.Calls PyProof.Rows PySem.Spec Builtin Builtin.ObjectAttr Builtin.Getset_descriptor
end PySem.W
namespace PySem.W
open PySem PySem.Calls PyProof.Rows PySem.Spec Builtin Builtin.ObjectAttr Builtin.Getset_descriptor
end PySem.W
namespace PV
open PySem PySem.Spec PyProof.Rows L2 PySem.W
end PV
namespace PySem.ZG
open PySem PySem.Spec PySem.Builtin.SmallTypes
structure ue (i:Addr) (fp:List Addr) (v:Nat->Option Value) (St:Nat->Heap->Prop):Prop where
 mem:i∈fp
 item:∀{prog:Program} {w:World} {A:Around} {E:Value->Shared->Prop} {s:Shared} {Q:Value->Shared->Prop} {k:Nat} {x:Value},St k s.heap->v k=some x->(∀h',St (k+1) h' ->cu i s.heap h' ->Q x { s with heap:=h' })->wpAny (model prog w) A (nextOf (.ref i)) Q E s
 stop:∀{prog:Program} {w:World} {A:Around} {E:Value->Shared->Prop} {s:Shared} {Q:Value->Shared->Prop} {k:Nat},A.handled=none->St k s.heap->v k=none->(∀h' e,fA i s.heap h' ->(∃o,h'.get? e=some o/\o.cls= .type "StopIteration")->E (.ref e) { s with heap:=h' })->wpAny (model prog w) A (nextOf (.ref i)) Q E s
 keep:∀{k:Nat} {h h' :Heap},St k h->(∀b∈fp,∀o,h.get? b=some o->h'.get? b=some o)->St k h'
 there:∀{k:Nat} {h:Heap},St k h->∀b∈fp,∃o,h.get? b=some o
theorem ue.but {i:Addr}{fp:List Addr}{v:Nat->Option Value}{St:Nat->Heap->Prop}(N:ue i fp v St){k:Nat}{h h' :Heap}{b:Addr}(x:St k h)(e:fA b h h')(n:b ∉ fp):St k h' :=
 N.keep x λc hc o q=>e c o (λz=>n (z ▸ hc)) q
theorem VV {i l:Addr}(hil:l ≠ i)(xs:Array Value):ue i [i,l] (λk=>xs[k]?) (λk h=>h.IsListIter i l k/\h.IsList l xs) where
 mem:= .head _
 item:=λst hx h=>wpAny_nextOf_list_item st.1 st.2 hx λh' a b=>h h' ⟨a,st.2.extBut b.extBut hil⟩ b
 stop:=λhh st hx h=>wpAny_nextOf_list_end hh st.1 st.2 hx h
 keep:=λst k=>⟨st.1.at λo e=>k i (.head _) o e,st.2.at λo e=>k l (.tail _ (.head _)) o e⟩
 there:=λst b hb=>by
  obtain⟨⟨o,e,_⟩,o2,e2,_⟩:=st;rcases ah.mp hb with z | hb
  ·exact⟨o,z ▸ e⟩
  ·exact⟨o2,(aA.mp hb) ▸ e2⟩
end PySem.ZG
namespace PySem.ZG
open PySem PySem.Spec PySem.Builtin.SmallTypes
section
variable {prog:Program}{w:World}{A:Around}{E:Value->Shared->Prop}{s:Shared}{it l:Addr}{k:Nat}{xs:Array Value}{Q:Value->Shared->Prop}
theorem uH (hit:s.heap.IsTupleIter it l k)(h:wpAny (model prog w) A.in1 (Builtin.«tuple_iterator.__next__» ⟨[.ref it],[]⟩) (λfin s' =>∃v,fin= .done (.ret v)/\Q v s') E s):wpAny (model prog w) A (nextOf (.ref it)) Q E s:=by
 exact a7 (bg hit.typeIs di (bF di hit.typeIs PySem.F.entry_tuple_iterator_next
  (cx h (λfin s' ⟨v,e,q⟩=>⟨v,e,am q⟩) λ_ _ z=>z) (PySem.F.args_tuple_iterator_next_1 _)))
theorem tup_item (hit:s.heap.IsTupleIter it l k)(ht:s.heap.IsTuple l xs){x:Value}(hx:xs[k]? =some x)(h:∀h',h'.IsTupleIter it l (k+1)->cu it s.heap h' ->Q x { s with heap:=h' }):wpAny (model prog w) A (nextOf (.ref it)) Q E s:=by
 refine uH hit ?_;obtain⟨o,ho,hc,hd⟩:=id hit;obtain⟨ol,hol,_,nl,hdl⟩:=ht;refine a7 (m:=field _ 0) (aW ho hd rfl ?_);refine a7 (aW ho hd rfl (a7 (bu hol hdl ?_)));simp only[aT,hx];have g:=Heap.get?_update_self (Obj.mapFields (·.setIfInBounds 1 (rawInt (k+1)))) ho (Obj.isFreed_of_fields (fP hd _));refine a7 (wpAny_setField ho hd (by simp) (am ⟨x,rfl,h _ ⟨_,g,(Obj.cls_mapFields ..).trans hc, ?_⟩ (fJ ..)⟩))
 rw[fP hd];simp[rawInt]
theorem tup_stop (hh:A.handled=none)(hit:s.heap.IsTupleIter it l k)(ht:s.heap.IsTuple l xs)(hx:xs[k]? =none)
  (h:∀h' e,fA it s.heap h' ->(∃o,h'.get? e=some o/\o.cls= .type "StopIteration")->E (.ref e) { s with heap:=h' }):wpAny (model prog w) A (nextOf (.ref it)) Q E s:=by
 refine uH hit ?_;obtain⟨o,ho,hc,hd⟩:=id hit;obtain⟨ol,hol,_,nl,hdl⟩:=ht;refine a7 (m:=field _ 0) (aW ho hd rfl ?_);refine a7 (aW ho hd rfl (a7 (bu hol hdl ?_)));simp only[aT,hx];refine a7 (dw (a7 (wpAny_setField ho hd (by simp) (a7 ?_))))
 refine a7 (a_ (a7 (c6 (by first | rfl | (simp only[firstArgMember])) (a_ ?_ (by size_fits)))) (by size_fits))
 refine a7 (wpAny_handled ?_);rw[hh];exact a7 (am (wpAny_throw (h _ _ (((fJ ..).extBut.push _).push _) ⟨_,ag _ rfl,rfl⟩)))
end
theorem nx_tup {i l:Addr}(hil:l ≠ i)(xs:Array Value):ue i [i,l] (λk=>xs[k]?) (λk h=>h.IsTupleIter i l k/\h.IsTuple l xs) where
 mem:= .head _
 item:=λst hx h=>tup_item st.1 st.2 hx λh' a b=>h h' ⟨a,st.2.extBut b.extBut hil⟩ b
 stop:=λhh st hx h=>tup_stop hh st.1 st.2 hx h
 keep:=λst k=>by
  obtain⟨⟨o,e,r⟩,o2,e2,r2⟩:=st;exact⟨⟨o,k i (.head _) o e,r⟩,o2,k l (.tail _ (.head _)) o2 e2,r2⟩
 there:=λst b hb=>by
  obtain⟨⟨o,e,_⟩,o2,e2,_⟩:=st;rcases ah.mp hb with z | hb
  ·exact⟨o,z ▸ e⟩
  ·exact⟨o2,(aA.mp hb) ▸ e2⟩
end PySem.ZG
namespace PySem.ZG
open PySem PySem.Spec PySem.Builtin.SmallTypes
structure Ap (z TI TO i1 i2:Addr) (fp1 fp2:List Addr):Prop where
 Iz:TI ≠ z
 Oz:TO ≠ z
 IO:TI ≠ TO
 I1:TI ≠ i1
 I2:TI ≠ i2
 z1:z ∉ fp1
 z2:z ∉ fp2
 O1:TO ∉ fp1
 O2:TO ∉ fp2
 a:i1 ∉ fp2
 b:i2 ∉ fp1
section
variable {prog:Program}{w:World}{A:Around}{E:Value->Shared->Prop}{s:Shared}{z TI TO i1 i2:Addr}{fp1 fp2:List Addr}{v1 v2:Nat->Option Value}{S1 S2:Nat->Heap->Prop}{k:Nat}{x y a b:Value}
theorem Ap.ne1 (D:Ap z TI TO i1 i2 fp1 fp2)(N1:ue i1 fp1 v1 S1):i1 ≠ z/\i1 ≠ TO:=⟨λe=>D.z1 (e ▸ N1.mem),λe=>D.O1 (e ▸ N1.mem)⟩
theorem Ap.ne2 (D:Ap z TI TO i1 i2 fp1 fp2)(N2:ue i2 fp2 v2 S2):i2 ≠ z/\i2 ≠ TO:=⟨λe=>D.z2 (e ▸ N2.mem),λe=>D.O2 (e ▸ N2.mem)⟩
theorem VW {Q:Value->Shared->Prop}(N1:ue i1 fp1 v1 S1)(N2:ue i2 fp2 v2 S2)(D:Ap z TI TO i1 i2 fp1 fp2)(hz:IsZip s.heap z TI TO .none)(hTI:IsPair s.heap TI (.ref i1) (.ref i2))(hTO:IsPair s.heap TO a b)(p1:S1 k s.heap)(p2:S2 k s.heap)(hx:v1 k=some x)(hy:v2 k=some y)
  (hQ:∀h',IsZip h' z TI TO (rawInt s.heap.objs.size)->IsPair h' TO x y->S1 (k+1) h' ->S2 (k+1) h' ->IsPair h' s.heap.objs.size x y->
   (∀c o,c ≠ z->c ≠ TO->c ≠ i1->c ≠ i2->s.heap.get? c=some o->h'.get? c=some o)->Q (.ref s.heap.objs.size) { s with heap:=h' }):
  wpAny (model prog w) A (Builtin.«zip.__next__» ⟨[.ref z],[]⟩) (λfin s' =>∃v,fin= .done (.ret v)/\Q v s') E s:=by
 refine a7 (m:=field (.ref z) 2) (aW hz rfl (x:= .bool false) rfl (a7 (aW hz rfl (x:= .ref TI) rfl (a7 (bu hTI rfl ?_)))));refine a7 ?_;refine a7 (aW hz rfl (x:= .none) rfl (am ?_));refine a7 (dw (a7 (aW hz rfl (x:= .ref TO) rfl (a7 (bh hz (by simp) λg1 z1 e1=> ?_)))))
 replace z1:=z1
 refine a7 ?_;refine a7 (a7 (wpAny_onRaise (a7 (N1.item (N1.but p1 e1.extBut D.z1) hx λg2 q1 e2=>am ?_))));have t2:IsPair g2 TO a b:=e2.extBut _ _ (D.ne1 N1).2.symm (e1.extBut _ _ D.Oz hTO);refine a7 (bu t2 rfl (a7 (wpAny_updateSeq_pair t2 λg3 t3 e3=> ?_)));refine a7 (d9 (am ?_));refine a7 (a7 (wpAny_onRaise (a7 (N2.item (N2.but (N2.but (N2.but p2 e1.extBut D.z2) e2.extBut D.a) e3.extBut D.O2) hy λg4 q2 e4=>am ?_))));have t4:IsPair g4 TO x b:=e4.extBut _ _ (D.ne2 N2).2.symm t3;refine a7 (bu t4 rfl (a7 (wpAny_updateSeq_pair t4 λg5 t5 e5=> ?_)))
 replace t5:IsPair g5 TO x y:=t5
 refine a7 (d9 (am (am ?_)));refine a7 (bu t5 rfl (a7 (wpAny_newTuple ?_)));have sz:g5.objs.size=s.heap.objs.size:=by rw[e5.1,e4.1,e3.1,e2.1,e1.1]
 have z5:=e5.extBut _ _ D.Oz.symm (e4.extBut _ _ (D.ne2 N2).1.symm (e3.extBut _ _ D.Oz.symm (e2.extBut _ _ (D.ne1 N1).1.symm z1)));have k5:∀c o,c ≠ z->c ≠ TO->c ≠ i1->c ≠ i2->s.heap.get? c=some o->g5.get? c=some o:=λc o c1 c2 c3 c4 e=>
  e5.extBut _ _ c2 (e4.extBut _ _ c4 (e3.extBut _ _ c2 (e2.extBut _ _ c3 (e1.extBut _ _ c1 e))))
 have r1:S1 (k+1) g5:=N1.but (N1.but (N1.but q1 e3.extBut D.O1) e4.extBut D.b) e5.extBut D.O1;have r2:S2 (k+1) g5:=N2.but q2 e5.extBut D.O2;refine a7 ?_;have z6:IsZip (g5.push { cls:= .type "tuple",data:= .seq #[x,y] }) z TI TO _:=af _ z5;refine a7 (bh z6 (by simp) λg7 z7 e7=> ?_)
 refine bh z7 (by simp) λg8 z8 e8=> ?_
 have up:∀c o,c ≠ z->g5.get? c=some o->g8.get? c=some o:=λc o c1 e=>e8.extBut _ _ c1 (e7.extBut _ _ c1 (af _ e));have hn:g5.objs.size ≠ z:=da (ao z5);have t8:=e8.extBut _ _ hn (e7.extBut _ _ hn (ag _ rfl));rw[sz]at z8 t8;refine am ⟨_,rfl, ?_⟩;rw[sz];exact hQ g8 z8 (up _ _ D.Oz t5) (N1.keep r1 λc hc o e=>up c o (λq=>D.z1 (q ▸ hc)) e) (N2.keep r2 λc hc o e=>up c o (λq=>D.z2 (q ▸ hc)) e) t8 λc o c1 c2 c3 c4 e=>up c o c1 (k5 c o c1 c2 c3 c4 e)
theorem VX {Q:Fin->Shared->Prop}(hh:A.handled=none)(N1:ue i1 fp1 v1 S1)(N2:ue i2 fp2 v2 S2)(D:Ap z TI TO i1 i2 fp1 fp2)(hz:IsZip s.heap z TI TO .none)(hTI:IsPair s.heap TI (.ref i1) (.ref i2))(hTO:IsPair s.heap TO a b)(p1:S1 k s.heap)(p2:S2 k s.heap)(hend:v1 k=none\/v2 k=none)
  (hE:∀h' e,(∀c o,c ≠ z->c ≠ TO->c ≠ i1->c ≠ i2->s.heap.get? c=some o->h'.get? c=some o)->(∃o,h'.get? e=some o/\o.cls= .type "StopIteration")->E (.ref e) { s with heap:=h' }):
  wpAny (model prog w) A (Builtin.«zip.__next__» ⟨[.ref z],[]⟩) Q E s:=by
 refine a7 (m:=field (.ref z) 2) (aW hz rfl (x:= .bool false) rfl (a7 (aW hz rfl (x:= .ref TI) rfl (a7 (bu hTI rfl ?_)))));refine a7 ?_;refine a7 (aW hz rfl (x:= .none) rfl (am ?_));simp only[if_true];refine a7 (dw (a7 (aW hz rfl (x:= .ref TO) rfl (a7 (bh hz (by simp) λg1 z1 e1=> ?_)))))
 replace z1:=z1
 refine a7 ?_;have off:∀{g:Heap} {e:Addr} {oe:Obj},IsZip g z TI TO .ellipsis->g.get? e=some oe->oe.cls= .type "StopIteration"->e ≠ z:=λhg he hc q=>by
  subst q;rw[hg]at he;cases he;simp at hc
 cases hx:v1 k with
 | none=>
  refine a7 (a7 (wpAny_onRaise (a7 (N1.stop hh (N1.but p1 e1.extBut D.z1) hx λg2 e e2 he=> ?_))));obtain⟨oe,ho,hc⟩:=he;have z2:=e2 _ _ (D.ne1 N1).1.symm z1;exact bh z2 (by simp) λg3 _ e3=>hE g3 e (λc o c1 _ c3 _ q=>e3.extBut _ _ c1 (e2 _ _ c3 (e1.extBut _ _ c1 q))) ⟨oe,e3.extBut _ _ (off z2 ho hc) ho,hc⟩
 | some x=>
  have hy:v2 k=none:=by
   rcases hend with q | q
   ·rw[hx]at q;cases q
   ·exact q
  refine a7 (a7 (wpAny_onRaise (a7 (N1.item (N1.but p1 e1.extBut D.z1) hx λg2 q1 e2=>am ?_))));have t2:=e2.extBut _ _ (D.ne1 N1).2.symm (e1.extBut _ _ D.Oz hTO);refine a7 (bu t2 rfl (a7 (wpAny_updateSeq_pair t2 λg3 t3 e3=>a7 (d9 (am ?_)))));refine a7 (a7 (wpAny_onRaise (a7 (N2.stop hh (N2.but (N2.but (N2.but p2 e1.extBut D.z2) e2.extBut D.a) e3.extBut D.O2) hy λg4 e e4 he=> ?_))));obtain⟨oe,ho,hc⟩:=he;have z4:=e4 _ _ (D.ne2 N2).1.symm (e3.extBut _ _ D.Oz.symm (e2.extBut _ _ (D.ne1 N1).1.symm z1));exact bh z4 (by simp) λg5 _ e5=>hE g5 e (λc o c1 c2 c3 c4 q=>e5.extBut _ _ c1 (e4 _ _ c4 (e3.extBut _ _ c2 (e2.extBut _ _ c3 (e1.extBut _ _ c1 q))))) ⟨oe,e5.extBut _ _ (off z4 ho hc) ho,hc⟩
theorem VY {Q:Option Value->Shared->Prop}(N1:ue i1 fp1 v1 S1)(N2:ue i2 fp2 v2 S2)(D:Ap z TI TO i1 i2 fp1 fp2)(hz:IsZip s.heap z TI TO .none)(hTI:IsPair s.heap TI (.ref i1) (.ref i2))(hTO:IsPair s.heap TO a b)(p1:S1 k s.heap)(p2:S2 k s.heap)(hx:v1 k=some x)(hy:v2 k=some y)
  (hQ:∀h',IsZip h' z TI TO (rawInt s.heap.objs.size)->IsPair h' TO x y->S1 (k+1) h' ->S2 (k+1) h' ->IsPair h' s.heap.objs.size x y->
   (∀c o,c ≠ z->c ≠ TO->c ≠ i1->c ≠ i2->s.heap.get? c=some o->h'.get? c=some o)->Q (some (.ref s.heap.objs.size)) { s with heap:=h' }):wpAny (model prog w) A (pyNext (.ref z)) Q E s:=by
 have ty:s.TypeIs (.ref z) _:=⟨_,hz,rfl⟩;exact a7 (wpAny_attempt (bg ty cF (bF cF ty e_
  (VW N1 N2 D hz hTI hTO p1 p2 hx hy λh' a1 a2 a3 a4 a5 a6=>am (hQ h' a1 a2 a3 a4 a5 a6)) (eS _))))
theorem VZ {Q:Option Value->Shared->Prop}(hh:A.handled=none)(N1:ue i1 fp1 v1 S1)(N2:ue i2 fp2 v2 S2)(D:Ap z TI TO i1 i2 fp1 fp2)(hz:IsZip s.heap z TI TO .none)(hTI:IsPair s.heap TI (.ref i1) (.ref i2))(hTO:IsPair s.heap TO a b)(p1:S1 k s.heap)(p2:S2 k s.heap)(hend:v1 k=none\/v2 k=none)
  (hQ:∀h',(∀c o,c ≠ z->c ≠ TO->c ≠ i1->c ≠ i2->s.heap.get? c=some o->h'.get? c=some o)->Q none { s with heap:=h' }):wpAny (model prog w) A (pyNext (.ref z)) Q E s:=by
 have ty:s.TypeIs (.ref z) _:=⟨_,hz,rfl⟩;refine a7 (wpAny_attempt (bg ty cF (bF cF ty e_
  (VX hh N1 N2 D hz hTI hTO p1 p2 hend λh' e kp he=> ?_) (eS _))))
 obtain⟨o,ho,hc⟩:=he;exact a7 (wpAny_isInstance ⟨o,ho,hc⟩ isSubtype_stop (am (hQ _ kp)))
end
end PySem.ZG
namespace PySem.ZG
open PySem PySem.Spec PySem.Builtin.SmallTypes
structure x6 (l:Addr) (o:Obj) (P:Heap->Prop):Prop where
 go:∀{prog:Program} {w:World} {A:Around} {E:Value->Shared->Prop} {s:Shared} {Q:Value->Shared->Prop},P s.heap->Q (.ref s.heap.objs.size) { s with heap:=s.heap.push o }->wpAny (model prog w) A (pyIter (.ref l)) Q E s
 push:∀{h:Heap} (o' :Obj),P h->P (h.push o')
 fresh:o.isFreed=false
noncomputable abbrev oL (l:Addr):Obj:={ cls:= .type "list_iterator",data:= .fields #[.ref l,.int 0 0] }
noncomputable abbrev oT (l:Addr):Obj:={ cls:= .type "tuple_iterator",data:= .fields #[.ref l,.int 0 0] }
theorem x8 (l:Addr)(xs:Array Value):x6 l (oL l) (λh=>h.IsList l xs):=⟨λp q=>b_ p q,λo p=>Heap.IsList.push p o,rfl⟩
theorem kL (l:Addr)(xs:Array Value):x6 l (oT l) (λh=>h.IsTuple l xs):=⟨λp q=>wpAny_pyIter_tuple p q,λo p=>Heap.IsTuple.push p o,rfl⟩
noncomputable abbrev zh2 (h:Heap)(o1 o2:Obj):Heap:=(h.push o1).push o2
noncomputable abbrev zh3 (h:Heap)(o1 o2:Obj):Heap:=(zh2 h o1 o2).push { cls:= .type "tuple",data:= .seq #[.ref h.objs.size,.ref (h.push o1).objs.size] }
noncomputable abbrev zh4 (h:Heap)(o1 o2:Obj):Heap:=(zh3 h o1 o2).push { cls:= .type "tuple",data:= .seq #[.none,.none] }
noncomputable abbrev zh5 (h:Heap)(o1 o2:Obj):Heap:=(zh4 h o1 o2).push { cls:= .type "zip",data:= .fields #[.none,.bool false,.bool false,.ref (zh2 h o1 o2).objs.size,.ref (zh3 h o1 o2).objs.size] }
theorem kM {l1 l2:Addr}{o1 o2:Obj}{P1 P2:Heap->Prop}(J1:x6 l1 o1 P1)(J2:x6 l2 o2 P2):
  Meets (Builtin.«zip.__new__» ⟨[.type "zip",.ref l1,.ref l2],[]⟩) (λ_ R s=>P1 s.heap/\P2 s.heap/\R (.ok (.ret (.ref (zh4 s.heap o1 o2).objs.size))) { s with heap:=zh5 s.heap o1 o2 }):=
 .of_wp λprog w A R s h=>by
  obtain⟨hp,g,d,tk,os⟩:=s;obtain⟨q1,q2,h⟩:=h;have hsub:=sub_zip;have c1:P1 (i8 ⟨hp,g,d,tk,os⟩):=q1;have c2:P2 (i8 ⟨hp.push o1,g,d,tk,os⟩):=J2.push o1 q2
  wp_walk using J1.go c1,J2.go c2
  exact⟨_,rfl,h⟩
end PySem.ZG
namespace PySem.ZG
open PySem PySem.Spec PySem.Builtin.SmallTypes
theorem x9 {prog:Program}{w:World}{A:Around}{E:Value->Shared->Prop}{s:Shared}{l1 l2:Addr}{o1 o2:Obj}{P1 P2:Heap->Prop}{Q:Value->Shared->Prop}(J1:x6 l1 o1 P1)(J2:x6 l2 o2 P2)(q1:P1 s.heap)(q2:P2 s.heap)
  (h:∀h' n,n=s.heap.objs.size->IsZip h' (n+4) (n+2) (n+3) .none->IsPair h' (n+2) (.ref n) (.ref (n+1))->IsPair h' (n+3) .none .none->h'.get? n=some o1->h'.get? (n+1)=some o2->
   (∀c o,s.heap.get? c=some o->h'.get? c=some o)->Q (.ref (n+4)) { s with heap:=h' }):wpAny (model prog w) A (call (.type "zip") [.ref l1,.ref l2]) Q E s:=by
 refine callType_new PySem.F.called_zip (by decide) (PySem.F.typeCall_zip_2 _ _) (PySem.F.newCall_zip_2 _ _) (λobj=>PySem.F.args_object_init_3 obj _ _) PySem.F.entry_zip_new (kM J1 J2) ⟨q1,q2, ?_⟩
 have n1:(s.heap.push o1).objs.size=s.heap.objs.size+1:=bW ..;have n2:(zh2 s.heap o1 o2).objs.size=s.heap.objs.size+2:=by rw[bW,n1]
 have n3:(zh3 s.heap o1 o2).objs.size=s.heap.objs.size+3:=by rw[bW,n2]
 have n4:(zh4 s.heap o1 o2).objs.size=s.heap.objs.size+4:=by rw[bW,n3]
 have up:∀{h:Heap} {c:Addr} {o:Obj} (o' :Obj),h.get? c=some o->(h.push o').get? c=some o:=λo' e=>af o' e;have e5:(zh5 s.heap o1 o2).get? _=some _:=ag _ rfl;have e4:(zh5 s.heap o1 o2).get? _=some _:=up _ (ag _ rfl);have e3:(zh5 s.heap o1 o2).get? _=some _:=up _ (up _ (ag _ rfl));have e2:(zh5 s.heap o1 o2).get? _=some _:=up _ (up _ (up _ (ag _ J2.fresh)));have e1:(zh5 s.heap o1 o2).get? _=some _:=up _ (up _ (up _ (up _ (ag _ J1.fresh))));rw[n2,n3,n4]at e5;rw[n1,n2]at e3;rw[n3]at e4;rw[n1]at e2;rw[n4];exact⟨⟨_,e5,rfl⟩,h _ _ rfl e5 e3 e4 e1 e2 λc o q=>up _ (up _ (up _ (up _ (up _ q))))⟩
end PySem.ZG
namespace PV
open PySem PySem.Spec PyProof.Rows L2 PySem.ZG
inductive SK where
 | l | t
noncomputable def SK.it:SK->Heap->Addr->Addr->Nat->Prop
 | .l=>λh i l k=>h.IsListIter i l k
 | .t=>λh i l k=>h.IsTupleIter i l k
noncomputable def SK.has:SK->Heap->Addr->Array Value->Prop
 | .l=>λh l xs=>h.IsList l xs
 | .t=>λh l xs=>h.IsTuple l xs
noncomputable def SK.sq (K:ae):SK->Hp->Addr->List V->Prop
 | .l=>λH a xs=>SqL K H a xs
 | .t=>λH a xs=>SqT K H a xs
noncomputable def SK.tr:SK->List V->HO
 | .l=> .lst
 | .t=> .tup
noncomputable def SK.ob:SK->Addr->Obj
 | .l=>oL
 | .t=>oT
theorem SK.nx (k:SK){i l:Addr}(h:l ≠ i)(xs:Array Value):ue i [i,l] (λn=>xs[n]?) (λn hp=>k.it hp i l n/\k.has hp l xs):=by
 cases k with
 | l=>exact VV h xs
 | t=>exact nx_tup h xs
theorem SK.of (k:SK)(l:Addr)(xs:Array Value):x6 l (k.ob l) (λh=>k.has h l xs):=by
 cases k with
 | l=>exact x8 l xs
 | t=>exact kL l xs
theorem SK.start (k:SK){h:Heap}{i l:Addr}(e:h.get? i=some (k.ob l)):k.it h i l 0:=by
 cases k with
 | l=>exact⟨_,e,rfl,rfl⟩
 | t=>exact⟨_,e,rfl,rfl⟩
theorem SK.obj {k:SK}{h:Heap}{i l:Addr}{n:Nat}(x:k.it h i l n):∃o,h.get? i=some o/\∀v,o.data ≠ .cell v:=by
 cases k with
 | l=>obtain⟨o,e,_,d⟩:=x;exact⟨o,e,λv z=>by rw[d]at z;cases z⟩
 | t=>obtain⟨o,e,_,d⟩:=x;exact⟨o,e,λv z=>by rw[d]at z;cases z⟩
theorem SK.at_ {k:SK}{h h' :Heap}{i l:Addr}{n:Nat}(x:k.it h i l n)(q:∀o,h.get? i=some o->h'.get? i=some o):k.it h' i l n:=by
 cases k with
 | l=>obtain⟨o,e,r⟩:=x;exact⟨o,q o e,r⟩
 | t=>obtain⟨o,e,r⟩:=x;exact⟨o,q o e,r⟩
theorem SK.sqOf {K:ae}(k:SK){H:Hp}{a:Addr}{xs:List V}(e:H a=some (k.tr xs)):k.sq K H a xs:=by
 cases k with
 | l=>exact SqL.of e
 | t=>exact SqT.of e
theorem Inv.seq {X:Cx}{pins:List (Addr×Obj)}{σ:Sg}{H:Hp}{s:Shared}(I:L2.Inv X pins σ H s)(k:SK){a:Addr}{xs:List V}(h:k.sq X.K H a xs):∃its:List Value,zS xs its/\k.has s.heap a its.toArray/\∃o,s.heap.get? a=some o:=by
 cases k with
 | l=>
  obtain⟨its,r,p,_⟩:=I.list h;obtain⟨o,_,e,_⟩:=id p;exact⟨its,r,p.isList,o,e⟩
 | t=>
  obtain⟨its,r,p,_⟩:=I.tuple h;obtain⟨o,e,_⟩:=id p;exact⟨its,r,p,o,e⟩
noncomputable def Itz (K:ae)(k1 k2:SK)(l1 l2:Addr):It:=
 ⟨λi H=>∃xs ys x y,k1.sq K H l1 xs/\k2.sq K H l2 ys/\xs[i]? =some x/\ys[i]? =some y,λi H v H' =>∃p x y,H p=none/\v= .ref p/\(∀xs,k1.sq K H l1 xs->xs[i]? =some x)/\(∀ys,k2.sq K H l2 ys->ys[i]? =some y)/\H' =upd H p (.tup [x,y]),
  λi H=>∃xs ys,k1.sq K H l1 xs/\k2.sq K H l2 ys/\(xs.length<=i\/ys.length<=i)⟩
theorem Inv.seq_inj {X:Cx}{pins:List (Addr×Obj)}{σ:Sg}{H:Hp}{s:Shared}(I:L2.Inv X pins σ H s)(k:SK){a:Addr}{xs ys:List V}(h:k.sq X.K H a xs)(h' :k.sq X.K H a ys):xs=ys:=by
 cases k with
 | l=>exact I.list_inj h h'
 | t=>exact I.tuple_inj h h'
theorem nN {a b:Nat}(h:a ≠ b): @Ne Addr a b:=h
theorem nM {a b c:Nat}(h:a ≠ b)(h' :a ≠ c):¬ @Membership.mem Addr (List Addr) _ [b,c] a:=λq=>by
 rcases ah.mp q with z | z
 ·exact h z
 ·exact h' (aA.mp z)
theorem Qn {P:Program}{w:World}{K:ae}{elts:List Expr}{kk:Nat}{pt:Pos}(k1 k2:SK){n l1 l2:Nat}(h1:l1 < n)(h2:l2 < n):
  UO P w K (.Tuple elts kk pt) (Itz K k1 k2 l1 l2) [n+4,n+2,n+3,n,n+1] (n+4)
   (λi h=>IsZip h (n+4) (n+2) (n+3) .none/\IsPair h (n+2) (.ref n) (.ref (n+1))/\(∃a b,IsPair h (n+3) a b)/\k1.it h n l1 i/\k2.it h (n+1) l2 i):=by
 have D:Ap (n+4) (n+2) (n+3) n (n+1) [n,l1] [n+1,l2]:=by
  refine⟨nN (by omega),nN (by omega),nN (by omega),nN (by omega),nN (by omega),nM (by omega) (by omega),nM (by omega) (by omega),nM (by omega) (by omega),nM (by omega) (by omega),nM (by omega) (by omega),nM (by omega) (by omega)⟩
 refine⟨by simp,λi h st b hb=> ?_,λi h h' st k=> ?_, ?_, ?_, ?_⟩
 ·obtain⟨hz,hI,⟨a,c,hO⟩,p1,p2⟩:=st;simp only[ah,bS,or_false]at hb;rcases hb with rfl | rfl | rfl | rfl | rfl
  ·exact⟨_,hz,λv z=>nomatch z⟩
  ·exact⟨_,hI,λv z=>nomatch z⟩
  ·exact⟨_,hO,λv z=>nomatch z⟩
  ·exact SK.obj p1
  ·exact SK.obj p2
 ·obtain⟨hz,hI,⟨a,c,hO⟩,p1,p2⟩:=st;exact⟨k _ (by simp) _ hz,k _ (by simp) _ hI,⟨a,c,k _ (by simp) _ hO⟩,SK.at_ p1 λo e=>k n (by simp) o e,SK.at_ p2 λo e=>k (n+1) (by simp) o e⟩
 ·intro X hP hw hK hc i pins s σ H E I hf st hg;subst hP hw hK;obtain⟨xs,ys,x,y,s1,s2,hx,hy⟩:=hg;obtain⟨hz,hI,⟨a,c,hO⟩,p1,p2⟩:=st;obtain⟨its1,r1,b1,_⟩:=Inv.seq I k1 s1;obtain⟨its2,r2,b2,_⟩:=Inv.seq I k2 s2;obtain⟨u,hu,ru⟩:=r1.get hx;obtain⟨v,hv,rv⟩:=r2.get hy;refine VY (k1.nx (aC h1) its1.toArray) (k2.nx (i:=n+1) (nN (by omega)) its2.toArray) D hz hI hO ⟨p1,b1⟩ ⟨p2,b2⟩ (x:=u) (y:=v) (by simpa using hu) (by simpa using hv) λg a1 a2 a3 a4 a5 kp=>⟨_,rfl, ?_⟩
  refine wpAny_letOwnedTupleGo_zip a1 λg2 z2 e2=> ?_;have hlt:n+4 < s.heap.objs.size:=ao hz;have ne:∀b:Nat,b<=n+4->s.heap.objs.size ≠ b:=λb hb=>by
   omega
  have kp2:∀b o,b ∉ [n+4,n+2,n+3,n,n+1]->s.heap.get? b=some o->g2.get? b=some o:=λb o hb e=>by
   simp only[ah,bS,or_false,not_or]at hb;exact e2.extBut _ _ hb.1 (kp b o hb.1 hb.2.2.1 hb.2.2.2.1 hb.2.2.2.2 e)
  have g2P:=e2.extBut _ _ (ne _ (ai _)) a5;have g2I:=e2.extBut _ _ D.Iz (kp _ _ D.Iz D.IO D.I1 D.I2 hI);have g2O:=e2.extBut _ _ D.Oz a2;have q1:=SK.at_ a3.1 λo e=>e2.extBut _ _ (nN (by omega)) e
  have q2:=SK.at_ a4.1 λo e=>e2.extBut _ _ (nN (by omega)) e
  have hfr:=I.hok.fresh (ai _);refine⟨.ref s.heap.objs.size,upd H s.heap.objs.size (.tup [x,y]),Inv.laidT (s:=s) (h' :=g2) (tk:=s.toks) I hf kp2 (λb o hb _=> ?_) (ai _)
   ⟨by rw[bZ];show 2<=16777216;decide,[u,v],.cons ru (.cons rv .nil),⟨_,g2P,rfl,_,rfl⟩,.inr ⟨_,g2P,rfl⟩⟩,rfl,⟨_,x,y,hfr,rfl,λzs hq=>by rw[← Inv.seq_inj I k1 s1 hq];exact hx,λzs hq=>by rw[← Inv.seq_inj I k2 s2 hq];exact hy,rfl⟩,⟨z2,g2I,⟨u,v,g2O⟩,q1,q2⟩,λb hb=> ?_⟩
  ·simp only[ah,bS,or_false]at hb;rcases hb with rfl | rfl | rfl | rfl | rfl
   ·exact⟨_,z2⟩
   ·exact⟨_,g2I⟩
   ·exact⟨_,g2O⟩
   ·obtain⟨o',e',_⟩:=SK.obj q1;exact⟨o',e'⟩
   ·obtain⟨o',e',_⟩:=SK.obj q2;exact⟨o',e'⟩
  ·have hb2:(b:Nat)<=n+4:=by
    have hb:=by simpa using hb
    rcases hb with rfl | rfl | rfl | rfl | rfl
    ·exact ai _
    ·exact dF (by decide) n
    ·exact dF (by decide) n
    ·exact aw _ _
    ·exact dF (by decide) n
   rw[zn λz=>ne b hb2 z.symm];exact(hf b hb).1
 ·intro X hP hw hK hc i pins s σ H E I hf st hg;subst hP hw hK;obtain⟨xs,ys,s1,s2,hend⟩:=hg;obtain⟨hz,hI,⟨a,c,hO⟩,p1,p2⟩:=st;obtain⟨its1,r1,b1,_⟩:=Inv.seq I k1 s1;obtain⟨its2,r2,b2,_⟩:=Inv.seq I k2 s2;have l1' :=r1.length;have l2' :=r2.length;refine VZ (I.ok.hd hc) (k1.nx (aC h1) its1.toArray) (k2.nx (nN (by omega)) _) D hz hI hO ⟨p1,b1⟩ ⟨p2,b2⟩ ?_ λg kp=>⟨rfl, ?_⟩
  ·rcases hend with q | q
   ·exact .inl (cA (by rw[av,← l1'];exact q))
   ·exact .inr (cA (by rw[av,← l2'];exact q))
  ·have kp2:∀b o,b ∉ [n+4,n+3,n,n+1]->s.heap.get? b=some o->g.get? b=some o:=λb o hb e=>by
    simp only[ah,bS,or_false,not_or]at hb;exact kp b o hb.1 hb.2.1 hb.2.2.1 hb.2.2.2 e
   have nch:∀b u,H b=some u->b ∉ [n+4,n+3,n,n+1]:=λb u e hb=>by
    have hb' :b∈[n+4,n+2,n+3,n,n+1]:=by
     simp only[ah,bS,or_false]at hb ⊢;rcases hb with q | q | q | q
     ·exact .inl q
     ·exact .inr (.inr (.inl q))
     ·exact .inr (.inr (.inr (.inl q)))
     ·exact .inr (.inr (.inr (.inr q)))
    rw[(hf b hb').1]at e;cases e
   refine I.call' rfl ⟨λb o e _ _ hc=>kp2 b o hc e,λb o e _ _ hc=>⟨o.slots,kp2 b o hc e⟩,λb o e q _=>q,λb o e hc=>⟨o,kp2 b o hc e⟩,λb ys e=>e,λb o u e=>e,λ_ _ _ e=>e⟩ (λb u e=> ?_) I.bare λb hb=> ?_
   ·refine(I.hok b u e).stay (λc v hc q=>kp2 c v ?_ q) (λ_ q=>q) λ_ _ q=>q;rcases hc with rfl | hc
    ·exact nch c u e
    ·exact nch c _ hc
   ·have hb' :b∈[n+4,n+2,n+3,n,n+1]:=by
     simp only[ah,bS,or_false]at hb ⊢;rcases hb with q | q | q | q
     ·exact .inl q
     ·exact .inr (.inr (.inl q))
     ·exact .inr (.inr (.inr (.inl q)))
     ·exact .inr (.inr (.inr (.inr q)))
    obtain⟨f0,f1,f2,f3,f4,f5⟩:=hf b hb';exact⟨f3,f1,f4,f5⟩
 ·intro A i s Q E st h;exact wpAny_pyIter_zip st.1 h
noncomputable def yN (xs ys:List T):List T:=(xs.zip ys).map λp=>T.tup [p.1,p.2]
theorem Qo {xs ys:List T}{i:Nat}{t:T}(h:(yN xs ys)[i]? =some t):∃x y,xs[i]? =some x/\ys[i]? =some y/\t= .tup [x,y]:=by
 unfold yN at h;rw[aj]at h;cases e:(xs.zip ys)[i]? with
 | none=>rw[e]at h;cases h
 | some p=>
  rw[e]at h;cases h;have:=bE.mp e;exact⟨p.1,p.2,this.1,this.2,rfl⟩
theorem uf (xs ys:List T):(yN xs ys).length=min xs.length ys.length:=by unfold yN;simp
theorem kN {K:ae}{B1 H1:Hp}{k1 k2:SK}{a b:Addr}{xs ys:List V}{ts us:List T}(ha:B1 a=some (k1.tr xs))(hb:B1 b=some (k2.tr ys))(ra:zD B1 xs ts)(rb:zD B1 ys us):rI B1 H1 (Itz K k1 k2 a b) (yN ts us):=λB2 H2 s1 s2=>by
 have a2:=k1.sqOf (K:=K) (s2 _ _ (s1 _ _ ha));have b2:=k2.sqOf (K:=K) (s2 _ _ (s1 _ _ hb));rw[uf];refine⟨λi hi=> ?_,λi t x H3 e y=> ?_,λi hi=>⟨xs,ys,a2,b2, ?_⟩⟩
 ·obtain⟨v,e1,_⟩:=ra.get (a9 (show i < ts.length by omega))
  obtain⟨u,e2,_⟩:=rb.get (a9 (show i < us.length by omega))
  exact⟨xs,ys,v,u,a2,b2,e1,e2⟩
 ·obtain⟨p,v,u,hp,rfl,y1,y2,rfl⟩:=y;obtain⟨t1,t2,et,eu,rfl⟩:=Qo e;obtain⟨v',e1,r1⟩:=ra.get et;obtain⟨u',e2,r2⟩:=rb.get eu;have q1:=y1 xs a2;have q2:=y2 ys b2;rw[e1]at q1;cases q1;rw[e2]at q2;cases q2;have up:=zO.ge s2 (zm.new hp (.tup [v,u]));exact⟨zm.new hp _,.tup (ZX hp _) (.cons ((r1.mono s1).mono up) (.cons ((r2.mono s1).mono up) .nil))⟩
 ·rw[ra.length,rb.length];omega
section
variable {X:Cx}{Y:Fx}{a b:Expr}{fa fb:En->R T}{pos p pt:Pos}{elts:List Expr}{kk:Nat}
theorem kO {ta:TA}(hg:Gl X "zip")(hm:X.mg "zip"=none)(ha:PA X [a,b] ta)(hs:starEach [a,b] X.env=[(false,eval a X.env),(false,eval b X.env)])(hs2:starEach [b] X.env=[(false,eval b X.env)]):
  PI X (.Tuple elts kk pt) (.Call (.Name "zip" p) [a,b] [] pos) (λσ H R=>ta σ H λvs H1=>∃k1 k2 l1 l2 xs ys,vs=[.ref l1,.ref l2]/\H1 l1=some (SK.tr k1 xs)/\H1 l2=some (SK.tr k2 ys)/\R (Itz X.K k1 k2 l1 l2) H1):=by
 intro pins s σ H R I h;refine Call_ (ZP I hg hm PyProof.Rows.Boot.«zip» (aO (thn (ha pos _ s σ H _ I h) λus s1 ⟨vs,H1,I1,r1,q1⟩=> ?_) (by rw[hs,hs2]) (by rw[hs2];rfl)))
 obtain⟨k1,k2,l1,l2,xs,ys,e,h1,h2,q⟩:=q1;subst e;obtain⟨u,v,rfl,ru,rv⟩:=y8 r1;obtain rfl:u=Value.ref l1:=ru;obtain rfl:v=Value.ref l2:=rv;obtain⟨its1,_,b1,o1,e1⟩:=Inv.seq I1 k1 (k1.sqOf h1);obtain⟨its2,_,b2,o2,e2⟩:=Inv.seq I1 k2 (k2.sqOf h2);refine x9 (k1.of l1 _) (k2.of l2 _) b1 b2 λg n hn z1 z2 z3 z4 z5 kp=>wpAny_pyIter_zip z1 ?_;subst hn;have f:∀b∈[s1.heap.objs.size+4,s1.heap.objs.size+2,s1.heap.objs.size+3,s1.heap.objs.size,s1.heap.objs.size+1],wb X _ H1 b:=λb hb=>by
  have hb' :s1.heap.objs.size<=b:=by
   simp only[ah,bS,or_false]at hb;rcases hb with rfl | rfl | rfl | rfl | rfl
   ·exact aw _ _
   ·exact aw _ _
   ·exact aw _ _
   ·exact ai _
   ·exact aw _ _
  exact I1.fpOk hb' (I1.hok.fresh hb')
 exact⟨s1.heap.objs.size+4,_,_,_,H1,rfl,I1.kept kp,Qn k1 k2 (ao e1) (ao e2),⟨z1,z2,⟨_,_,z3⟩,SK.start k1 z4,SK.start k2 z5⟩,f,q⟩
noncomputable def ZT:T->R (List T)
 | .lst xs=> .ok xs
 | .tup xs=> .ok xs
 | _=> .bad
noncomputable def yO (fa fb:En->R T):En->R (List T):=λρ=>(fa ρ).bind λt=>(fb ρ).bind λu=>(ZT t).bind λxs=>(ZT u).bind λys=> .ok (yN xs ys)
theorem yP {B:Hp}{v:V}{t:T}{xs:List T}(r:Rep B v t)(e:ZT t= .ok xs):∃(k:SK) (a:Addr) (vs:List V),v= .ref a/\B a=some (k.tr vs)/\zD B vs xs:=by
 cases r with
 | lst h r=>cases e;exact⟨.l,_,_,rfl,h,r⟩
 | tup h r=>cases e;exact⟨.t,_,_,rfl,h,r⟩
 | _=>cases e
theorem uI (t:T)(c:Nat):ZT t ≠ .ex c:=by cases t <;> exact λz=>nomatch z
theorem z0b (hg:Gl X "zip")(hm:X.mg "zip"=none)(ha:Snd X Y a fa)(hb:Snd X Y b fb)(hs:starEach [a,b] X.env=[(false,eval a X.env),(false,eval b X.env)]:=by exact st2 rfl rfl)(hs2:starEach [b] X.env=[(false,eval b X.env)]:=by exact st1 rfl):
  uc X Y (.Tuple elts kk pt) (.Call (.Name "zip" p) [a,b] [] pos) (yO fa fb):= .mk λρ=>
 PI.imp (kO hg hm (zy (ha ρ) (zy (hb ρ) zX hs2) (by rw[hs,hs2])) hs hs2) λσ H R ⟨B,I,q⟩=>step I q λt v H1 _ s1 r1 I1 q1=>step I1 q1 λu v' H2 _ s2 r2 I2 q2=>by
  cases e1:ZT t with
  | bad=>rw[e1]at q2;exact q2.elim
  | ex c=>exact absurd e1 (uI _ _)
  | ok xs=>
   rw[e1]at q2;cases e2:ZT u with
   | bad=>rw[e2]at q2;exact q2.elim
   | ex c=>exact absurd e2 (uI _ _)
   | ok ys=>
    rw[e2]at q2;obtain⟨k1,a1,vs1,rfl,h1,w1⟩:=yP (r1.mono (zO.ge I1.sB s2)) e1;obtain⟨k2,a2,vs2,rfl,h2,w2⟩:=yP r2 e2;exact⟨k1,k2,a1,a2,vs1,vs2,rfl,I2.sB _ _ h1,I2.sB _ _ h2,ZB I2 (show Po Y rI _ H2 _ R from q2) (kN h1 h2 w1 w2)⟩
end
end PV
namespace PV
open PySem PySem.Spec PyProof.Rows L2
section
variable {X:Cx}{Y:Fx}{a b:Expr}{fa fb:En->R T}{pos p p' pos' :Pos}
noncomputable def Wk:T->R T
 | .bl b=> .ok (.int (b2 b))
 | .int i=> .ok (.int i)
 | _=> .bad
theorem z0c (v:V)(t:T)(B H:Hp)(Q:VK)(r:Rep B v t)(sB:zm B H)(q:Po Y rC B H (Wk t) Q):
  (∃i,[v]=[V.int i]/\Q (.int i) H)\/∃k,[v]=[V.bl k]/\Q (.int (if k then 1 else 0)) H:=by
 cases r with
 | int i=>exact .inl ⟨i,rfl,po0 sB q rfl (.int i)⟩
 | bl k=>exact .inr ⟨k,rfl,po0 sB q rfl (by cases k <;> exact .int _)⟩
 | _=>exact q.elim
theorem kP (gl:Gl X "int")(mg:X.mg "int"=none)(ha:Snd X Y a fa)(hs:St1 X a:=by exact st1 rfl):Snd X Y (.Call (.Name "int" p) [a] [] pos) (ap1 Wk fa):=
 vv yb z0c gl mg (PyProof.Rows.Boot.«int») ha hs
theorem yQ:Zo X (.type "range") (λxs H Q=>∃i j,xs=[.int i,.int j]/\∀r,H r=none->Q (.ref r) (upd H r (.rng i j))):=by
 intro pins s σ H xs us Q I r h;obtain⟨i,j,rfl,q⟩:=h;obtain⟨u,v,rfl,ru,rv⟩:=y8 r;obtain⟨t,rfl⟩:=ru;obtain⟨t',rfl⟩:=rv;exact call_range_2 ⟨.ref _,_,I.laid (λb o e=>af _ e) (ai _) (show Zj _ X.w _ _ _ (.rng i j) from ⟨_,_,_,ag _ rfl⟩),rfl,q _ (I.hok.fresh (ai _))⟩
noncomputable def qL (lo:Int)(n:Nat):List V:=(aQ n).map λ(i:Nat)=>V.int (lo+(i:Int))
theorem wU (hh:X.A.handled=none):Zo X (.type "list") (λxs H Q=>∃r lo hi,xs=[.ref r]/\H r=some (.rng lo hi)/\(-1000000 < lo/\lo < 1000000/\ -1000000 < hi/\hi < 1000000)/\∀l,H l=none->Q (.ref l) (upd H l (.lst (qL lo (hi - lo).toNat)))):=by
 intro pins s σ H xs us Q I rv h;obtain⟨r,lo,hi,rfl,e,⟨c1,c2,c3,c4⟩,q⟩:=h;obtain⟨u,rfl,ru⟩:=Zx rv;obtain rfl:u=Value.ref r:=ru;obtain⟨t,v,v',eo⟩:=(show Zj _ X.w H _ r _ from I.hok r _ e);have hn:eK lo hi 1=((hi - lo).toNat):=by rw[rangeSize_one];split <;> omega
 refine call_list_range hh eo (small_one (by omega) (by omega) (by omega) (by omega)) hn (by omega) λh' tk acc c kp eo' hacc=> ?_
 have hv:zS (qL lo (hi - lo).toNat) acc.toList:=by
  have key:∀(n:Nat) (lo:Int) (vs:List _),vs.length=n->(∀(j:Nat) (v:Value),vs[j]? =some v->∃t,v=Value.int (lo+(j)) t)->zS (qL lo n) vs:=by
   intro n
   induction n with
   | zero=>
    intro lo vs hl _;rw[bH hl];exact .nil
   | succ n ih=>
    intro lo vs hl hv;cases vs with
    | nil=>cases hl
    | cons v vs=>
     have e:qL lo (n+1)=V.int (lo+0) :: qL (lo+1) n:=by
      unfold qL;rw[cz,az,aX];refine congrArg _ (cW λj _=> ?_);show V.int _=V.int _;congr 1;omega
     rw[e];refine .cons (hv 0 v rfl) (ih _ vs (by simpa using hl) λj x hx=> ?_)
     obtain⟨t,z⟩:=hv (j+1) x (by simpa using hx)
     exact⟨t,by rw[z];congr 1;omega⟩
  refine key _ lo _ (by simpa using hacc.1) λj v hj=> ?_
  obtain⟨t,z⟩:=hacc.2 j v (by simpa using hj)
  exact⟨t,by rw[z];congr 1;omega⟩
 have hz:(qL lo (hi - lo).toNat).length<=sizeLine:=by
  rw[bZ];unfold qL;rw[xqz,bp];omega
 exact⟨.ref _,_,I.laid kp (ai _) (show Zj _ X.w _ h' _ (.lst _) from ⟨hz,acc.toList,c,hv,by simpa using eo'⟩),rfl,q _ (I.hok.fresh (ai _))⟩
noncomputable def gr (fi:En->R (List T)):En->R T:=λρ=>(fi ρ).bind λts=> .ok (.lst ts)
theorem yR {B:Hp}(lo:Int)(n:Nat):zD B (qL lo n) (rng lo n):=by
 unfold qL rng
 induction aQ n with
 | nil=>exact .nil
 | cons i is ih=>exact .cons (.int _) ih
theorem xa (hh:X.A.handled=none)(gl:Gl X "list")(mg:X.mg "list"=none)(gl' :Gl X "range")(mg' :X.mg "range"=none)(ha:Snd X Y a fa)(hb:Snd X Y b fb)
  (hs:starEach [a,b] X.env=[(false,eval a X.env),(false,eval b X.env)]:=by exact st2 rfl rfl) (hs2:St1 X b:=by exact st1 rfl):Snd X Y (.Call (.Name "list" p) [.Call (.Name "range" p') [a,b] [] pos'] [] pos) (gr (Jl fa fb)):= .mk λρ=>
 PE.imp (jx (wU hh) gl mg PyProof.Rows.Boot.«list» (zy (jx yQ gl' mg' boot_range (zy (ha ρ) (zy (hb ρ) zX hs2) (by rw[hs,hs2])) (by decide) (by decide) (by rw[hs,hs2]) (by rw[hs2];rfl)) zX (st1 rfl)) (by decide) (by decide) (st1 rfl) rfl) λσ H Q ⟨B,I,q⟩=>by
  have q:Po Y rC B H ((fa ρ).bind λt=>(fb ρ).bind λt' =>(match t,t' with | .int i,.int j=>if -1000000 < i/\i < 1000000/\ -1000000 < j/\j < 1000000 then R.ok (rng i (j - i).toNat) else .bad | _,_=> .bad).bind λts=> .ok (.lst ts)) Q:=by
   revert q;unfold gr Jl;cases fa ρ with
   | ok t=>cases fb ρ <;> exact λq=>q
   | ex c=>exact λq=>q
   | bad=>exact λq=>q
  refine step I q λt v H1 _ s1 r1 I1 q1=>step I1 q1 λt' v' H2 _ s2 r2 I2 q2=> ?_;cases r1 with
  | int i=>
   cases r2 with
   | int j=>
    by_cases c: -1000000 < i/\i < 1000000/\ -1000000 < j/\j < 1000000
    ·dsimp only at q2;rw[if_pos c]at q2;refine⟨i,j,rfl,λr hr=>⟨r,i,j,rfl,zE,c,λl hl=> ?_⟩⟩;have hlr:l ≠ r:=λz=>by rw[z,zE]at hl;cases hl
     have hl2:=by rw[zn hlr]at hl;exact hl
     refine q2 _ _ (zm.new hr _ |>.trans (zm.new hl _)) (.lst ?_ (yR _ _))
     rw[Z6 hl2,zE]
    ·dsimp only at q2;rw[if_neg c]at q2;exact q2.elim
   | _=>exact q2.elim
  | _=>cases r2 <;> exact q2.elim
noncomputable def mvS (i j:Nat):En->RS:=λρ=>match ρ[j]? with
 | some (.ow ts)=> .nx ((ρ.set j (.vl (.lst ts))).set i (.vl (.lst ts)))
 | _=> .bad
theorem SI.give {Y:Fx}{B:Hp}{ρ:En}{σ:Sg}{H:Hp}(I:SI Y B ρ σ H){j:Nat}{ts:List T}(hj:ρ[j]? =some (.ow ts)):∃(a:Addr) (B' :Hp),σ[j]? =some (some (V.ref a))/\zm B B' /\Rep B' (.ref a) (.lst ts)/\SI Y B' (ρ.set j (.vl (.lst ts))) σ H:=by
 obtain⟨a,xs,e,b0,h0,hh,rr,d⟩:=I.ow j ts hj;have s1:zm B (upd B a (.lst xs)):=zm.new b0 _;have rp:Rep _ _ _:= .lst zE (rr.mono s1);refine⟨a,_,e,s1,rp,⟨I.s0,I.sH,λb o q=> ?_,λb o q=> ?_,by rw[bw];exact I.len,λk t q=> ?_,λk us q=> ?_,λk c q=> ?_, ?_⟩⟩
 ·by_cases hb:b=a
  ·subst hb;rw[zE]at q;cases q;exact hh
  ·rw[zn hb]at q;exact I.sB b o q
 ·rw[zn λz=>by rw[z,h0]at q;cases q];exact I.old b o q
 ·rcases zB q with ⟨rfl,z⟩ | ⟨_,z⟩
  ·cases z;exact⟨_,e,rp⟩
  ·obtain⟨v,e1,r⟩:=I.vl k t z;exact⟨v,e1,r.mono s1⟩
 ·rcases zB q with ⟨rfl,z⟩ | ⟨hk,z⟩
  ·cases z
  ·obtain⟨a',xs',e',b0',h0',hh',rr',d'⟩:=I.ow k us z;have hne:a' ≠ a:=λw=>by subst w;exact d k us hk z e'
   refine⟨a',xs',e',by rw[zn hne];exact b0',h0',hh',rr'.mono s1,λm ws hm hw=> ?_⟩
   rcases zB hw with ⟨rfl,w⟩ | ⟨_,w⟩
   ·cases w
   ·exact d' m ws hm w
 ·rcases zB q with ⟨rfl,z⟩ | ⟨_,z⟩
  ·cases z
  ·obtain⟨a',e',r⟩:=I.xc k c z;exact⟨a',e',s1 _ _ r⟩
 ·obtain⟨as,O,x⟩:=I.st;refine⟨as,O,x.on (λk y hy h=> ?_) s1 rfl rfl (zm.refl _) λb o hb b0' h0' cs=> ?_⟩
  ·rcases zB h with ⟨_,z⟩ | ⟨_,z⟩
   ·subst z;cases hy
   ·exact⟨z,rfl⟩
  ·have hne:b ≠ a:=λz=>by
    subst z;rcases cs with ⟨C,dx,vs,ez⟩ | ok
    ·rw[hh]at hb;cases hb;cases ez
    ·exact ok j ts hj e
   refine⟨hb,by rw[zn hne];exact b0',h0',λok k us h=> ?_⟩
   rcases zB h with ⟨_,z⟩ | ⟨_,z⟩
   ·cases z
   ·exact ok k us z
theorem s_mv {i j:Nat}{x y:Str}{yp:Pos}(hv:PE X (.Name y yp) (V9 j))(hN:X.N.Nodup)(hi:X.N[i]? =some x)(hx:L2.Loc X.env.scope x)(hs:swapsWith (.Name y yp) (some (.Name x p')) pos.line X.env=pure false:=by rfl)
  (hf:X.fn x=true\/X.env.scope.names.lookup x=some .local:=by first | exact .inl rfl | exact .inr rfl | assumption):wm X Y (.Assign [.Name x p'] (.Name y yp) pos) (mvS i j):= .mk λρ=>
 PS.imp (UY hN hi hx hv hs hf) λD σ H ⟨B,I,q⟩=>by
  unfold mvS at q;split at q
  ·rename_i ts e;obtain⟨a,B',e1,s1,r,J⟩:=I.give e;exact⟨_,e1,q _ _ B' s1 (J.setV i r)⟩
  ·exact q.elim
end
noncomputable def eqs (y:T):List T->Option (List Bool)
 | []=>some []
 | t :: ts=>match eqF 30 t y with
  | none=>none
  | some b=>match eqs y ts with
   | none=>none
   | some bs=>some (b :: bs)
noncomputable def cntT (y:T)(ts:List T):R T:=match eqs y ts with
 | some bs=> .ok (.int (bs.count true))
 | none=> .bad
noncomputable def X7 (y:T)(ts:List T):R T:=match eqs y ts with
 | some bs=>if true∈bs then .ok (.int (bs.idxOf true)) else .bad
 | none=> .bad
noncomputable def gs (g:T->List T->R T)(fa fb:En->R T):En->R T:=λρ=>(fa ρ).bind λt=>match t with
 | .lst ts=>(fb ρ).bind λu=>g u ts
 | _=> .bad
theorem vI {H:Hp}{y:T}{e:Value->Bool}(he:∀(v:V) (t:T) (u:Value) (b:Bool),zU v u->Rep H v t->eqF 30 t y=some b->e u=b):∀{xs:List V} {ts:List T} {its:List Value} {bs:List Bool},
  zS xs its->zD H xs ts->eqs y ts=some bs->its.map e=bs/\∀u∈its,∃v t k,zU v u/\Rep H v t/\eqF 30 t y=some k
 | _,_,_,_,.nil,.nil,h=>by
  cases h;exact⟨rfl,λu hu=>by simp at hu⟩
 | _,_,_,_,.cons rv vs,.cons r rs,h=>by
  rename_i v u vals us t ts;unfold eqs at h;cases q:eqF 30 t y with
  | none=>rw[q]at h;cases h
  | some k=>
   rw[q]at h;cases q' :eqs y ts with
   | none=>rw[q']at h;cases h
   | some k' =>
    rw[q']at h;cases h;obtain⟨h1,h2⟩:=vI he vs rs q';refine⟨by rw[az,h1,he v t u k rv r q],λw hw=> ?_⟩
    rcases ah.mp hw with z | hw
    ·exact⟨v,t,k,z ▸ rv,r,q⟩
    ·exact h2 w hw
section
variable {X:Cx}{Y:Fx}{a b:Expr}{fa fb:En->R T}{pos p p' pos' :Pos}
theorem Qp (hu:X.A.units+64 < cLine):MtR X "list.index" (λx xs H Q=>∃l ys ts v t bs,x= .ref l/\xs=[v]/\H l=some (.lst ys)/\zD H ys ts/\Rep H v t/\eqs t ts=some bs/\true∈bs/\Q (.int (bs.idxOf true)) H):=by
 intro pins s σ H x xs v0 us Q I rx rv h;obtain⟨l,ys,ts,v,t,bs,rfl,rfl,hl,r,rt,e,hm,q⟩:=h;obtain rfl:v0=Value.ref l:=rx;obtain⟨u,rfl,ru⟩:=Zx rv;obtain⟨hz,its,n,ri,eo⟩:=(show Zj _ X.w H _ l _ from I.hok l _ hl);obtain⟨f,hf⟩:=yt λz=>eqF 30 z t;obtain⟨h2,h3⟩:=vI hf ri r e;have hj:=eD.mpr hm;have hlen:bs.length=its.length:=by rw[← h2,xqz]
 have hri:=ri.length;rw[bZ]at hz;have hat:∀m (hm:m < its.length),f its[m]=bs[m]'(by rw[hlen];exact hm):=λm hm=>by
  have:(its.map f)[m]'(by rw[xqz];exact hm)=bs[m]'(by rw[hlen];exact hm):=by simp only[h2]
  rw[← this,List.getElem_map]
 refine cL eT ⟨_,eo,rfl⟩ PySem.F.entry_list_index (PySem.F.args_list_index_2 _ _) (SeqAt.list_indexAt l _ n _ #[] u f _ (by rw[av,← hlen];exact hj) (by omega) ?_ ?_) ⟨eo,λw hw=> ?_, ?_⟩
 ·rw[fB,hat];exact fQ hj
 ·intro m hm hlt;rw[fB,hat m (by simpa using hm)]
  have:=List.not_of_lt_findIdx hlt;simpa using this
 ·obtain⟨v',t',k,rv',rr,ee⟩:=h3 w (by simpa using hw)
  rw[hf v' t' w k rv' rr ee];exact(Q3 I 30 _ (by rw[JC];omega) t' t k v' v w u ee rr rt rv' ru).1
 ·exact⟨.int _,H,I.tok _,⟨_,rfl⟩,q⟩
theorem xf {pa:Pos}(hu:X.A.units+64 < cLine)(ha:jb X Y a fa)(hb:jb X Y b fb)(hb1:attributeBase a "index" X.env (eval a X.env)=eval a X.env:=by rfl)(hs:St1 X b:=by exact st1 rfl)(hz:(pa.endLine == p.line)=true:=by rfl):
  Snd X Y (.Call (.Attribute a "index" pa) [b] [] p) (gs X7 fa fb):= .mk λρ=>by
 have e1:(((((backTo p (starEach [b] X.env)).all λx=> !x.fst) && (backToKw p (keywordEach [] X.env)).all λx=>x.fst.isSome) && decide (([b].length+([]:List Keyword).length+if ([]:List Keyword).isEmpty=true then 0 else 1) < 30))=true):=by rw[hs];rfl
 refine PE.imp (Q2 d8 eT PySem.F.type_list_index (Qp hu) (ha ρ) (zy (hb ρ) zX hs) hb1 e1 hz hs rfl) λσ H Q ⟨B,I,q⟩=>step I q λt v H1 _ s1 r1 I1 q1=> ?_;cases t with
 | lst ts=>
  cases r1 with
  | @lst l xs _ h r=>
   refine⟨.inl ⟨rfl,_,SqL.of h⟩,step I1 q1 λu v' H2 _ s2 r2 I2 q2=> ?_⟩;unfold X7 at q2;split at q2
   ·rename_i bs e;split at q2
    ·rename_i hm;exact⟨l,xs,ts,v',u,bs,rfl,rfl,s2 _ _ h,r.mono s2,r2,e,hm,ZB I2 q2 (.int _)⟩
    ·exact q2.elim
   ·exact q2.elim
 | _=>exact q1.elim
end
noncomputable def zV:List T->Option (List Int)
 | []=>some []
 | .int i :: r=>match zV r with | some l=>some (i :: l) | none=>none
 | _ :: _=>none
noncomputable def Qq:T->R T
 | .lst ts=>match zV ts with | some l=> .ok (.int l.sum) | none=> .bad
 | _=> .bad
noncomputable def gu (fi:En->R (List T))(g:T->En->R En)(ft:En->R Bool)(fe:En->R T)(k:Nat)(js:List Nat):En->RS:=λρ=>(fi (frz ρ)).s λts=>(zp g ft fe k js (frz ρ) ts).s λvs=> .rf vs
noncomputable def kQ:En->RS:=λ_=> .bad
theorem z0d {X:Cx}{Y:Fx}{st:Stmt}:wm X Y st kQ:= .mk λρ=>λpins s σ H D I ⟨B,J,q⟩=>q.elim
theorem JH:∀{H:Hp} {xs:List V} {ts:List T} {its:List Value} {is:List Int},zD H xs ts->zS xs its->zV ts=some is->∃ps:List (Int×Tok),its=ps.map (λp=>Value.int p.1 p.2)/\ps.map (·.1)=is
 | _,_,_,_,is,.nil,.nil,h=>by
  have h' :=h;cases h';exact⟨[],rfl,rfl⟩
 | H,_,_,_,is,.cons r rs,.cons rv vs,h=>by
  cases r with
  | int i=>
   unfold zV at h;split at h
   ·rename_i l e;cases h;obtain⟨ps,h1,h2⟩:=JH rs vs e;obtain⟨tk,rfl⟩:=rv;exact⟨(i,tk) :: ps,by rw[h1];rfl,by rw[az,h2]⟩
   ·cases h
  | _=>cases h
section
variable {X:Cx}{Y:Fx}{a b:Expr}{fa fb:En->R T}{pos p p' pos' :Pos}
theorem yS (hh:X.A.handled=none):Zo X (.builtin "sum") (λvs H Q=>∃l xs ts is,vs=[.ref l]/\H l=some (.lst xs)/\zD H xs ts/\zV ts=some is/\Q (.int is.sum) H):=by
 intro pins s σ H vs us Q I rv h;obtain⟨l,xs,ts,is,rfl,hl,r,hk,q⟩:=h;obtain⟨u,rfl,ru⟩:=Zx rv;obtain rfl:u=Value.ref l:=ru;obtain⟨its,rv,p,_⟩:=zJ I (.inl hl) r;obtain⟨ps,h1,h2⟩:=JH r rv hk;have e:its.toArray=intItems ps.toArray:=by rw[h1];simp[intItems]
 rw[e]at p;refine sum_intListG hh p λh' tk t' kp=> ?_;have e2:preSum (numAt ps.toArray) ps.toArray.size=is.sum:=by
  rw[preSum_eq,f6 (by simp),← h2]
 rw[e2];exact⟨.int _,H,I.kept kp,⟨t',rfl⟩,q⟩
theorem z0e (hh:X.A.handled=none)(gl:Gl X "sum")(mg:X.mg "sum"=none)(ha:jb X Y a fa)(hs:St1 X a:=by exact st1 rfl):Snd X Y (.Call (.Name "sum" p) [a] [] pos) (ap1 Qq fa):=
 Ja (yS hh) (λv t B H Q r sB q=>by
  cases r with
  | @lst l xs ts h r=>
   have q:Po Y rC B H (match zV ts with | some k=> .ok _ | none=> .bad) Q:=q
   split at q
   ·rename_i k e;exact⟨l,xs,ts,k,rfl,h,r,e,po0 sB q rfl (.int _)⟩
   ·exact q.elim
  | _=>exact q.elim) gl mg boot_sum ha hs
end
section
variable {X:Cx}{Y:Fx}{tg iter elt:Expr}{ifs:List Expr}{scope:Scope}{pos pos' :Pos}{N' :List Str}{k:Nat}{js:List Nat}{fi:En->R (List T)}{tG:TG}{g:T->En->R En}{ft:En->R Bool}{fe:En->R T}
theorem kR (C:wn X Y tg iter elt ifs scope N' k js fi tG g ft fe):wm X Y (.Return (some (.ListComp elt [⟨tg,iter,ifs,0⟩] scope pos)) pos') (gu fi g ft fe k js):= .mk λρ=>by
 have pe:PE X (.ListComp elt [⟨tg,iter,ifs,0⟩] scope pos) (λσ H Q=>∃B,SI Y B (frz ρ) σ H/\PoS Y B ((fi (frz ρ)).s λts=>(zp g ft fe k js (frz ρ) ts).s λvs=> .rf vs) { nx:=λ_ _=>False,rt:=Q }):=by
  intro pins s σ H Q I ⟨B,J,q⟩;refine wP (jS rfl) (F:=λD H' =>Q (.ref D) H') (te:=λσ H Q=>∃Y' ρ',Y'.cl=Y.cl/\(Y'.E=λ_ _ _=>False)/\tS Y' rC fe ρ' σ H Q) (tt:=λσ H Q=>∃Y' ρ',Y'.cl=Y.cl/\tS Y' rE ft ρ' σ H Q) C.sc C.cp C.cm (C.it (frz ρ)) C.gt
   (λcl Cx' s3 H3 fp pins pins' s σ H Q I ⟨Y',ρ',ey,q⟩=>C.tt Y' ey cl Cx' s3 H3 fp _ ρ' _ s σ H Q I q) (λcl Cx' s3 H3 fp pins xe hp pins' s σ H Q I ⟨Y',ρ',ey,eE,q⟩=>C.el Y' ey cl Cx' s3 H3 fp _ xe (eE ▸ hp) ρ' _ s σ H Q I q) I ?_ ?_ C.hs
  ·refine Jk J q λts it' H1 _ s1 r1 J1 q1=> ?_;intro D hD;unfold zp at q1;split at q1
   ·rename_i hl;cases ev:zr g ft fe ts _ with
    | bad=>rw[ev]at q1;exact q1.elim
    | ex c=>rw[ev]at q1;exact q1.elim
    | ok vs=>
     rw[ev]at q1;refine JG C.gk C.gn J1 r1 hl ev hD λH' xs B' s' e' r' l' b' sb' => ?_;exact(show PoS Y _ _ _ from q1) D xs H' B' (J1.sH.trans s') (J1.sH.free hD) e' r' b' (l'.trans (vw J1.sH J1.old s' J1.sB))
   ·exact q1.elim
  ·intro D Cc H' s' I' q' hC h0 hL hcell hpin hns;obtain⟨m,hm⟩:=hns;refine⟨m,hm,λh' hsb=>⟨.ref D,H', ?_,rfl,q'⟩⟩;exact I'.turned (λb o hb e=>hsb.extBut b o hb e) hC (bv hL).symm (.inr h0) hcell hpin
 refine PS.imp (vi pe) λD σ H ⟨B,I,q⟩=>⟨_,I.frz, ?_⟩;have q:=PoS.up I.up q;unfold gu at q;revert q;cases fi _ with
 | bad=>exact λq=>q
 | ex c=>exact λq=>q
 | ok ts=>
  show PoS Y _ ((zp g ft fe k js _ ts).s λvs=> .rf vs) D->PoS Y _ ((zp g ft fe k js _ ts).s λvs=> .rf vs) _;cases zp g ft fe k js _ ts with
  | bad=>exact λq=>q
  | ex c=>exact λq=>q
  | ok vs=>exact λq=>q
end
end PV
namespace PySem.RV
open PySem PySem.Spec PyProof.Rows PySem.Builtin.SmallTypes
theorem uJ:Manifest.owners.lookup (String.ofList "desrever".toList.reverse)=some Manifest.sig_reversed:=by kernel_rfl
theorem ZZ:Slot "reversed" "__next__" "reversed.__next__":=
 .of (owner:="reversed") (n:="__next__") (by kernel_rfl) (by decide+kernel) (by decide+kernel) (by decide+kernel)
  (by first | exact .inl (by decide+kernel) | exact .inr (by decide+kernel)) (by kernel_rfl)
theorem wp:entryFor table "reversed.__next__"=some Builtin.«reversed.__next__»:=entryFor_of_tree (by kernel_rfl)
theorem WC (a:Value):argsOk "reversed.__next__" ⟨[a],[]⟩:=by
 unfold argsOk;rw[signature?_of (n:="__txen__".toList) (by kernel_rfl) uJ];kernel_rfl
theorem WD:Slot "reversed" "__iter__" "reversed.__iter__":=
 .of (owner:="reversed") (n:="__iter__") (by kernel_rfl) (by decide+kernel) (by decide+kernel) (by decide+kernel)
  (by first | exact .inl (by decide+kernel) | exact .inr (by decide+kernel)) (by kernel_rfl)
theorem yT (a:Value):argsOk "reversed.__iter__" ⟨[a],[]⟩:=by
 unfold argsOk;rw[signature?_of (n:="__reti__".toList) (by kernel_rfl) uJ];kernel_rfl
theorem Uy:entryFor table "reversed.__iter__"=some Builtin.«dict_keyiterator.__iter__»:=
 entryFor_alias (id' :="dict_keyiterator.__iter__") (by kernel_rfl) (by first | rfl | decide+kernel | (unfold String.splitOn;simp+decide [String.splitOnAux])) (by decide+kernel) (by kernel_rfl)
theorem kS:typeLookup (.type "tuple") "__reversed__"=pure none:=by rw[typeLookup_type,builtinLookup_eq_fast];kernel_rfl
theorem kT:isSubtype (.type "tuple") (.type "dict")=pure false:=by rw[isSubtype_type];kernel_rfl
noncomputable abbrev IsRv (h:Heap)(it:Addr)(v:Value)(i:Int):Prop:=h.get? it=some { cls:= .type "reversed",data:= .fields #[v,rawInt i] }
section
variable {prog:Program}{w:World}{A:Around}{E:Value->Shared->Prop}{s:Shared}{it l:Addr}{xs:Array Value}
theorem ug {v:Value}{i:Int}(x:IsRv s.heap it v i):s.TypeIs (.ref it) "reversed":=⟨_,x,rfl⟩
theorem next_item {i:Nat}{x:Value}{Q:Option Value->Shared->Prop}(hit:IsRv s.heap it (.ref l) (i:Int))(ht:IsTup s.heap l xs)(hf:(xs.size:Int) < 2 ^ 63)(hx:xs[i]? =some x)
  (hQ:∀h' tk,IsRv h' it (.ref l) ((i:Int) - 1)->cu it s.heap h' ->Q (some x) { s with heap:=h',toks:=tk }):wpAny (model prog w) A (pyNext (.ref it)) Q E s:=by
 refine a7 (wpAny_attempt (bg (ug hit) ZZ (bF ZZ (ug hit) wp ?_ (WC _))));refine a7 (c6 rfl ?_);refine a7 (aW hit rfl rfl ?_);refine a7 (aW hit rfl rfl ?_);have hi:=(Array.getElem?_eq_some_iff.mp hx).1;have hT:=ht.typeIs;refine a7 (wpAny_specialOf hT slot_tuple_getitem.lookup ?_);refine a7 (wpAny_mkInt ?_);refine a7 (wpAny_attempt (getItem_tuple ht (by omega) (by omega) (seqIndex_of (by omega) (by omega)) (by simpa using hx) ?_))
 refine a7 (aW hit rfl rfl ?_);refine a7 (bh hit (by simp) λg1 z1 e1=> ?_)
 exact am ⟨x,rfl,am (hQ g1 _ z1 e1)⟩
theorem next_end {Q:Option Value->Shared->Prop}(hh:A.handled=none)(hit:IsRv s.heap it (.ref l) (-1))
  (hQ:∀h',fA it s.heap h' ->Q none { s with heap:=h' }):wpAny (model prog w) A (pyNext (.ref it)) Q E s:=by
 refine a7 (wpAny_attempt (bg (ug hit) ZZ (bF ZZ (ug hit) wp ?_ (WC _))));refine a7 (c6 rfl ?_);refine a7 (aW hit rfl rfl ?_);refine a7 (aW hit rfl rfl ?_);refine a7 (dw ?_);refine a7 (show wpAny _ _ _ _ _ _ from ?_);refine a7 (bh hit (by simp) λg1 z1 e1=> ?_)
 refine bh z1 (by simp) λg2 z2 e2=> ?_
 refine a7 (show wpAny _ _ (newExc _ [] >>= λe=>raiseNew e) _ _ _ from ?_);refine a7 ?_;refine a7 (a_ (a7 (c6 (by first | rfl | (simp only[firstArgMember])) (a_ ?_ (by size_fits)))) (by size_fits))
 refine a7 (wpAny_handled ?_);rw[hh];refine a7 (am (wpAny_throw ?_));refine a7 (wpAny_isInstance ⟨_,ag _ rfl,rfl⟩ isSubtype_stop ?_);exact am (hQ _ (((e1.extBut.trans e2.extBut).push _).push _))
theorem iter_rv {v:Value}{i:Int}{Q:Value->Shared->Prop}(hit:IsRv s.heap it v i)(h:Q (.ref it) s):wpAny (model prog w) A (pyIter (.ref it)) Q E s:=by
 refine wpAny_pyIter_slot (ug hit) WD (bF WD (ug hit) Uy ?_ (yT _));exact am ⟨_,rfl,"reversed",_,ug hit,ZZ.lookup,h⟩
theorem vJ:mroOf (.type "reversed")=pure [.type "reversed",.type "object"]:=by rw[mroOf_type];kernel_rfl
theorem kU:typeLookup (.type "reversed") "__new__"=pure (some (.builtin "reversed.__new__")):=by kernel_rfl
theorem xg:Bind.madeBy (.type "reversed")=pure (some "reversed.__new__"):=madeBy_type vJ kU (by decide+kernel)
theorem kW:isSubtype (.type "reversed") (.type "reversed")=pure true:=by rw[isSubtype_type];kernel_rfl
theorem kX (a:Value):newClass "reversed" ⟨[.type "reversed",a],[]⟩=pure (.type "reversed",[a]):=by
 unfold newClass;simp only[isType,kW,pure_bind,eG,aH,if_false]
theorem yU:entryFor table "reversed.__new__"=some Builtin.«reversed.__new__»:=entryFor_of_tree (by kernel_rfl)
theorem Qr {Q:Fin->Shared->Prop}(ht:IsTup s.heap l xs)(hf:(xs.size:Int) < 2 ^ 63)
  (h:∀tk,Q (.done (.ret (.ref s.heap.objs.size))) { s with heap:=s.heap.push { cls:= .type "reversed",data:= .fields #[.ref l,rawInt ((xs.size:Int) - 1)] },toks:=tk }):
  wpAny (model prog w) A (Builtin.«reversed.__new__» ⟨[.type "reversed",.ref l],[]⟩) Q E s:=by
 have hT:=ht.typeIs;refine a7 (c6 (kX _) ?_);refine a7 (c6 (by first | rfl | kernel_rfl) ?_)
 refine a7 (c6 (by first | rfl | kernel_rfl) ?_)
 refine a7 (wpAny_specialOf hT kS ?_);refine a7 ?_;refine a7 (wpAny_isInstance hT kT ?_);refine a7 (wpAny_specialOf hT slot_tuple_getitem.lookup ?_);refine am ?_;refine a7 (len_tuple ht hf ?_);refine a7 (c6 rfl ?_);refine a7 (show wpAny _ _ (newObj _ (.fields #[.ref l,rawInt _])) _ _ _ from ?_);exact a_ (am (h _)) (by size_fits)
theorem yV:Slot "reversed" "__init__" "object.__init__":=
 .of (owner:="object") (n:="__init__") (by kernel_rfl) (by decide+kernel) (by decide+kernel) (by decide+kernel)
  (by first | exact .inl (by decide+kernel) | exact .inr (by decide+kernel)) (by kernel_rfl)
theorem yW:TypeCalled "reversed" "reversed.__new__" "object.__init__":=
 ⟨by decide+kernel,by decide+kernel,⟨_,_,vJ⟩,xg,by decide+kernel,by kernel_rfl,yV⟩
theorem Qs (a:Value):checkTypeCall "reversed" ⟨[a],[]⟩=pure ():=by kernel_rfl
theorem Qt (a:Value):checkBuiltinCall "reversed.__new__" ⟨[.type "reversed",a],[]⟩=pure ():=by kernel_rfl
theorem call_rvT {Q:Value->Shared->Prop}(ht:IsTup s.heap l xs)(hf:(xs.size:Int) < 2 ^ 63)
  (h:∀tk,Q (.ref s.heap.objs.size) { s with heap:=s.heap.push { cls:= .type "reversed",data:= .fields #[.ref l,rawInt ((xs.size:Int) - 1)] },toks:=tk }):wpAny (model prog w) A (call (.type "reversed") [.ref l]) Q E s:=by
 refine callType_new (S:=λ_ R s=>(∃xs,IsTup s.heap l xs/\(xs.size:Int) < 2 ^ 63/\∀tk,R (.ok (.ret (.ref s.heap.objs.size))) { s with heap:=s.heap.push { cls:= .type "reversed",data:= .fields #[.ref l,rawInt ((xs.size) - 1)] },toks:=tk })) yW (by decide) (Qs _) (Qt _) (λobj=>PySem.F.args_object_init_2 obj _) yU (.of_wp λprog w A R s h=> ?_) ⟨xs,ht,hf,λtk=> ?_⟩
 ·obtain⟨xs,h1,h2,h3⟩:=h;exact Qr h1 h2 λtk=>⟨_,rfl,h3 tk⟩
 ·exact⟨⟨_,ag _ rfl,rfl⟩,h tk⟩
end
end PySem.RV
namespace PySem.RV
open PySem PySem.Spec PyProof.Rows
theorem Qu:typeLookup (.type "list_reverseiterator") "__len__"=pure none:=by rw[typeLookup_type,builtinLookup_eq_fast];kernel_rfl
theorem xh:typeLookup (.type "list_reverseiterator") "__length_hint__"=pure (some (.builtin "list_reverseiterator.__length_hint__")):=by rw[typeLookup_type];kernel_rfl
section
variable {prog:Program}{w:World}{A:Around}{E:Value->Shared->Prop}{s:Shared}{I:Addr}{fp wr:List Addr}{G:Array GenState->Array GenState->Prop}{n:Nat}{P:Nat->Value->Prop}{St:Nat->Shared->Prop}
theorem Uz {Q:List Value->Shared->Prop}(W:WalksS prog w A.in1 I fp wr G n P St)(hT:∀i s,St i s->s.TypeIs (.ref I) "list_reverseiterator")(hst:St 0 s)(hfp:∀b∈fp,b < s.heap.objs.size)(hI:I∈fp)
  (hQ:∀s' acc,Moved wr G s s' ->ItemsOf P acc n->Q acc.toList s') (hn:n<=sizeLine):wpAny (model prog w) A (collect (.ref I)) Q E s:=by
 have nf:=λz=>bi _ (hfp _ z);have nI:s.heap.objs.size ≠ I:=λz=>nf (z ▸ hI);unfold collect;refine a7 (wpAny_runValue (bC F.entry_proto_collect ?_));refine a7 (a_ (am ⟨cb F.plain_list_iadd _,bC F.entry_list_iadd ?_⟩));have g0:=W.frame 0 s (s.heap.push { cls:= .type "list",data:= .seq ([]:List _).toArray }) _ hst (ai _) λb _ o e=>af _ e;have g1:(s.heap.push { cls:= .type "list",data:= .seq ([]:List _).toArray }).get? _=some _:=ag _ rfl;have g2:eH (.ref s.heap.objs.size) (.ref I)=false:=by simp[eH,nI]
 refine(show wpAny _ _ (Builtin.List.listExtendWith _ _ _) _ _ _ from ?_);refine a7 (wpAny_typeOf (hT 0 _ g0) ?_);rw[if_neg (by rw[g2];decide)]
 refine a7 (W.self 0 _ _ _ g0 (a7 (bQ ?_)));refine a7 (wpAny_specialOf (hT 0 _ g0) Qu ?_);refine a7 (wpAny_specialOf (hT 0 _ g0) xh ?_);generalize hid:("list_reverseiterator.__length_hint__")=id0;subst hid;refine a7 (wpAny_isInstance (b:=true) (hT 0 _ g0) (by kernel_rfl) ?_)
 refine am ?_;refine am ⟨cb F.plain_extend_loop _,codeAny_extend_loopS W hn _ nf _ n 0 _ _ _ rfl (ba _) g0 g1 (ItemsOf.nil P) λs' acc' c' hm hS' hacc=> ?_⟩;exact a7 (wpAny_load hS' (am (hQ s' _ (Moved.drop_new hm (ai _)) hacc)))
theorem kY {Q₁:Value->Shared->Prop}(W:WalksS prog w A.in1.in1 I fp wr G n P St)(hT:∀i s,St i s->s.TypeIs (.ref I) "list_reverseiterator")(hst:St 0 s)(hfp:∀b∈fp,b < s.heap.objs.size)(hI:I∈fp)
  (h:∀s' acc,Moved wr G s s' ->ItemsOf P acc n->Q₁ (.ref s'.heap.objs.size) { s' with heap:=s'.heap.push { cls:= .type "tuple",data:= .seq acc } }) (hsz:n<=sizeLine):
  codeAny (model prog w) A (.call (.builtin "tuple.__new__") ⟨[.type "tuple",.ref I],[]⟩) (wants Q₁ E) s:=by
 refine codeAny_of_tree ?_;refine(show wpAny _ A.in1 (do checkBuiltinCall "tuple.__new__" ⟨[.type "tuple",.ref I],[]⟩;again (.builtin "tuple.__new__" ⟨[.type "tuple",.ref I],[]⟩)) _ _ s from ?_)
 refine a7 (c6 (F.newCall_tuple_1 _) (am ⟨cb fZ _,bC F.entry_tuple_new ?_⟩));rw[cM fZ _];have hsub:=sub_tuple_self;have hinit:=init_tuple_lookup;have hmh:=madeHere_tuple;have ty:=hT 0 s hst
 wp_walk using wpAny_typeOf ty,Uz (hn:=hsz) W hT hst hfp hI
 intro s' acc hm hacc;have e:acc.toList.toArray=acc:=by simp
 refine(show wpAny _ _ (eI acc.toList.toArray >>= λv=>ret v) _ _ _ from ?_);unfold eI;refine a7 (a_ (am ?_) (by rw[e];show acc.size<=sizeLine;rw[hacc.1];exact hsz))
 rw[e];exact h s' acc hm hacc
theorem tuple_lr {Q:Value->Shared->Prop}(W:WalksS prog w A.in1.in1.in1 I fp wr G n P St)(hT:∀i s,St i s->s.TypeIs (.ref I) "list_reverseiterator")(hst:St 0 s)(hfp:∀b∈fp,b < s.heap.objs.size)(hI:I∈fp)
  (hQ:∀s' acc,Moved wr G s s' ->ItemsOf P acc n->Q (.ref s'.heap.objs.size) { s' with heap:=s'.heap.push { cls:= .type "tuple",data:= .seq acc } }) (hsz:n<=sizeLine):
  wpAny (model prog w) A (call (.type "tuple") [.ref I]) Q E s:=
 callType_codes (Q₁:=λobj s₁=>s₁.TypeIs obj _/\Q obj _) fE (F.typeCall_tuple_1 _) F.entry_object_init
  (kY (hsz:=hsz) W hT hst hfp hI λs' acc hm hacc=>⟨⟨_,ag _ rfl,rfl⟩,hQ s' acc hm hacc⟩) λobj s₁ h₁=>
   ⟨h₁.1,fF obj _,object_init_meets fE.init.lookup fE.made (by decide) _ w _ _ _ ⟨h₁.1,rfl,h₁.2⟩⟩
end
end PySem.RV
namespace PV
open PySem PySem.Spec PyProof.Rows L2
noncomputable def z0f (K:ae)(a:Addr)(n:Nat):It:=
 ⟨λi H=>∃xs x,SqT K H a xs/\xs.length=n/\xs.reverse[i]? =some x,λi H x H' =>H' =H/\∀xs,SqT K H a xs->xs.reverse[i]? =some x,λi H=>∃xs,SqT K H a xs/\xs.length=n/\n<=i⟩
noncomputable def z0g (K:ae)(a:Addr)(n:Nat):It:=
 ⟨λi H=>∃xs x,SqL K H a xs/\xs.length=n/\xs.reverse[i]? =some x,λi H x H' =>H' =H/\∀xs,SqL K H a xs->xs.reverse[i]? =some x,λi H=>∃xs,SqL K H a xs/\xs.length=n/\n<=i⟩
theorem vK {α:Type}{xs:List α}{i:Nat}{x:α}(h:xs.reverse[i]? =some x):i < xs.length/\xs[xs.length - 1 - i]? =some x:=by
 have hi:=(ak.mp h).1;rw[bN]at hi;rw[fq hi]at h;exact⟨hi,h⟩
theorem Qv {P:Program}{w:World}{K:ae}{tg:Expr}(a it:Addr)(n:Nat):UO P w K tg (z0f K a n) [it] it (λi h=>i<=n/\RV.IsRv h it (.ref a) ((n:Int) - 1 - (i:Int))) where
 mem:=by simp
 obj:=λi h st b hb=>by
  have e:b=it:=by simpa using hb
  subst e;exact⟨_,st.2,λv z=>nomatch z⟩
 keep:=λi h h' st k=>⟨st.1,k it (by simp) _ st.2⟩
 item:=by
  intro X hP hw hK hc i pins s σ H E I hf st hg;subst hP hw hK;obtain⟨xs,x,hq,hn,hx⟩:=hg;obtain⟨its,rv,p,hz⟩:=I.tuple hq;obtain⟨hi,hx'⟩:=vK hx;obtain⟨u,hu,ru⟩:=rv.get hx';obtain⟨f0,f1,f2,f3,f4,f5⟩:=hf it (by simp)
  have hl:=rv.length;have e:(n:Int) - 1 - (i:Int)=((xs.length - 1 - i:Nat):Int):=by omega
  have hit:=st.2;rw[e]at hit;have hb:(its.toArray.size:Int) < 2 ^ 63:=by
   rw[bZ]at hz;simp;omega
  refine RV.next_item hit p hb (x:=u) (by simpa using hu) λh' tk st' sb=> ?_
  have I1:Inv X pins σ H { s with heap:=h',toks:=tk }:=I.turned (t' :=tk) (λb o hb e=>(sb.2 b hb).trans e) f0 f1 f3 f4 f5;have e2:((xs.length - 1 - i:Nat):Int) - 1=(n:Int) - 1 - ((i+1:Nat):Int):=by omega
  rw[e2]at st';exact⟨u,rfl,Uj (s:={ s with heap:=h',toks:=tk }) st' rfl rfl (by decide) ⟨x,H,I1,ru,⟨rfl,λys hy=>by rw[I.tuple_inj hy hq];exact hx⟩,⟨by omega,st'⟩,λb hb=>(hf b hb).1⟩⟩
 done:=by
  intro X hP hw hK hc i pins s σ H E I hf st hg;subst hP hw hK;obtain⟨xs,hq,hn,hx⟩:=hg;obtain⟨f0,f1,f2,f3,f4,f5⟩:=hf it (by simp)
  have hit:=st.2;have h1:=st.1;rw[show (n:Int) - 1 - (i:Int)= -1 by omega]at hit
  exact RV.next_end (I.ok.hd hc) hit λh' eb=>⟨rfl,I.turned (t' :=s.toks) (λb o hb e=>eb b o hb e) f0 f1 f3 f4 f5⟩
 self:=λ_ _ _ _ _ st h=>RV.iter_rv st.2 h
theorem Qw {P:Program}{w:World}{K:ae}{tg:Expr}(a it:Addr)(n:Nat):UO P w K tg (z0g K a n) [it] it (λi h=>i<=n/\h.IsRevIter it a ((n:Int) - 1 - (i:Int))) where
 mem:=by simp
 obj:=λi h st b hb=>by
  have e:b=it:=by simpa using hb
  subst e;obtain⟨o,e,c,d⟩:=st.2;exact⟨o,e,λv z=>by rw[d]at z;cases z⟩
 keep:=λi h h' st k=>⟨st.1,st.2.at λo e=>k it (by simp) o e⟩
 item:=by
  intro X hP hw hK hc i pins s σ H E I hf st hg;subst hP hw hK;obtain⟨xs,x,hq,hn,hx⟩:=hg;obtain⟨its,rv,p,hz⟩:=I.list hq;obtain⟨hi,hx'⟩:=vK hx;obtain⟨u,hu,ru⟩:=rv.get hx';obtain⟨f0,f1,f2,f3,f4,f5⟩:=hf it (by simp)
  have e:(n:Int) - 1 - (i:Int)=((xs.length - 1 - i:Nat):Int):=by omega
  have hit:=st.2;rw[e]at hit;refine wpAny_pyNext_rev_item hit p.isList (x:=u) (by simpa using hu) λh' st' sb=> ?_
  have I1:Inv X pins σ H { s with heap:=h' }:=I.turned (t' :=s.toks) (λb o hb e=>(sb.2 b hb).trans e) f0 f1 f3 f4 f5;have e2:((xs.length - 1 - i:Nat):Int) - 1=(n:Int) - 1 - ((i+1:Nat):Int):=by omega
  rw[e2]at st';obtain⟨o,e,c,d⟩:=id st';exact⟨u,rfl,Uj (s:={ s with heap:=h' }) e c d (by decide) ⟨x,H,I1,ru,⟨rfl,λys hy=>by rw[I.list_inj hy hq];exact hx⟩,⟨by omega,st'⟩,λb hb=>(hf b hb).1⟩⟩
 done:=by
  intro X hP hw hK hc i pins s σ H E I hf st hg;subst hP hw hK;obtain⟨xs,hq,hn,hx⟩:=hg;obtain⟨f0,f1,f2,f3,f4,f5⟩:=hf it (by simp)
  have hit:=st.2;have h1:=st.1;rw[show (n:Int) - 1 - (i:Int)= -1 by omega]at hit
  exact wpAny_pyNext_rev_end (I.ok.hd hc) hit λh' eb=>⟨rfl,I.turned (t' :=s.toks) (λb o hb e=>eb b o hb e) f0 f1 f3 f4 f5⟩
 self:=λ_ _ _ _ _ st h=>wpAny_pyIter_revIter st.2 h
theorem zD.rev {H:Hp}:∀{vs:List V} {ts:List T},zD H vs ts->zD H vs.reverse ts.reverse
 | _,_,.nil=> .nil
 | _,_,.cons r t=>by rw[c7,c7];exact(zD.rev t).append (.cons r .nil)
theorem kZ {K:ae}{B1 H1:Hp}{a:Addr}{xs:List V}{ts:List T}(h:B1 a=some (.tup xs))(r:zD B1 xs ts):rI B1 H1 (z0f K a xs.length) ts.reverse:=λB2 H2 s1 s2=>by
 have h2:=s2 _ _ (s1 _ _ h);have hr:=r.rev;refine⟨λi hi=> ?_,λi t x H3 e y=> ?_,λi hi=>⟨xs,SqT.of h2,rfl,by rw[bN]at hi;rw[r.length];exact hi⟩⟩
 ·obtain⟨v,e,_⟩:=hr.get (a9 hi);exact⟨xs,v,SqT.of h2,rfl,e⟩
 ·obtain⟨rfl,y⟩:=y;obtain⟨v,e1,r1⟩:=hr.get e;have:=y xs (SqT.of h2);rw[e1]at this;cases this;refine⟨zm.refl _, ?_⟩;rw[zO.self B2 _ s2];exact r1.mono s1
theorem K0 {K:ae}{B1 H1:Hp}{a:Addr}{xs:List V}{ts:List T}(h:B1 a=some (.lst xs))(r:zD B1 xs ts):rI B1 H1 (z0g K a xs.length) ts.reverse:=λB2 H2 s1 s2=>by
 have h2:=s2 _ _ (s1 _ _ h);have hr:=r.rev;refine⟨λi hi=> ?_,λi t x H3 e y=> ?_,λi hi=>⟨xs,SqL.of h2,rfl,by rw[bN]at hi;rw[r.length];exact hi⟩⟩
 ·obtain⟨v,e,_⟩:=hr.get (a9 hi);exact⟨xs,v,SqL.of h2,rfl,e⟩
 ·obtain⟨rfl,y⟩:=y;obtain⟨v,e1,r1⟩:=hr.get e;have:=y xs (SqL.of h2);rw[e1]at this;cases this;refine⟨zm.refl _, ?_⟩;rw[zO.self B2 _ s2];exact r1.mono s1
noncomputable def z0h (fa:En->R T):En->R (List T):=λρ=>(fa ρ).bind λt=>(ZT t).bind λxs=> .ok xs.reverse
noncomputable def Qx:T->R T
 | .lst xs=>if xs.length<=bnd then .ok (.tup xs.reverse) else .bad
 | _=> .bad
section
variable {X:Cx}{Y:Fx}{a b tg:Expr}{fa fb:En->R T}{pos p p' pos' :Pos}
theorem K1 {ta:TA}(hg:Gl X "reversed")(hm:X.mg "reversed"=none)(ha:PA X [a] ta)(hs:St1 X a:=by exact st1 rfl):
  PI X tg (.Call (.Name "reversed" p) [a] [] pos) (λσ H R=>ta σ H λvs H1=>∃l xs,vs=[.ref l]/\((H1 l=some (.lst xs)/\R (z0g X.K l xs.length) H1)\/(H1 l=some (.tup xs)/\R (z0f X.K l xs.length) H1))):=by
 intro pins s σ H R I h;refine Call_ (ZP I hg hm boot_reversed (aO (thn (ha pos _ s σ H _ I h) λus s1 ⟨vs,H1,I1,r1,q1⟩=> ?_) hs rfl));obtain⟨l,xs,e,q⟩:=q1;subst e;obtain⟨u,rfl,ru⟩:=Zx r1;obtain rfl:u=Value.ref l:=ru;have ok:∀b∈[s1.heap.objs.size],wb X _ H1 b:=λb hb=>by
  have e:=by simpa using hb
  subst e;exact I1.fpOk (ai _) (I1.hok.fresh (ai _))
 rcases q with ⟨hl,q⟩ | ⟨hl,q⟩
 ·obtain⟨its,rv,p,hz⟩:=I1.list (SqL.of hl);have e:((its.toArray.size):Int) - 1=(xs.length) - 1 - ((0):Int):=by have:=rv.length;simp;omega
  refine call_reversed_list p.isList ?_;rw[e];have st:(s1.heap.push (revObj l ((xs.length) - 1 - ((0):Int)))).IsRevIter _ l _:=⟨_,ag _ rfl,rfl,rfl⟩;refine wpAny_pyIter_revIter st ?_;exact⟨s1.heap.objs.size,[s1.heap.objs.size],_,_,H1,rfl,I1.kept (λb o e=>af _ e),Qw l _ _,⟨ba _,st⟩,ok,q⟩
 ·obtain⟨its,rv,p,hz⟩:=I1.tuple (SqT.of hl);have hlen:=rv.length;have e:((its.toArray.size):Int) - 1=(xs.length) - 1 - ((0):Int):=by simp;omega
  refine RV.call_rvT p (by rw[bZ]at hz;omega) λtk=> ?_
  rw[e];refine RV.iter_rv (ag _ rfl) ?_;exact⟨s1.heap.objs.size,[s1.heap.objs.size],_,_,H1,rfl,I1.kept (λb o e=>af _ e),Qv l _ _,⟨ba _,ag _ rfl⟩,ok,q⟩
theorem z0i (hg:Gl X "reversed")(hm:X.mg "reversed"=none)(ha:Snd X Y a fa)(hs:St1 X a:=by exact st1 rfl):uc X Y tg (.Call (.Name "reversed" p) [a] [] pos) (z0h fa):= .mk λρ=>
 PI.imp (K1 hg hm (zy (ha ρ) zX hs) hs) λσ H R ⟨B,I,q⟩=>step I q λt v H1 _ s1 r1 I1 q1=>by
  cases r1 with
  | @tup l xs ts h r=>exact⟨l,xs,rfl,.inr ⟨I1.sB _ _ h,ZB I1 (show Po Y rI _ H1 _ R from q1) (kZ h r)⟩⟩
  | @lst l xs ts h r=>exact⟨l,xs,rfl,.inl ⟨I1.sB _ _ h,ZB I1 (show Po Y rI _ H1 _ R from q1) (K0 h r)⟩⟩
  | _=>exact q1.elim
theorem uK:∀{xs ys:List V} {us ws:List Value},zS xs us->zS ys ws->zS (xs++ys) (us++ws)
 | _,_,_,_,.nil,q=>q
 | _,_,_,_,.cons r t,q=> .cons r (uK t q)
theorem uL:∀{xs:List V} {us:List Value},zS xs us->zS xs.reverse us.reverse
 | _,_,.nil=> .nil
 | _,_,.cons r t=>by rw[c7,c7];exact uK (uL t) (.cons r .nil)
theorem xi {its:List Value}{acc:Array Value}(h:ItemsOf (λi v=>its.toArray[its.toArray.size - 1 - i]? =some v) acc its.toArray.size):acc.toList=its.reverse:=by
 have h1:=by
  have:=h.1;simpa using this
 have h2:=h.2;refine d_ λi=> ?_
 by_cases hi:i < its.length
 ·have hlt:i < acc.toList.length:=by simp;omega
  have e:=a9 hlt;have:=h2 i _ (by rw[← Array.getElem?_toList];exact e)
  rw[fq hi,e,← this];simp
 ·rw[aU (by simp;omega),aU (by simp;omega)]
theorem K2 (hh:X.A.handled=none)(gl:Gl X "tuple")(mg:X.mg "tuple"=none)(gl' :Gl X "reversed")(mg' :X.mg "reversed"=none)(ha:Snd X Y a fa)(hs:St1 X a:=by exact st1 rfl)(hs' :St1 X (.Call (.Name "reversed" p') [a] [] pos'):=by exact st1 rfl):
  Snd X Y (.Call (.Name "tuple" p) [.Call (.Name "reversed" p') [a] [] pos'] [] pos) (ap1 Qx fa):= .mk λρ=>by
 intro pins s σ H Q I ⟨B,J,q⟩;have hq:tS Y rC fa ρ σ H (λv H1=>∃l xs,v= .ref l/\H1 l=some (.lst xs)/\xs.length<=sizeLine/\∀t,H1 t=none->Q (.ref t) (upd H1 t (.tup xs.reverse))):=by
  refine step J q λt v H1 _ s1 r1 I1 q1=> ?_;cases r1 with
  | @lst l xs ts h r=>
   have q1:Po Y rC _ H1 (if ts.length<=bnd then .ok (.tup ts.reverse) else .bad) Q:=q1
   split at q1
   ·rename_i hb;exact⟨l,xs,rfl,I1.sB _ _ h,by rw[r.length];exact ZC hb,λt ht=>XX I1.sB q1 rfl r.rev ht⟩
   ·exact q1.elim
  | _=>exact q1.elim
 refine bU (ZP I gl mg PyProof.Rows.Boot.«tuple» (aO (rest:=[]) ?_ hs' rfl));rw[hs'];refine fM (bU (ZP I gl' mg' boot_reversed (aO (e:=a) (rest:=[]) ?_ hs rfl)));refine thn ((zy (ha ρ) zX hs) pos' pins s σ H (λvs H1=>∃l xs,vs=[.ref l]/\H1 l=some (.lst xs)/\xs.length<=sizeLine/\∀t,H1 t=none->Q (.ref t) (upd H1 t (.tup xs.reverse))) I ?_) λus s1 ⟨vs,H1,I1,r1,l,xs,e,hl,hz,q1⟩=> ?_
 ·obtain⟨B',J',q'⟩:=hq;refine⟨B',J', ?_⟩;revert q';cases fa ρ with
  | bad=>exact λq' =>q'
  | ex c=>exact λq' =>q'
  | ok t=>
   intro q' v H1 s1 r1;obtain⟨l,xs,rfl,h⟩:=q' v H1 s1 r1;exact⟨l,xs,rfl,h⟩
 subst e;obtain⟨u,rfl,ru⟩:=Zx r1;obtain rfl:u=Value.ref l:=ru;obtain⟨its,rv,pl,_⟩:=I1.list (SqL.of hl);have hlt:=I1.hok.lt hl;refine call_reversed_list pl.isList (fV ?_);have e0:((its.toArray.size):Int) - 1 - ((0:Nat))=((its.toArray.size):Int) - 1:=by omega
 refine RV.tuple_lr (Walks.listRev (A:=X.A.in1.in1.in1) hh _ l (aC hlt) _).toS (λi s st=>st.2.1.typeIs) ⟨ba _,⟨_,ag _ rfl,rfl,by rw[e0];rfl⟩,pl.isList.push _⟩ (λb hb=> ?_) (by simp) (λs' acc hm hacc=> ?_) (by rw[av,← rv.length];exact hz)
 ·have hb:=by simpa using hb
  rcases hb with rfl | rfl
  ·rw[bW];exact eQ _
  ·rw[bW];exact cH hlt
 obtain⟨h',g',d',tk',os'⟩:=s';have e1:g' =s1.gens:=hm.gens;have e2:d' =s1.drawn:=hm.drawn;have e3:=hm.os;subst e1 e2 e3;have kp:∀b o,s1.heap.get? b=some o->h'.get? b=some o:=λb o e=>hm.heap b o (λz=>by
  have z:b=s1.heap.objs.size:=by simpa using z
  have:=ao e;rw[z]at this;exact bi _ this) (af _ e)
 have I2:=I1.kept (t' :=tk') kp;have ea:acc=its.reverse.toArray:=by rw[← xi hacc]
 rw[ea];refine⟨.ref h'.objs.size,upd H1 _ (.tup xs.reverse),I2.laid (λb u e=>af _ e) (ai _) ⟨by rw[bN];exact hz,its.reverse,uL rv,⟨_,ag _ rfl,rfl,_,rfl⟩,.inr ⟨_,ag _ rfl,rfl⟩⟩,rfl,q1 _ (I2.hok.fresh (ai _))⟩
end
noncomputable def wd:List T->Option Bool
 | []=>some false
 | .bl k :: r=>match wd r with | some j=>some (k || j) | none=>none
 | _ :: _=>none
noncomputable def z0j:T->R T
 | .lst ts=>match wd ts with | some k=> .ok (.bl k) | none=> .bad
 | _=> .bad
theorem yX:∀{H:Hp} {xs:List V} {ts:List T} {its:List Value} {k:Bool},zD H xs ts->zS xs its->wd ts=some k->∃tr:Nat->Bool,(∀i v,its[i]? =some v->v=Value.bool (tr i))/\(aQ its.length).any tr=k
 | _,_,_,_,k,.nil,.nil,h=>by
  have h' :=h;cases h';exact⟨λ_=>true,λi v e=>by simp at e,rfl⟩
 | H,_,_,_,k,.cons r rs,.cons (b:=u) rv vs,h=>by
  cases r with
  | bl b=>
   unfold wd at h;split at h
   ·rename_i j e;cases h;obtain⟨tr,h1,h2⟩:=yX rs vs e;obtain rfl:u=Value.bool b:=rv;refine⟨λi=>match i with | 0=>b | i+1=>tr i,λi v e=> ?_, ?_⟩
    ·cases i with
     | zero=>simp at e;exact e.symm
     | succ i=>exact h1 i v (by simpa using e)
    ·rw[ar,cz,eC,List.any_map,← h2];rfl
   ·cases h
  | _=>cases h
section
variable {X:Cx}{Y:Fx}{a b:Expr}{fa fb:En->R T}{pos p p' pos' pt:Pos}{elts:List Expr}{kk:Nat}
theorem yY (hh:X.A.handled=none):Zo X (.builtin "any") (λvs H Q=>∃l xs ts k,vs=[.ref l]/\H l=some (.lst xs)/\zD H xs ts/\wd ts=some k/\Q (.bl k) H):=by
 intro pins s σ H vs us Q I rv h;obtain⟨l,xs,ts,k,rfl,hl,r,hk,q⟩:=h;obtain⟨u,rfl,ru⟩:=Zx rv;obtain rfl:u=Value.ref l:=ru;obtain⟨its,rv,p,_⟩:=zJ I (.inl hl) r;obtain⟨tr,h1,h2⟩:=yX r rv hk;refine call_any_walk (b_ p ?_);have hlt:=I.hok.lt hl;have old:∀b o,s.heap.get? b=some o->(s.heap.push { cls:= .type "list_iterator",data:= .fields #[.ref l,.int 0 0] }).get? b=some o:=λb o e=>af _ e;refine⟨s.heap.objs.size,_,_,_,_,_,tr,rfl,dN (A:=X.A.in1) hh _ l (aC hlt) its.toArray, ?_, ?_,λh' tk hk' => ?_⟩
 ·refine⟨?_,p.at λo e=>old _ o e⟩;exact⟨_,ag _ rfl,rfl,rfl⟩
 ·intro i v s' Q' E' hi hq;rw[h1 i v (by simpa using hi)]
  exact aS hq
 ·rw[av,h2];refine⟨.bl k,H,I.kept (λb o e=>hk' b o ?_ (old b o e)),rfl,q⟩;simp;exact aC (ao e)
theorem z0k (hh:X.A.handled=none)(gl:Gl X "any")(mg:X.mg "any"=none)(ha:jb X Y a fa)(hs:St1 X a:=by exact st1 rfl):Snd X Y (.Call (.Name "any" p) [a] [] pos) (ap1 z0j fa):=
 Ja (yY hh) (λv t B H Q r sB q=>by
  cases r with
  | @lst l xs ts h r=>
   have q:Po Y rC B H (match wd ts with | some k=> .ok _ | none=> .bad) Q:=q
   split at q
   ·rename_i k e;exact⟨l,xs,ts,k,rfl,h,r,e,po0 sB q rfl (.bl k)⟩
   ·exact q.elim
  | _=>exact q.elim) gl mg PyProof.Rows.Boot.«any» ha hs
end
noncomputable def uh (x:Int):List Int->List Int
 | []=>[x]
 | y :: ys=>if x<=y then x :: y :: ys else y :: uh x ys
noncomputable def UA:List Int->List Int
 | []=>[]
 | x :: xs=>uh x (UA xs)
noncomputable def Qy:T->R T
 | .lst ts=>match zV ts with | some l=>if ts.length < 64 then .ok (.lst ((UA l).map T.int)) else .bad | none=> .bad
 | _=> .bad
theorem JI (x:Int):∀ys:List Int,(uh x ys).Perm (x :: ys)
 | []=> .refl _
 | y :: ys=>by
  unfold uh;split
  ·exact .refl _
  ·exact((JI x ys).cons y).trans (.swap x y ys)
theorem WF:∀xs:List Int,(UA xs).Perm xs
 | []=> .refl _
 | x :: xs=>(JI x _).trans ((WF xs).cons x)
theorem JJ (x:Int):∀ys:List Int,ys.Pairwise (·<=·)->(uh x ys).Pairwise (·<=·)
 | [],_=>by unfold uh;simp
 | y :: ys,h=>by
  unfold uh;rw[bG]at h;split
  ·rename_i hx;refine bG.mpr ⟨λz hz=> ?_,bG.mpr h⟩;rcases ah.mp hz with rfl | hz
   ·exact hx
   ·exact dj hx (h.1 z hz)
  ·refine bG.mpr ⟨λz hz=> ?_,JJ x ys h.2⟩;rcases ah.mp ((JI x ys).mem_iff.mp hz) with rfl | hz
   ·omega
   ·exact h.1 z hz
theorem JK:∀xs:List Int,(UA xs).Pairwise (·<=·)
 | []=> .nil
 | x :: xs=>JJ x _ (JK xs)
theorem WG:∀(xs ys:List Int),xs.Perm ys->xs.Pairwise (·<=·)->ys.Pairwise (·<=·)->xs=ys
 | [],ys,p,_,_=>(List.nil_perm.mp p).symm
 | x :: xs,[],p,_,_=>by cases List.perm_nil.mp p
 | x :: xs,y :: ys,p,h1,h2=>by
  rw[bG]at h1 h2;have e:x=y:=by
   have a1:x<=y:=by
    rcases ah.mp (p.mem_iff.mpr (aa)) with z | z
    ·omega
    ·exact h1.1 y z
   have a2:y<=x:=by
    rcases ah.mp (p.mem_iff.mp (aa)) with z | z
    ·omega
    ·exact h2.1 x z
   omega
  subst e;rw[WG xs ys (List.Perm.cons_inv p) h1.2 h2.2]
theorem jz:∀{its:List Value} {ns:List Int},IntsAre its ns->zS (ns.map V.int) its:=by
 intro its ns h
 induction h with
 | nil=>exact .nil
 | cons n t _ ih=>exact .cons ⟨_,rfl⟩ ih
theorem uM:∀(ps:List (Int×Tok)),IntsAre (ps.map λp=>Value.int p.1 p.2) (ps.map (·.1))
 | []=> .nil
 | p :: ps=> .cons _ _ (uM ps)
theorem WH {H:Hp}:∀ns:List Int,zD H (ns.map V.int) (ns.map T.int)
 | []=> .nil
 | n :: ns=> .cons (.int n) (WH ns)
section
variable {X:Cx}{Y:Fx}{a b:Expr}{fa fb:En->R T}{pos p p' pos' pt:Pos}{elts:List Expr}{kk:Nat}
theorem UB:Zo X (.builtin "sorted") (λvs H Q=>∃l xs ts is,vs=[.ref l]/\H l=some (.lst xs)/\zD H xs ts/\zV ts=some is/\ts.length < 64/\∀r,H r=none->Q (.ref r) (upd H r (.lst ((UA is).map V.int)))):=by
 intro pins s σ H vs us Q I rv h;obtain⟨l,xs,ts,is,rfl,hl,r,hk,h64,q⟩:=h;obtain⟨u,rfl,ru⟩:=Zx rv;obtain rfl:u=Value.ref l:=ru;obtain⟨its,rv,p,hlen,_⟩:=zJ I (.inl hl) r;obtain⟨ps,h1,h2⟩:=JH r rv hk;refine sorted_ints p (h1 ▸ uM ps) (by omega) λout ns' a1 a2 a3=> ?_
 have e:=WG _ _ (a2.trans (by rw[h2];exact(WF is).symm)) a3 (JK is)
 obtain⟨n,he⟩:=sortedAll_at _ its out;have hle:s.heap.objs.size<=s.heap.objs.size+1:=dZ _;refine⟨.ref _,upd H _ _,I.laid (λb u e=>sortedAll_old e) hle ?_,rfl,by have:=q _ (I.hok.fresh hle);rw[← e]at this;exact this⟩
 have hl2:ns'.length=ts.length:=by
  have h3:=a2.length_eq;rw[xqz]at h3;have h4:its.length=ps.length:=by rw[h1,xqz]
  omega
 exact⟨by rw[xqz,bZ];omega,out.toList,n,jz a1,he⟩
theorem K3 (gl:Gl X "sorted")(mg:X.mg "sorted"=none)(ha:jb X Y a fa)(hs:St1 X a:=by exact st1 rfl):Snd X Y (.Call (.Name "sorted" p) [a] [] pos) (ap1 Qy fa):=
 Ja UB (λv t B H Q r sB q=>by
  cases r with
  | @lst l xs ts h r=>
   have q:Po Y rC B H (match zV ts with | some l=>if ts.length < 64 then .ok _ else .bad | none=> .bad) Q:=q
   split at q
   ·rename_i is e;split at q
    ·rename_i h64;refine⟨l,xs,ts,is,rfl,h,r,e,h64,λz hz=> ?_⟩;exact q _ _ (zm.new hz _) (.lst (ZX hz _) (WH _))
    ·exact q.elim
   ·exact q.elim
  | _=>exact q.elim) gl mg PyProof.Rows.Boot.«sorted» ha hs
end
end PV
namespace PySem.RV
open PySem PySem.Spec PyProof.Rows PySem.Builtin.SmallTypes
theorem draws_tup {prog:Program}{w:World}{A:Around}(hh:A.handled=none)(it l:Addr)(hne:l ≠ it)(items:Array Value):Draws prog w A it [it,l] items.size (λi v=>items[i]? =some v) (λi h=>h.IsTupleIter it l i/\h.IsTuple l items) where
 live:=λi h st=>(ZG.nx_tup hne items).there st it (.head _)
 frame:=λi h h' st hk=>(ZG.nx_tup hne items).keep st hk
 item:=λi s Q E hi st hQ=>ZG.tup_item st.1 st.2 (x:=items[i]) (by simp[hi]) λh' a b=>hQ _ h' s.toks (by simp[hi]) ⟨a,st.2.extBut b.extBut hne⟩ b
 done:=λs Q E st hE=>ZG.tup_stop hh st.1 st.2 (by simp) hE
noncomputable abbrev eOb (i:Addr):Obj:={ cls:= .type "enumerate",data:= .fields #[.none,.bool false,.ref i,rawInt 0,.none,.none] }
theorem yZ (l:Addr)(items:Array Value)(n:Nat)(dct:Option Addr)(sl:Array (Option Value)):
  Meets (Builtin.«enumerate.__new__» ⟨[.type "enumerate",.ref l],[]⟩) (λ_ R s=>s.heap.get? l=some { cls:= .type "tuple",dict:=dct,data:= .seq items n,slots:=sl }/\
   R (.ok (.ret (.ref (s.heap.push (ZG.oT l)).objs.size))) { s with heap:=(s.heap.push (ZG.oT l)).push (eOb s.heap.objs.size) }):=
 .of_wp λprog w A R s h=>by
  obtain⟨hp,g,d,tk,os⟩:=s;obtain⟨hl,h⟩:=h;have hsub:=sub_enumerate;have hL:Heap.IsTuple (i8 ⟨hp,g,d,tk,os⟩) l items:=⟨_,hl,rfl,n,rfl⟩
  wp_walk using ci hl
  refine wpAny_stack_any λst=>am ?_;split
  ·rename_i c _ _ _ _ _;cases (c == Value.type "enumerate") <;> (wp_walk using ci hl,wpAny_pyIter_tuple hL;exact⟨_,rfl,h⟩)
  ·wp_walk using ci hl,wpAny_pyIter_tuple hL
   exact⟨_,rfl,h⟩
theorem enum_callT {prog:Program}{w:World}{A:Around}{E:Value->Shared->Prop}{s:Shared}{l:Addr}{items:Array Value}{Q:Value->Shared->Prop}(hL:s.heap.IsTuple l items)
  (h:∀h',IsEnum h' (s.heap.objs.size+1) s.heap.objs.size 0 .none->h'.IsTupleIter s.heap.objs.size l 0->(∀b o,s.heap.get? b=some o->h'.get? b=some o)->Q (.ref (s.heap.objs.size+1)) { s with heap:=h' }):
  wpAny (model prog w) A (call (.type "enumerate") [.ref l]) Q E s:=by
 obtain⟨⟨c,dct,dt,sl⟩,hl,hc,n,hd⟩:=hL;obtain rfl:c= .type _:=hc;obtain rfl:dt= .seq _ n:=hd;refine callType_new F.called_enumerate (by decide) (F.typeCall_enumerate_1 _) (F.newCall_enumerate_1 _) (λobj=>fF obj _) F.entry_enumerate_new (yZ l _ n dct sl) ⟨hl, ?_⟩
 have hz:(s.heap.push (ZG.oT l)).objs.size=s.heap.objs.size+1:=bW ..;have e1:((s.heap.push (ZG.oT l)).push (eOb s.heap.objs.size)).get? _=some _:=ag _ rfl;rw[hz]at e1;rw[hz];exact⟨⟨_,e1,rfl⟩,h _ e1 ⟨_,af _ (ag _ rfl),rfl,rfl⟩ λb o x=>af _ (af _ x)⟩
end PySem.RV
namespace PV
open PySem PySem.Spec PyProof.Rows L2
noncomputable def z0l (K:ae)(l:Addr)(n:Nat):It:=
 ⟨λi H=>∃xs x,SqT K H l xs/\xs.length=n/\xs[i]? =some x,λi H v H' =>∃p x,H p=none/\v= .ref p/\(∀xs,SqT K H l xs->xs[i]? =some x)/\H' =upd H p (.tup [.int i,x]),λi H=>∃xs,SqT K H l xs/\xs.length=n/\n<=i⟩
theorem UC {P:Program}{w:World}{K:ae}{elts:List Expr}{kk:Nat}{pt:Pos}(e it l:Addr)(n:Nat)(hei:e ≠ it)(hle:l ≠ e)(hli:l ≠ it):
  UO P w K (.Tuple elts kk pt) (z0l K l n) [e,it] e (λi h=>i<=n/\(∃old,IsEnum h e it i old)/\h.IsTupleIter it l i) where
 mem:=by simp
 obj:=λi h st b hb=>by
  obtain⟨_,⟨old,he⟩,o,e1,c,d⟩:=st;rcases ah.mp hb with rfl | hb
  ·exact⟨_,he,λv z=>nomatch z⟩
  ·have z:b=it:=by simpa using hb
   subst z;exact⟨o,e1,λv z=>by rw[d]at z;cases z⟩
 keep:=λi h h' st k=>by
  obtain⟨hn,⟨old,he⟩,o,e1,r⟩:=st;exact⟨hn,⟨old,k e (by simp) _ he⟩,o,k it (by simp) o e1,r⟩
 item:=by
  intro X hP hw hK hc i pins s σ H E I hf st hg;subst hP hw hK;obtain⟨xs,x,hq,hxn,hx⟩:=hg;obtain⟨its,rv,p,hz⟩:=I.tuple hq;obtain⟨u,hu,ru⟩:=rv.get hx;obtain⟨hin,⟨old,he⟩,hit⟩:=st;have hi:i < its.toArray.size:=by
   have:=(ak.mp hu).1;simpa using this
  have D:=RV.draws_tup (prog:=X.prog) (w:=X.w) (A:=X.A.in1) (I.ok.hd hc) it l hli its.toArray;have hef:e ∉ [it,l]:=λz=>by
   rcases ah.mp z with z | z
   ·exact hei z
   ·exact hle (aA.mp z).symm
  have WE:=WalksT.enumerateD D e hei hef (.head _);refine WE.item i s _ _ hi ⟨⟨old,he⟩,hit,p⟩ λT vals h' tk hP hT hTup hM hk=> ?_;obtain⟨t,y,hy,rfl⟩:=hP;have hyu:y=u:=by
   have:its[i]? =some y:=by simpa using hy
   rw[hu]at this;exact(aD this).symm
  subst hyu;refine⟨.ref T,rfl, ?_⟩;refine WE.go elts kk pt i T _ _ _ hM λh2 hst2 hk2=> ?_;have hTn:H T=none:=I.hok.fresh hT;have hTne:∀b∈[e,it],b ≠ T:=λb hb z=>by
   obtain⟨_,_,h3,h4⟩:=hM;rcases ah.mp hb with rfl | hb
   ·exact h3 z.symm
   ·have:b=it:=by simpa using hb
    subst this;exact h4 z.symm
  have uR:IsTup h2 T #[.int i t,y]:=by
   obtain⟨o,eo,r⟩:=hTup;exact⟨o,hk2 T o (λhb=>hTne T hb rfl) eo,r⟩
  refine⟨.ref T,upd H T (.tup [.int i,x]),Inv.laidT (s:=s) (h' :=h2) (ch:=[e,it]) (tk:=tk) I hf (λb o hb e=>hk2 b o hb (hk b o hb e)) (λb o hb _=> ?_) hT ⟨by rw[bZ];show 2<=16777216;decide,[.int i t,y],.cons ⟨t,rfl⟩ (.cons ru .nil),uR,.inl ⟨_,_,rfl⟩⟩,rfl,⟨T,x,hTn,rfl,λys hy=>by rw[I.tuple_inj hy hq];exact hx,rfl⟩,⟨by have:=(ak.mp hx).1;omega,hst2.1,hst2.2.1⟩,λb hb=> ?_⟩
  ·obtain⟨⟨old2,he2⟩,⟨o2,eo2,_⟩,_⟩:=hst2;rcases ah.mp hb with rfl | hb
   ·exact⟨_,he2⟩
   ·have:b=it:=by simpa using hb
    subst this;exact⟨o2,eo2⟩
  ·rw[zn (hTne b hb)];exact(hf b hb).1
 done:=by
  intro X hP hw hK hc i pins s σ H E I hf st hg;subst hP hw hK;obtain⟨xs,hq,hxn,hx⟩:=hg;obtain⟨its,rv,p,hz⟩:=I.tuple hq;obtain⟨hin,⟨old,he⟩,hit⟩:=st;have hl:=rv.length;have D:=RV.draws_tup (prog:=X.prog) (w:=X.w) (A:=X.A.in1) (I.ok.hd hc) it l hli its.toArray;have hn:its.toArray.size=i:=by simp;omega
  refine wpAny_pyNext_enum_endD D he (by rw[hn];exact⟨hit,p⟩) λh' hk=>⟨rfl, ?_⟩
  obtain⟨f0,f1,f2,f3,f4,f5⟩:=hf it (by simp)
  exact I.turned (t' :=s.toks) (λb o hb e=>hk b o hb e) f0 f1 f3 f4 f5
 self:=λ_ _ _ _ _ st h=>let ⟨_,⟨_,he⟩,_⟩:=st;wpAny_pyIter_enum he h
theorem Qz {K:ae}{B1 H1:Hp}{a:Addr}{xs:List V}{ts:List T}(h:B1 a=some (.tup xs))(r:zD B1 xs ts):rI B1 H1 (z0l K a xs.length) (jq ts):=λB2 H2 s1 s2=>by
 have h2:=s2 _ _ (s1 _ _ h);rw[Jc];refine⟨λi hi=> ?_,λi t x H3 e y=> ?_,λi hi=>⟨xs,SqT.of h2,rfl,by rw[r.length];exact hi⟩⟩
 ·obtain⟨v,e,_⟩:=r.get (a9 hi);exact⟨xs,v,SqT.of h2,rfl,e⟩
 ·obtain⟨p,v,hp,rfl,y,rfl⟩:=y;obtain⟨t',et,rfl⟩:=WB e;obtain⟨v',e1,r1⟩:=r.get et;have:=y xs (SqT.of h2);rw[e1]at this;cases this;refine⟨zm.new hp _,.tup (ZX hp _) (.cons (.int _) (.cons ?_ .nil))⟩;exact(r1.mono s1).mono (zO.ge s2 (zm.new hp _))
noncomputable def uN (fa:En->R T):En->R (List T):=λρ=>(fa ρ).bind λt=>match t with
 | .tup xs=> .ok (jq xs)
 | _=> .bad
section
variable {X:Cx}{Y:Fx}{a:Expr}{fa:En->R T}{pos p pt:Pos}{elts:List Expr}{kk:Nat}
theorem QA {ta:TA}(hg:Gl X "enumerate")(hm:X.mg "enumerate"=none)(ha:PA X [a] ta)(hs:St1 X a:=by exact st1 rfl):
  PI X (.Tuple elts kk pt) (.Call (.Name "enumerate" p) [a] [] pos) (λσ H R=>ta σ H λvs H1=>∃l xs,vs=[.ref l]/\H1 l=some (.tup xs)/\R (z0l X.K l xs.length) H1):=by
 intro pins s σ H R I h;refine Call_ (ZP I hg hm PyProof.Rows.Boot.«enumerate» (aO (thn (ha pos _ s σ H _ I h) λus s1 ⟨vs,H1,I1,r1,q1⟩=> ?_) hs rfl));obtain⟨l,xs,e,hl,q⟩:=q1;subst e;obtain⟨u,rfl,ru⟩:=Zx r1;obtain rfl:u=Value.ref l:=ru;obtain⟨its,rv,pl,hz⟩:=I1.tuple (SqT.of hl);have hlt:=I1.hok.lt hl;refine RV.enum_callT (show s1.heap.IsTuple l _ from pl) λh' he hit hk=>wpAny_pyIter_enum he ?_;have f:∀b∈[s1.heap.objs.size+1,s1.heap.objs.size],wb X _ H1 b:=λb hb=>by
  rcases ah.mp hb with rfl | hb
  ·exact I1.fpOk (dZ _) (I1.hok.fresh (dZ _))
  ·have z:=by simpa using hb
   subst z;exact I1.fpOk (ai _) (I1.hok.fresh (ai _))
 exact⟨s1.heap.objs.size+1,[s1.heap.objs.size+1,s1.heap.objs.size],_,_,H1,rfl,I1.kept hk,UC _ _ l _ (hW _) (aC (cH hlt)) (aC hlt),⟨ba _,⟨_,he⟩,hit⟩,f,q⟩
theorem xj (hg:Gl X "enumerate")(hm:X.mg "enumerate"=none)(ha:Snd X Y a fa)(hs:St1 X a:=by exact st1 rfl):uc X Y (.Tuple elts kk pt) (.Call (.Name "enumerate" p) [a] [] pos) (uN fa):= .mk λρ=>
 PI.imp (QA hg hm (zy (ha ρ) zX hs) hs) λσ H R ⟨B,I,q⟩=>step I q λt v H1 _ s1 r1 I1 q1=>by
  cases r1 with
  | @tup l xs ts h r=>exact⟨l,xs,rfl,I1.sB _ _ h,ZB I1 (show Po Y rI _ H1 _ R from q1) (Qz h r)⟩
  | _=>exact q1.elim
end
end PV
namespace PySem.RW37
open PySem PySem.Spec PyProof.Rows L2
end PySem.RW37
namespace PV
open PySem PySem.Spec PyProof.Rows L2 PySem.RW37
section
variable {X:Cx}{Y:Fx}{pos:Pos}{a b c:Expr}
noncomputable def gv (fa:En->R T)(g:T->En->R En):En->RS:=λρ=>(fa ρ).s λt=>match g t ρ with
 | .ok ρ' => .nx ρ'
 | _=> .bad
theorem K4 {tg:Expr}{fa:En->R T}{g:T->En->R En}(ha:Snd X Y a fa)(hg:kx X Y tg g)(hs:swapsWithSole [tg] a pos.line X.env=pure false:=by rfl)(hw:swappedStores [tg] a X.env=pure none:=by rfl)
  (h1:(assignEach [tg] X.env).map (·.2)=[assign tg X.env]:=by rfl):wm X Y (.Assign [tg] a pos) (gv fa g):= .mk λρ=>by
 obtain⟨tt,hp,hr⟩:=hg;refine PS.imp (Xs (ha ρ) hp hs hw h1) λD σ H ⟨B,I,q⟩=>Jk I q λt v H1 _ s1 r1 I1 q1=>hr _ _ _ _ _ _ _ I1 r1 ?_;cases h:g t ρ with
 | ok ρ' =>
  rw[h]at q1;exact λσ' I' =>q1 _ _ _ (zm.refl _) I'
 | ex c=>rw[h]at q1;exact q1.elim
 | bad=>rw[h]at q1;exact q1.elim
end
end PV
namespace PV
open PySem PySem.Spec PyProof.Rows L2
noncomputable def ui (t t' :T):R T:=match t,t' with
 | .int i,.int j=> .ok (.int (if j > i then j else i))
 | _,_=> .bad
noncomputable def z0m:T->R T
 | .int i=> .ok (.int (if i < 0 then -i else i))
 | _=> .bad
noncomputable def jr (f:Int->Int->Bool):Int->List Int->Int
 | i,[]=>i
 | i,j :: r=>jr f (if f j i then j else i) r
noncomputable def QB:T->R T
 | .lst ts=>match zV ts with | some (i :: l)=> .ok (.int (jr (λa b=>decide (b < a)) i l)) | _=> .bad
 | _=> .bad
noncomputable def QC:T->R T
 | .lst ts=>match zV ts with | some (i :: l)=> .ok (.int (jr (λa b=>decide (a < b)) i l)) | _=> .bad
 | _=> .bad
theorem wV:∀(l:List Int) (i:Int),jr (λa b=>decide (b < a)) i l∈i :: l/\∀x∈i :: l,x<=jr (λa b=>decide (b < a)) i l
 | [],i=>⟨aa,λx h=>by simp at h;subst h;exact eA _⟩
 | j :: r,i=>by
  unfold jr
  by_cases hj:i < j
  ·simp only[hj,decide_true,if_true];obtain⟨h1,h2⟩:=wV r j;refine⟨a8 _ h1,λx hx=> ?_⟩;rcases ah.mp hx with rfl | hx
   ·exact dj (Int.le_of_lt hj) (h2 j aa)
   ·exact h2 x hx
  ·simp only[hj,decide_false,aH,if_false];obtain⟨h1,h2⟩:=wV r i;refine⟨?_,λx hx=> ?_⟩
   ·rcases ah.mp h1 with h | h
    ·rw[h];exact aa
    ·exact a8 _ (a8 _ h)
   ·rcases ah.mp hx with rfl | hx
    ·exact h2 x aa
    ·rcases ah.mp hx with rfl | hx
     ·exact dj (Int.not_lt.mp hj) (h2 i aa)
     ·exact h2 x (a8 _ hx)
theorem wW:∀(l:List Int) (i:Int),jr (λa b=>decide (a < b)) i l∈i :: l/\∀x∈i :: l,jr (λa b=>decide (a < b)) i l<=x
 | [],i=>⟨aa,λx h=>by simp at h;subst h;exact eA _⟩
 | j :: r,i=>by
  unfold jr
  by_cases hj:j < i
  ·simp only[hj,decide_true,if_true];obtain⟨h1,h2⟩:=wW r j;refine⟨a8 _ h1,λx hx=> ?_⟩;rcases ah.mp hx with rfl | hx
   ·exact dj (h2 j aa) (Int.le_of_lt hj)
   ·exact h2 x hx
  ·simp only[hj,decide_false,aH,if_false];obtain⟨h1,h2⟩:=wW r i;refine⟨?_,λx hx=> ?_⟩
   ·rcases ah.mp h1 with h | h
    ·rw[h];exact aa
    ·exact a8 _ (a8 _ h)
   ·rcases ah.mp hx with rfl | hx
    ·exact h2 x aa
    ·rcases ah.mp hx with rfl | hx
     ·exact dj (h2 i aa) (Int.not_lt.mp hj)
     ·exact h2 x (a8 _ hx)
theorem jE (ps:List (Int×Tok))(i:Nat)(h:i < ps.length):numAt ps.toArray i=(ps.map (·.1))[i]'(by simpa using h):=by
 unfold numAt;simp[h]
section
variable {X:Cx}{Y:Fx}{a b:Expr}{fa fb:En->R T}{pos p p' pos' pt:Pos}{elts:List Expr}{kk:Nat}
theorem K5 (hc:X.calm=true)(gl:Gl X "max")(mg:X.mg "max"=none)(ha:Snd X Y a fa)(hb:Snd X Y b fb)
  (hs:starEach [a,b] X.env=[(false,eval a X.env),(false,eval b X.env)]:=by exact st2 rfl rfl) (hs2:starEach [b] X.env=[(false,eval b X.env)]:=by exact st1 rfl):
  Snd X Y (.Call (.Name "max" p) [a,b] [] pos) (zc ui fa fb):= .mk λρ=>
 PE.imp (jw (y9 hc) gl mg PyProof.Rows.Boot.«max» (zy (ha ρ) (zy (hb ρ) zX hs2) (by rw[hs,hs2])) (by decide) (by decide) (by rw[hs,hs2]) (by rw[hs2];rfl)) λσ H Q ⟨B,I,q⟩=>
  step I q λt v H1 _ s1 r1 I1 q1=>step I1 q1 λt' v' H2 _ s2 r2 I2 q2=>by
   cases r1 with
   | int i=>
    cases r2 with
    | int j=>exact⟨i,j,rfl,po0 I2.sB q2 rfl (.int _)⟩
    | _=>exact q2.elim
   | _=>cases r2 <;> exact q2.elim
theorem z0n (gl:Gl X "abs")(mg:X.mg "abs"=none)(ha:jb X Y a fa)(hs:St1 X a:=by exact st1 rfl):Snd X Y (.Call (.Name "abs" p) [a] [] pos) (ap1 z0m fa):=
 Ja qZ (λv t B H Q r sB q=>by
  cases r with
  | int i=>exact⟨i,rfl,po0 sB q rfl (.int _)⟩
  | _=>exact q.elim) gl mg PyProof.Rows.Boot.«abs» ha hs
theorem Y0 (hh:X.A.handled=none):Zo X (.builtin "max") (λvs H Q=>∃l xs ts i is,vs=[.ref l]/\H l=some (.lst xs)/\zD H xs ts/\zV ts=some (i :: is)/\Q (.int (jr (λa b=>decide (b < a)) i is)) H):=by
 intro pins s σ H vs us Q I rv h;obtain⟨l,xs,ts,i,is,rfl,hl,r,hk,q⟩:=h;obtain⟨u,rfl,ru⟩:=Zx rv;obtain rfl:u=Value.ref l:=ru;obtain⟨its,rv,p,_⟩:=zJ I (.inl hl) r;obtain⟨ps,h1,h2⟩:=JH r rv hk;have e:its.toArray=intItems ps.toArray:=by rw[h1];simp[intItems]
 rw[e]at p;have hlen:=by have:=congrArg i6 h2;simpa using this
 refine max_intList hh p (by simp[hlen]) λv h' tk hv kp=> ?_
 obtain⟨t,rfl⟩:=intItems_at hv;obtain⟨b1,b2⟩:=argBest_gt (numAt ps.toArray) (ps.toArray.size - 1);have hsz:ps.toArray.size=ps.length:=by simp
 rw[hsz]at b1 b2 ⊢;obtain⟨m1,m2⟩:=wV is i;have e2:numAt ps.toArray (argBest (λi j=>decide (numAt ps.toArray i > numAt ps.toArray j)) (ps.length - 1))=jr (λa b=>decide (b < a)) i is:=by
  refine ii (m2 _ ?_) ?_
  ·rw[jE ps _ (by omega),← h2]
   exact hZ _
  ·rw[← h2]at m1;obtain⟨j,hj,ej⟩:=c8.mp m1;rw[← ej];have hj' :=by simpa using hj
   rw[← jE ps j hj'];exact b2 j (by omega)
 rw[e2];exact⟨.int _,H,I.kept kp,⟨t,rfl⟩,q⟩
theorem Y1 (hh:X.A.handled=none):Zo X (.builtin "min") (λvs H Q=>∃l xs ts i is,vs=[.ref l]/\H l=some (.lst xs)/\zD H xs ts/\zV ts=some (i :: is)/\Q (.int (jr (λa b=>decide (a < b)) i is)) H):=by
 intro pins s σ H vs us Q I rv h;obtain⟨l,xs,ts,i,is,rfl,hl,r,hk,q⟩:=h;obtain⟨u,rfl,ru⟩:=Zx rv;obtain rfl:u=Value.ref l:=ru;obtain⟨its,rv,p,_⟩:=zJ I (.inl hl) r;obtain⟨ps,h1,h2⟩:=JH r rv hk;have e:its.toArray=intItems ps.toArray:=by rw[h1];simp[intItems]
 rw[e]at p;have hlen:=by have:=congrArg i6 h2;simpa using this
 refine min_intList hh p (by simp[hlen]) λv h' tk hv kp=> ?_
 obtain⟨t,rfl⟩:=intItems_at hv;obtain⟨b1,b2⟩:=argBest_lt _ (ps.toArray.size - 1);have hsz:ps.toArray.size=ps.length:=by simp
 rw[hsz]at b1 b2 ⊢;obtain⟨m1,m2⟩:=wW is i;have e2:numAt ps.toArray (argBest (λi j=>decide (numAt ps.toArray i < numAt ps.toArray j)) (ps.length - 1))=jr (λa b=>decide (a < b)) i is:=by
  refine ii ?_ (m2 _ ?_)
  ·rw[← h2]at m1;obtain⟨j,hj,ej⟩:=c8.mp m1;rw[← ej];have hj' :=by simpa using hj
   rw[← jE ps j hj'];exact b2 j (by omega)
  ·rw[jE ps _ (by omega),← h2]
   exact hZ _
 rw[e2];exact⟨.int _,H,I.kept kp,⟨t,rfl⟩,q⟩
theorem K6 (hh:X.A.handled=none)(gl:Gl X "max")(mg:X.mg "max"=none)(ha:jb X Y a fa)(hs:St1 X a:=by exact st1 rfl):Snd X Y (.Call (.Name "max" p) [a] [] pos) (ap1 QB fa):=
 Ja (Y0 hh) (λv t B H Q r sB q=>by
  cases r with
  | @lst l xs ts h r=>
   have q:Po Y rC B H (match zV ts with | some (i :: l)=> .ok (.int (jr (λa b=>decide _) i l)) | _=> .bad) Q:=q
   split at q
   ·rename_i i k e;exact⟨l,xs,ts,i,k,rfl,h,r,e,po0 sB q rfl (.int _)⟩
   ·exact q.elim
  | _=>exact q.elim) gl mg PyProof.Rows.Boot.«max» ha hs
theorem K7 (hh:X.A.handled=none)(gl:Gl X "min")(mg:X.mg "min"=none)(ha:jb X Y a fa)(hs:St1 X a:=by exact st1 rfl):Snd X Y (.Call (.Name "min" p) [a] [] pos) (ap1 QC fa):=
 Ja (Y1 hh) (λv t B H Q r sB q=>by
  cases r with
  | @lst l xs ts h r=>
   have q:Po Y rC B H (match zV ts with | some (i :: l)=> .ok (.int (jr (λa b=>decide _) i l)) | _=> .bad) Q:=q
   split at q
   ·rename_i i k e;exact⟨l,xs,ts,i,k,rfl,h,r,e,po0 sB q rfl (.int _)⟩
   ·exact q.elim
  | _=>exact q.elim) gl mg PyProof.Rows.Boot.«min» ha hs
end
noncomputable def QD:T->T->R T
 | .tup ts,.int k=>if k=1/\ts ≠ [] then .ok (.tup ts) else zP (.tup ts) (.int k)
 | _,_=> .bad
theorem UD (l:Addr)(items:Array Value)(n:Nat)(dd:Option Addr)(sl:Array (Option Value))(u:Tok):
  Meets (Builtin.«tuple.__mul__» ⟨[.ref l,.int 1 u],[]⟩) (λ_ R s=>s.heap.get? l=some { cls:= .type "tuple",dict:=dd,data:= .seq items n,slots:=sl }/\R (.ok (.ret (Value.ref l))) s):=
 .of_wp λprog w A R s h=>by
  obtain⟨hl,h⟩:=h
  wp_walk using wpAny_loadPart' hl
  exact⟨_,rfl,h⟩
theorem QE {prog:Program}{w:World}{A:Around}{E:Value->Shared->Prop}{s:Shared}{l:Addr}{its:List Value}{t:Tok}{Q:Value->Shared->Prop}(p:IsTup s.heap l its.toArray)(q:Q (.ref l) s):
  wpAny (model prog w) A (binaryOp .Mult (.ref l) (.int 1 t)) Q E s:=by
 obtain⟨⟨cls,dd,data,sl⟩,ho,hc,n,hd⟩:=id p;subst hc hd;exact wpAny_binaryOp_repeat_ref (by decide) ⟨_,ho,rfl⟩ (λs' =>dz s' 1 t) ZR ff cC J9 eM.lookup
  (cL cC (dz s 1 t) eN (dY _ _) (jk 1 t l _ n dd sl)
   ⟨ho,rfl,⟨_,ho,rfl⟩,cL dA ⟨_,ho,rfl⟩ fY (fO _ _) (UD l _ n dd sl t) ⟨ho,q⟩⟩)
section
variable {X:Cx}{Y:Fx}{a b:Expr}{fa fb:En->R T}{pos:Pos}
theorem xk:OpR X (binaryOp .Mult) (rG Y QD):=by
 intro pins s σ H x y v u Q I rx ry h;obtain⟨B,t,t',sB,r,r',q⟩:=id h;cases r with
 | @tup l xs ts h1 r1=>
  cases r' with
  | int k=>
   by_cases hk:k=1/\ts ≠ []
   ·have eg:QD (.tup ts) (.int k)= .ok _:=if_pos hk;obtain rfl:v=Value.ref l:=rx;obtain⟨tk,rfl⟩:=ry;obtain⟨rfl,_⟩:=hk;obtain⟨its,rv,p,_⟩:=I.tuple (SqT.of (sB _ _ h1));exact QE p ⟨.ref l,H,I,rfl,po0 sB q eg (.tup h1 r1)⟩
   ·have eg:QD (.tup ts) (.int k)=zP _ _:=if_neg hk;rw[eg]at q;exact yr _ s σ H _ _ v u Q I rx ry ⟨B,.tup ts,.int k,sB,.tup h1 r1,.int k,q⟩
  | _=>exact q.elim
 | _=>cases r' <;> exact q.elim
theorem z0o (ha:Snd X Y a fa)(hb:Snd X Y b fb):Snd X Y (.BinOp a .Mult b pos) (zc QD fa fb):=Us xk ha hb
end
end PV
namespace PySem.RV
open PySem PySem.Spec PyProof.Rows PySem.Builtin.SmallTypes
end PySem.RV
namespace PV
open PySem PySem.Spec PyProof.Rows L2
end PV
namespace PV
open PySem PySem.W PyProof.Rows
section
variable {α β:Type}
noncomputable def Gd (lt:Nat->Nat->Bool)(n:Nat):KasT α->(α->Prop)->Prop
 | .ret a,P=>P a
 | .ask i j k,P=>(i < n/\j < n/\i ≠ j)/\Gd lt n (k (lt i j)) P
theorem Gd.mono {lt:Nat->Nat->Bool}{n:Nat}{P P' :α->Prop}(h:∀a,P a->P' a):∀(t:KasT α),Gd lt n t P->Gd lt n t P'
 | .ret a,g=>h a g
 | .ask i j k,⟨h1,g⟩=>⟨h1,Gd.mono h _ g⟩
theorem Gd.bind {lt:Nat->Nat->Bool}{n:Nat}{P:β->Prop}{f:α->KasT β}:∀(t:KasT α),Gd lt n t (λa=>Gd lt n (f a) P)->Gd lt n (t.bind f) P
 | .ret a,g=>g
 | .ask i j k,⟨h1,g⟩=>⟨h1,Gd.bind _ g⟩
end
section
variable {O:KeyOrd}{n:Nat}{key:Nat->O.α}
noncomputable abbrev kp (key:Nat->O.α)(p:Array Nat)(i:Nat):O.α:=key (p.getD i 0)
structure Pm (n:Nat) (p:Array Nat):Prop where
 sz:p.size=n
 pm:p.toList.Perm (aQ n)
theorem Pm.lt {p:Array Nat}(h:Pm n p){i:Nat}(hi:i < n):p.getD i 0 < n:=by
 have hs:i < p.size:=by rw[h.sz];exact hi
 have e:p.getD i 0=p[i]:=by simp[iq,hs]
 rw[e];exact aR.mp (h.pm.mem_iff.mp (Array.getElem_mem_toList hs))
theorem Pm.inj {p:Array Nat}(h:Pm n p){i j:Nat}(hi:i < n)(hj:j < n)(e:p.getD i 0=p.getD j 0):i=j:=by
 have hs:i < p.size:=by rw[h.sz];exact hi
 have hs' :j < p.size:=by rw[h.sz];exact hj
 have e1:p.getD i 0=p[i]:=by simp[iq,hs]
 have e2:p.getD j 0=p[j]:=by simp[iq,hs']
 rw[e1,e2]at e;have nd:=h.pm.nodup_iff.mpr eU;have:=(g7 (h₀:=by simpa using hs) (h₁:=by simpa using hs') nd).mp (by simpa using e)
 exact this
noncomputable def So (key:Nat->O.α)(p:Array Nat)(m:Nat):Prop:=∀i j,i < j->j < m->O.klt (kp key p i) (kp key p j)
theorem wX {p q:Array Nat}{i j:Nat}(h:p[i]? =q[j]?):p.getD i 0=q.getD j 0:=by
 have e:∀(a:Array Nat) (k:Nat),a.getD k 0=(a[k]?).getD 0:=λa k=>by simp
 rw[e,e,h]
variable (hk:∀i j,i < n->j < n->key i=key j->i=j)
include hk
theorem xl {p:Array Nat}(h:Pm n p){i j:Nat}(hi:i < n)(hj:j < n)(hij:i ≠ j)(hf:O.blt (kp key p i) (kp key p j)=false):O.klt (kp key p j) (kp key p i):=by
 cases q:O.blt _ _ with
 | true=>exact q
 | false=>exact absurd (h.inj hi hj (hk _ _ (h.lt hi) (h.lt hj) (O.total _ _ hf q))) hij
omit hk in
theorem So.snoc {p:Array Nat}{m:Nat}(h:So key p m)(h1:1<=m)(hl:O.klt (kp key p (m - 1)) (kp key p m)):So key p (m+1):=λi j hij hj=>by
 by_cases hjm:j=m
 ·subst hjm
  by_cases him:i=j - 1
  ·rw[him];exact hl
  ·exact ce (h i _ (by omega) (by omega)) (dk hl)
 ·exact h i j hij (by omega)
theorem Y2 {p:Array Nat}(hp:Pm n p):∀(f m:Nat),1<=m->m+f=n->So key p m->Gd (λi j=>O.blt (key i) (key j)) n (kas_asc p f m) λr=>m<=r/\r<=n/\So key p r/\(r < n->O.klt (kp key p r) (kp key p (r - 1)))
 | 0,m,_,hm,h=>⟨ai _,by omega,h,λz=>by omega⟩
 | f+1,m,h1,hm,h=>by
  refine⟨⟨hp.lt (by omega),hp.lt (by omega),λz=>absurd (hp.inj (by omega) (by omega) z) (by omega)⟩, ?_⟩
  show Gd _ n (if O.blt _ _=true then .ret m else kas_asc p f _) _
  cases q:O.blt _ _ with
  | true=>exact⟨ai _,by omega,h,λ_=>q⟩
  | false=>
   exact Gd.mono (λr ⟨a,b,c⟩=>⟨by omega,b,c⟩) _ (Y2 hp f _ (by omega) (by omega) (h.snoc h1 (xl hk hp (by omega) (by omega) (by omega) q)))
noncomputable def De (key:Nat->O.α)(p:Array Nat)(m:Nat):Prop:=∀i j,i < j->j < m->O.klt (kp key p j) (kp key p i)
theorem Y3 {p:Array Nat}(hp:Pm n p):∀(f m:Nat),2<=m->m+f=n->De key p m->Gd (λi j=>O.blt (key i) (key j)) n (kas_desc f p m 0) λr=>r.1=p/\r.2.2=0/\m<=r.2.1/\r.2.1<=n/\De key p r.2.1
 | 0,m,_,hm,h=>⟨rfl,rfl,ai _,by show m<=n;omega,h⟩
 | f+1,m,h1,hm,h=>by
  refine⟨⟨hp.lt (by omega),hp.lt (by omega),λz=>absurd (hp.inj (by omega) (by omega) z) (by omega)⟩, ?_⟩
  show Gd _ n (if O.blt _ _=true then (if 0 > 0 then kas_desc f _ _ 0 else kas_desc f p _ 0) else .ask _ _ λd=>if d=true then .ret _ else kas_desc f p _ _) _
  cases q:O.blt _ _ with
  | true=>
   refine Gd.mono (λr ⟨a,b,c,d⟩=>⟨a,b,by omega,d⟩) _ (Y3 hp f _ (by omega) (by omega) λi j hij hj=> ?_)
   by_cases hjm:j=m
   ·subst hjm
    by_cases him:i=j - 1
    ·rw[him];exact q
    ·exact ce (show O.klt _ _ from q) (dk (h i _ (by omega) (by omega)))
   ·exact h i j hij (by omega)
  | false=>
   refine⟨⟨hp.lt (by omega),hp.lt (by omega),λz=>absurd (hp.inj (by omega) (by omega) z) (by omega)⟩, ?_⟩
   have q2:O.blt _ _=true:=xl hk hp (by omega) (by omega) (by omega) q
   show Gd _ n (if O.blt _ _=true then .ret _ else _) _
   rw[if_pos q2];exact⟨rfl,rfl,ai _,by show m<=n;omega,h⟩
omit hk in
theorem vL {p:Array Nat}(hp:Pm n p)(i j:Nat):Pm n (kas_rev p i j):=⟨(mirror_size _ _ _ _).trans hp.sz,(dO.mp (mirror_perm p i j _)).trans hp.pm⟩
omit hk in
theorem Y4 {p:Array Nat}(hp:Pm n p){m k:Nat}(hm:m<=n)(hk' :k < m):(kas_rev p 0 m).getD k 0=p.getD (m - 1 - k) 0:=by
 refine wX ?_;unfold kas_rev;rw[getElem?_mirror_all (by rw[hp.sz];exact hm),if_pos ⟨ba _,hk'⟩]
 congr 1
 omega
theorem jF {p:Array Nat}(hp:Pm n p)(h2:2<=n):Gd (λi j=>O.blt (key i) (key j)) n (kas_count n p) λr=>1<=r.1/\r.1<=n/\Pm n r.2/\So key r.2 r.1:=by
 refine Gd.bind _ (Gd.mono (λm ⟨a,b,c,d⟩=> ?_) _ (Y2 hk hp _ 1 (ai _) (by omega) λi j hij hj=>by omega))
 by_cases hmn:m=n
 ·rw[if_pos (by simpa using hmn)]
  exact⟨a,b,hp,c⟩
 ·rw[if_neg (by simpa using hmn)]
  by_cases hm1:m > 1
  ·rw[if_pos hm1];refine⟨⟨hp.lt (by omega),hp.lt (by omega),λz=>absurd (hp.inj (by omega) (by omega) z) (by omega)⟩, ?_⟩
   have q:O.blt _ (kp key p (m - 1))=true:=c 0 _ (by omega) (by omega)
   show Gd _ n (if O.blt _ _=true then .ret _ else _) _
   rw[if_pos q];exact⟨a,b,hp,c⟩
  ·have e:m=1:=by omega
   subst e;have d1:=d (by omega)
   refine Gd.bind _ (Gd.mono (λr ⟨r1,r2,r3,r4,r5⟩=> ?_) _ (Y3 hk hp _ _ (by omega) (by omega) λi j hij hj=>by
    have:i=0/\j=1:=by omega
    rw[this.1,this.2];exact d1))
   rw[r2,r1];refine Gd.bind _ (Gd.mono (λm' ⟨x1,x2,x3,_⟩=>⟨by omega,x2,vL hp 0 _,x3⟩) _ (Y2 hk (vL hp 0 _) _ _ (by omega) (by omega) λi j hij hj=> ?_))
   unfold kp;rw[Y4 hp r4 (by omega),Y4 hp r4 hj]
   exact r5 _ _ (by omega) (by omega)
theorem wY {p:Array Nat}(hp:Pm n p){k:Nat}(hkn:k < n)(hs:So key p k):∀(f l r:Nat),r<=k->l<=r->r - l<=f->(∀i,i < l->O.klt (kp key p i) (kp key p k))->(∀i,r<=i->i < k->O.klt (kp key p k) (kp key p i))->
  Gd (λi j=>O.blt (key i) (key j)) n (kas_place p k f l r) λm=>m<=k/\(∀i,i < m->O.klt (kp key p i) (kp key p k))/\∀i,m<=i->i < k->O.klt (kp key p k) (kp key p i)
 | 0,l,r,h1,h2,h3,h4,h5=>⟨by omega,h4,λi hi hik=>h5 i (by omega) hik⟩
 | f+1,l,r,h1,h2,h3,h4,h5=>by
  unfold kas_place
  by_cases hlr:l ≥ r
  ·rw[if_pos hlr];exact⟨by omega,h4,λi hi hik=>h5 i (by omega) hik⟩
  ·rw[if_neg hlr];refine⟨⟨hp.lt hkn,hp.lt (by omega),λz=>absurd (hp.inj hkn (by omega) z) (by omega)⟩, ?_⟩
   show Gd _ n (if O.blt _ _=true then kas_place p k f l _ else kas_place p k f _ r) _
   cases q:O.blt _ _ with
   | true=>
    refine wY hp hkn hs f l _ (by omega) (by omega) (by omega) h4 λi hi hik=> ?_
    by_cases e:i=(l+r) / 2
    ·rw[e];exact q
    ·exact ce (q) (dk (hs _ _ (by omega) hik))
   | false=>
    refine wY hp hkn hs f _ r h1 (by omega) (by omega) (λi hi=> ?_) h5
    have ql:=xl hk hp hkn (by omega) (by omega) q
    by_cases e:i=(l+r) / 2
    ·rw[e];exact ql
    ·exact ce (hs _ _ (by omega) (by omega)) (dk ql)
omit hk in
theorem Y5 {p:Array Nat}(hp:Pm n p){k l i:Nat}(hkn:k < n)(hl:l<=k):(bubble p k (k - l)).getD i 0=if i=l then p.getD k 0 else if l < i/\i<=k then p.getD (i - 1) 0 else p.getD i 0:=by
 have h:=getElem?_bubble (by rw[hp.sz];exact hkn) (k - l) (by omega) i
 rw[show k - (k - l)=l by omega]at h
 repeat' split at h
 all_goals first | (rw[if_pos (by assumption)];exact wX h) | (rw[if_neg (by assumption),if_pos (by assumption)];exact wX h) | (rw[if_neg (by assumption),if_neg (by assumption)];exact wX h)
theorem vM:∀(f:Nat) (p:Array Nat) (k:Nat),Pm n p->k+f=n->So key p k->Gd (λi j=>O.blt (key i) (key j)) n (kas_bin f p k) λq=>Pm n q/\So key q n
 | 0,p,k,hp,hkf,h=>⟨hp,by rw[← hkf];exact h⟩
 | f+1,p,k,hp,hkf,h=>by
  unfold kas_bin;refine Gd.bind _ (Gd.mono (λl ⟨a,b,c⟩=> ?_) _ (wY hk hp (by omega) h k 0 k (ai _) (ba _) (by omega) (λi hi=>by omega) λi hi hik=>by omega))
  refine vM f _ _ ⟨(bubble_size _ _ _).trans hp.sz,(dO.mp (bubble_perm p k _)).trans hp.pm⟩ (by omega) λi j hij hj=> ?_
  unfold kp;rw[Y5 hp (by omega) a,Y5 hp (by omega) a]
  by_cases hi:i=l
  ·rw[if_pos hi,if_neg (by omega),if_pos ⟨by omega,by omega⟩]
   exact c _ (by omega) (by omega)
  ·rw[if_neg hi]
   by_cases hj' :j=l
   ·rw[if_pos hj',if_neg (by omega)]
    exact b i (by omega)
   ·rw[if_neg hj']
    by_cases x:l < i/\i<=k
    ·rw[if_pos x,if_pos ⟨by omega,by omega⟩]
     exact h _ _ (by omega) (by omega)
    ·rw[if_neg x]
     by_cases y:l < j/\j<=k
     ·rw[if_pos y];exact h _ _ (by omega) (by omega)
     ·rw[if_neg y];exact h _ _ hij (by omega)
theorem Y6 (h2:2<=n):Gd (λi j=>O.blt (key i) (key j)) n (kas_sort n) λq=>Pm n q/\So key q n:=by
 refine Gd.bind _ (Gd.mono (λr ⟨a,b,c,d⟩=> ?_) _ (jF hk ⟨by simp,by simp⟩ h2))
 by_cases h:r.1 < n
 ·rw[if_pos h,show max r.1 1=r.1 by omega]
  exact vM hk _ _ _ c (by omega) d
 ·rw[if_neg h];exact⟨c,by rw[show n=r.1 by omega];exact d⟩
end
end PV
namespace PV
open PySem PySem.Spec PyProof.Rows L2
section
open PySem.W PySem.Calls
variable {O:KeyOrd}{n:Nat}{key:Nat->O.α}
end
section
variable {prog:Program}{w:World}{A:Around}{E:Value->Shared->Prop}{s:Shared}
open PySem.W PySem.Calls
end
end PV
namespace PV
open PySem PySem.Spec PyProof.Rows L2
theorem xm {Y:Fx}{B H H1:Hp}{r:R T}{Q:VK}(sB:zm B H)(s:zm H H1)(q:Po Y rC B H r Q):Po Y rC (zO B H H1) H1 r Q:=by
 cases r with
 | bad=>exact q
 | ex c=>exact λd H' a b=>q d H' a ((zO.ge sB s).trans b)
 | ok t=>exact λb H' s' r' =>q b H' (s.trans s') (by rw[zO.trans s s']at r';exact r')
section
variable {prog:Program}{w:World}{A:Around}{E:Value->Shared->Prop}{s:Shared}
open HT in
open HT in
end
end PV
namespace PV
open PySem PySem.Spec PyProof.Rows L2
end PV
namespace L2
open PySem PySem.Spec PyProof.Rows PySem.W
structure Lm (X:Cx) (c P:Addr) (q:Str):Prop where
 code:X.env.code= .ref c
 hd:codeHdIn X.K c P=true
 bt:X.base.BuiltinsAt X.mg P
 ql:X.env.qual++"<lambda>"=q
noncomputable def wZ (H:Hp)(q:Str)(c:Addr):Prop:=∃oc vs t,H c=some (.frz oc (.own c))/\oc.data= .fields vs/\vs[1]? =some (.str q t)
theorem wZ.mono {H H' :Hp}{q:Str}{c:Addr}(s:zm H H')(h:wZ H q c):wZ H' q c:=let ⟨oc,vs,t,e,r⟩:=h;⟨oc,vs,t,s _ _ e,r⟩
theorem wZ.rec {P:Program}{w:World}{H:Hp}{q:Str}{c:Addr}{h:Heap}(x:wZ H q c)(ok:HOk P w H h):h.CodeRec (.ref c) q:=by
 obtain⟨oc,vs,t,e,d,v⟩:=x;exact⟨c,oc,vs,t,rfl,(ok c _ e).1,d,v⟩
theorem wq {p p' :Pos}{c cv:Value}:∀(l:List Value),TriplesOk l->codeAmong p (l++[rawInt p'.line,rawInt p'.col,c])=some cv->codeAmong p l=some cv\/cv=c
 | [],_,h=>by
  right
  simp only[bn,rawInt,codeAmong]at h;split at h
  ·exact(aD h).symm
  ·cases h
 | .int a t :: .int b u :: x :: r,ok,h=>by
  simp only[dB,codeAmong]at h ⊢;split at h
  ·rename_i z;rw[if_pos z];exact .inl h
  ·rename_i z;rw[if_neg z];exact wq r (by simpa only[TriplesOk] using ok) h
noncomputable abbrev K8 (q:Str)(params:Arguments)(body:Expr)(scope:Scope)(clos:List (Str×Addr))(pm ctv:Value)(c:Addr):Obj:=kla_obj "<lambda>" q params body scope clos pm c ctv
theorem K9 {X:Cx}{c P:Addr}{q:Str}{params:Arguments}{body:Expr}{scope:Scope}{pos:Pos}{clos:List (Str×Addr)}(L:Lm X c P q)(hdef:defaultsOf params X.env=([],[]))(hcl:closureFor scope X.env=pure clos):
  PE X (.Lambda params body scope pos) (λσ H Q=>H P=some (.tbl #[] q)/\∀f c' pm ctv H',zm H H' ->H' f=some (.frz (K8 q params body scope clos pm ctv c') (.own f))->wZ H' q c' ->Q (.ref f) H'):=by
 intro pins s σ H Q I ⟨hP,h⟩;obtain⟨more,eP,tr,al⟩:=I.hok P _ hP;have C:=codeHd_of_K I.kIn L.hd;have hg:=I.ok.mod.glob.keeps I.bk;have hB:s.heap.BuiltinsAt X.mg P:=by
  obtain⟨bm,o,b1,b2,b3,b4,b5,b6⟩:=L.bt;exact⟨bm,o,b1,b2,b3,b4,I.bk _ _ b5,b6⟩
 have hgP:mainGlobals ≠ P:=λz=>by
  obtain⟨o,es,ep,e,hd,_⟩:=hg;rw[z,eP]at e;cases e;cases hd
 have fobj:∀{H2:Hp} {f:Addr} {o:Obj} {h2:Heap},h2.get? f=some o->Zj X.prog X.w H2 h2 f (.frz o (.own f)):=λe=>⟨e,_,e⟩;refine kla_eval hdef ?_;rw[L.ql];cases hf:codeAmong pos _ with
 | some cv=>
  obtain⟨c',oc,vs,t,rfl,e2,e3,e4⟩:=al pos cv hf;refine kla_makeFunctionHit hcl I.ok.glob hg L.code C eP tr hf hB λctv h' tk hk hsz=> ?_;have hfr:=I.hok.fresh hsz;have e5:(h'.push (K8 q params body scope clos ((X.mg "__name__").getD .none) ctv c')).get? _=some _:=ag _ rfl;refine⟨.ref _,_,I.laid (λb u e=>af _ (hk b u e)) hsz (fobj e5),rfl, ?_⟩;exact h _ c' _ ctv _ (PV.zm.new hfr _) zE (wZ.mono (PV.zm.new hfr _) ⟨oc,vs,t,e2,e3,e4⟩)
 | none=>
  refine kla_makeFunction hcl I.ok.glob hg L.code C eP tr hf hgP hB λc' ctv h' tk hx hge hlt hrec htb=> ?_;obtain⟨c₂,oc,vs,t,e2,hoc,hd,hv⟩:=hrec;cases e2;have hc0:=I.hok.fresh hge;have neP:∀b,H b=none->b ≠ P:=λb n z=>by rw[z,hP]at n;cases n
  have neC:∀b o,s.heap.get? b=some o->b ≠ c' :=λb o e=>aC (aF (ao e) hge);have sm:zm H (upd H c' (.frz oc (.own c'))):=PV.zm.new hc0 _;have hl:(#[]++more++ #[rawInt pos.line,rawInt pos.col,Value.ref c']).toList=(#[]++more).toList++[rawInt pos.line,rawInt pos.col,Value.ref c']:=by simp
  have hok:HOk _ X.w (upd H c' _) h' :=λb u e=>by
   by_cases hb:b=c'
   ·subst hb;rw[zE]at e;cases e;exact fobj hoc
   ·rw[zn hb]at e
    by_cases hbP:b=P
    ·subst hbP;rw[hP]at e;cases e;refine⟨more++ #[rawInt _,rawInt _,Value.ref c'],by rw[← dP];exact htb,by rw[← dP,hl];exact TriplesOk_snoc _ _ _ _ tr,λp cv z=> ?_⟩
     rw[← dP,hl]at z;rcases wq _ tr z with z | rfl
     ·obtain⟨c2,oc2,vs2,t2,a1,a2,a3⟩:=al p cv z;exact⟨c2,oc2,vs2,t2,a1,sm _ _ a2,a3⟩
     ·exact⟨c',oc,vs,t,rfl,zE,hd,hv⟩
    ·refine(I.hok b u e).stay (λa v ha q' =>hx a v (λz=> ?_) q') (λ_ q' =>sm _ _ q') (λ_ _ q' =>sm _ _ q') λ_ _ _ q' =>sm _ _ q';subst z;rcases ha with z | z
     ·exact hbP z.symm
     ·rw[hP]at z;cases z
  have I1:Inv X pins σ (upd H c' (.frz oc (.own c'))) { s with heap:=h',toks:=s.toks }:=by
   refine I.step (ch:=[]) (λ_ z=>nomatch z) (λb o _ _ _ e n=>hx b o (neP b n) e) (λb o _ _ _ e n=>⟨o.slots,hx b o (neP b n) e⟩) (λb o _ e n=>by rw[zn (neC b o e)];exact n) (λb o _ e=> ?_) (λ_ _ e=>sm _ _ e) (λ_ _ _ e=>sm _ _ e) (λ_ _ _ e=>sm _ _ e) (λm hm=>hm.extBut hx (neP _ I.free)) hok I.bare
   by_cases hb:b=P
   ·exact⟨_,hb ▸ htb⟩
   ·exact⟨o,hx b o hb e⟩
  have hfr:upd H c' (.frz oc (.own c')) h'.objs.size=none:=by rw[zn (da hlt)];exact I1.hok.fresh (ai _) |> λz=>by rw[zn (da hlt)]at z;exact z
  have e5:(h'.push (K8 q params body scope clos ((X.mg "__name__").getD .none) ctv c')).get? _=some _:=ag _ rfl;refine⟨.ref _,_,I1.laid (λb u e=>af _ e) (ai _) (fobj e5),rfl, ?_⟩;have s2:zm _ (upd _ _ (.frz (K8 q params body scope clos ((X.mg "__name__").getD .none) ctv c') (.own h'.objs.size))):=PV.zm.new hfr _;exact h _ c' _ ctv _ (sm.trans s2) zE (wZ.mono s2 ⟨oc,vs,t,zE,hd,hv⟩)
end L2
namespace L2
open PySem PySem.Spec PyProof.Rows PySem.W
noncomputable def vN (s:Shared)(H:Hp)(fr:List Addr):Heap:=hideAll s.heap (trk s.heap H++fr)
theorem uO {s:Shared}{H:Hp}{fr:List Addr}{b:Addr}{o:Obj}(e:s.heap.get? b=some o)(n:H b=none)(hb:b ∉ fr):(vN s H fr).get? b=some o:=
 hideAll_get _ e λhm=>by
  rcases aZ.mp hm with z | z
  ·have q:=(bK.mp z).2;rw[n]at q;cases q
  ·exact hb z
theorem xn {s:Shared}{H:Hp}{fr:List Addr}{b:Addr}{o:Obj}(e:(vN s H fr).get? b=some o):s.heap.get? b=some o/\H b=none:=by
 have e' :=of_hideAll _ e;refine⟨e', ?_⟩;cases q:H b with
 | none=>rfl
 | some x=>
  have hm:b∈trk _ H++fr:=cJ _ (bK.mpr ⟨aR.mpr (ao e'),by simp[q]⟩)
  have z:(vN s H fr).get? b=none:=hideAll_none _ hm;rw[z]at e;cases e
theorem Mod.keeps {K:Frag}{mg:Str->Option Value}{b b' :Heap}(m:Mod K mg b)(k:∀a o,b.get? a=some o->b'.get? a=some o):Mod K mg b' :=
 ⟨m.kin.keeps k,m.glob.keeps k,let ⟨mb,h1,h2⟩:=m.blt;⟨mb,h1.keeps k,h2⟩,m.nolimit.keeps k⟩
section
variable {X:Cx}{pins:List (Addr×Obj)}{σ:St}{H:Hp}{s:Shared}
theorem Inv.big_of (I:Inv X pins σ H s):∀b o,X.base.get? b=some o->(vN s H (frs X.stack)).get? b=some o:=λb o e=>by
 refine uO (I.bs b o e).1 (I.bs b o e).2 λhb=> ?_;have:=(I.stack.mem hb).1;rw[e]at this;cases this
theorem Inv.big (I:Inv X pins σ H s):vn X.prog X.w X.K X.mg (vN s H (frs X.stack)) X.A X.stack s H:=
 ⟨I.ok.frames,I.ok.mod.keeps I.big_of,λb o e=>xn e,Nat.le_of_eq (hideAll_size _ _),funFrames_hide I.stack λenv he a ha=>ay _ (dH.mpr ⟨env,he,ha⟩),I.stkFree,I.hok,I.bare⟩
end
noncomputable def cxL (P:Program)(w:World)(K:Frag)(mg:Str->Option Value)(base:Heap)(N:List Str)(q:Str)(scope:Scope)(f:Addr)(cd:Value)(clos:List (Str×Addr))(A:Around)(outer:List Env)(s:Shared)(H:Hp)(E:XK):Cx where
 prog:=P
 w:=w
 K:=K
 mg:=mg
 base:=base
 A:=A.deeper (envX q scope s.heap.objs.size f cd clos)
 N:=N
 s₀:=s
 H₀:=H
 env:=envX q scope s.heap.objs.size f cd clos
 outer:=outer
 stack:=envX q scope s.heap.objs.size f cd clos :: outer
 ex:=[]
 calm:=true
 fn:=λ_=>false
 pn:=[]
 xe:=λe s' =>wpAny (model P w) (A.deeper (envX q scope s.heap.objs.size f cd clos)) (leaving (envX q scope s.heap.objs.size f cd clos) e) (λ_ s'' =>CX1 P w outer H s E e s'') (λe' s'' =>CX1 P w outer H s E e' s'') s'
section
variable {P:Program}{w:World}{K:Frag}{mg:Str->Option Value}{base:Heap}{N:List Str}{q:Str}{scope:Scope}{f:Addr}{cd:Value}{clos:List (Str×Addr)}{A:Around}{outer:List Env}{s:Shared}{H:Hp}{E:XK}
structure LSc (scope:Scope):Prop where
 kind:scope.kind= .function
 co:scope.isCoroutine=false
 gen:scope.isGenerator=false
 nocell:∀x∈scope.names,x.2 ≠ .cell
structure Y7 (base:Heap) (H:Hp) (scope:Scope) (clos:List (Str×Addr)) (N:List Str) (σ:St):Prop where
 inj:∀x y c,clos.lookup x=some c->clos.lookup y=some c->x=y
 has:∀x∈scope.names,x.2= .free->∃c,clos.lookup x.1=some c
 cell:∀x c,clos.lookup x=some c->(∃v,base.IsCell c v)/\H c=none
 loc:∀(i:Nat) (x:Str) (v:V),N[i]? =some x->σ[i]? =some (some v)->∃u c,zU v u/\clos.lookup x=some c/\base.IsCell c (some u)/\scope.names.lookup x=some .free
 len:σ.length=N.length
theorem wu {h h' :Heap}{c:Addr}{v:Option Value}(k:∀a o,h.get? a=some o->h'.get? a=some o)(x:h.IsCell c v):h'.IsCell c v:=let ⟨o,e,d⟩:=x;⟨o,k _ _ e,d⟩
end
end L2
namespace L2
open PySem PySem.Spec PyProof.Rows PySem.W
end L2
namespace PV
open PySem PySem.Spec PyProof.Rows L2 PySem.W
section
variable {P:Program}{w:World}{K:ae}{mg:Str->Option Value}{base:Heap}
noncomputable def Y8 (cl:Nat->Value)(n:Nat)(g:List T->R T)(Pt:Addr)(q:Str):Sp:=λvs H Q E=>H Pt=some (.tbl #[] q)/\spP cl n g vs H Q E
theorem Ka {cl:Nat->Value}{x qual q:Str}{st:Stmt}{f c Pt:Addr}{fd:FuncData}{N ps:List Str}{k n:Nat}{fb:En->RS}{g:List T->R T}(F:Fun K x qual st f fd)(hc:fd.code= .ref c)(S:jn N ps (zk st))(hn:n=ps.length)
  (hb:∀(A:Around) (outer:List Env) (s:Shared) (H:Hp) (E:XK) (Y:Fx),Y.cl=cl->Y.E=E->Y.H0 Pt=some (.tbl #[] q)->jg k (A.deeper (envOfC qual (zk st) s.heap.objs.size f (.ref c)))->
   WA (u8 (CX1 P w) P w K mg base N qual (zk st) f (.ref c) A outer s H E) Y (Z1 st) fb)
  (hg:∀ts,ts.length=n->g ts=zi (fb (en0 N.length ts))):Wj P w K mg base (CX1 P w) (k+1) f fd ps (Y8 cl n g Pt q):=by
 subst hn;obtain⟨oc,od,kV,doc,pm,an,cdv,ct,osl,rfl,lk,hcd⟩:=F.ex;obtain rfl:cdv= .ref c:=hc;refine Vj lk hcd S (λvs H Q E z=>spP.len vs H Q E z.2) λA outer s H vs Q E hr ⟨hT,B,ts,hl,sB,r,q⟩=> ?_;refine⟨_,hb A _ s H E ⟨B,H,E,cl,[]⟩ rfl rfl hT hr _,B,SI.start sB r, ?_⟩;rw[hg ts hl]at q;revert q;cases fb _ with
 | rt t=>exact λq v H' s r=>q v H' s r
 | rf t=>exact λq a xs H' B' s0 n e r _ l=>q _ H' s0 (.lst (by rw[Z6 n];exact e) (r.mono l))
 | nx ρ=>exact λq σ' H' B' _ I=>q _ H' I.sH .non
 | ex c=>exact λq=>q
 | bk ρ=>exact λq=>q.elim
 | ct ρ=>exact λq=>q.elim
 | bad=>exact λq=>q
end
end PV
namespace L2
open PySem PySem.Spec PyProof.Rows PySem.W
theorem Y9 {P:Program}{w:World}{K:Frag}{mg mb:Str->Option Value}{CX:CXT}{k:Nat}{fa a c Pt:Addr}{fd:FuncData}{x q:Str}{sp:Sp}{s₁:Shared}{vs:List Value}{ns:List Int}
  (KX:K.In s₁.heap) (hns:s₁.heap.Ns mainGlobals mg) (hb:s₁.heap.Ns builtinsNs mb) (hbb:∀x:Str,x ≠ "__name__"->mb x=bootBuiltins x) (hlim:s₁.heap.NoLimit) (hg:s₁.gens= #[])
  (ha:s₁.heap.get? a=some { cls:= .type "list",data:= .seq vs.toArray }) (hi:IntsAre vs ns) (hl:ns.length<=sizeLine) (hr:jg k callerA)
  (hbt:s₁.heap.BuiltinsAt mg Pt) (hPt:s₁.heap.get? Pt=some (tabObj #[])) (hKP:K.lookup Pt=none) (hC:codeHdIn K c Pt=true) (hKa:K.lookup a=none)
  (F:∀base:Heap,K.In base->base.BuiltinsAt mg Pt->Wj P w K mg base CX k fa fd [x] sp) (hbind:∀(s:Shared) (u:Value),BindsTo s fd ⟨[u],[]⟩ [(x,u)])
  (hsp:∀(H:Hp) (o:Obj),H a=some (.frz o (.lst (ns.map V.int)))->H Pt=some (.tbl #[] q)->sp [.ref a] H (λv _=>v= .bl true) λ_ _ _=>False)
  (hCX:∀H e s',CX [] H s₁ (λ_ _ _=>False) e s' ->False):
  codeAny (model P w) callerA (.call (.ref fa) ⟨[.ref a],[]⟩) (λr s' =>r= .ok (.ret (.bool true))/\OldK s₁.heap s'.heap/\s'.os=s₁.os/\AllBare s'.gens) s₁:=by
 have rv:=jz hi;have hne:Pt ≠ a:=λz=>by rw[z,ha]at hPt;cases hPt
 obtain⟨H,hH⟩:∃H:Hp,H=upd (upd (λ_=>none) Pt (.tbl #[] q)) a (.frz { cls:= .type "list",data:= .seq vs.toArray } (.lst (ns.map V.int))):=⟨_,rfl⟩;have h1:H a=some (.frz { cls:= .type "list",data:= .seq vs.toArray } (.lst (ns.map V.int))):=by rw[hH,zE]
 have h2:H Pt=some (.tbl #[] q):=by rw[hH,zn hne,zE]
 have h3:∀b,b ≠ a->b ≠ Pt->H b=none:=λb n1 n2=>by rw[hH,zn n1,zn n2]
 have hok:HOk P w H _:=λb o e=>by
  by_cases b1:b=a
  ·subst b1;rw[h1]at e;cases e;exact⟨ha,by rw[xqz];exact hl,vs,_,rv,ha⟩
  ·by_cases b2:b=Pt
   ·subst b2;rw[h2]at e;cases e;exact⟨#[],hPt,trivial,λp cv z=>by cases z⟩
   ·rw[h3 b b1 b2]at e;cases e
 have noD:∀{b:Addr} {o:Obj} {es:Array _} {ep:Nat},s₁.heap.get? b=some o->o.data= .dict es ep->H b=none:=λ{b o es ep} e d=>h3 b (λz=>by rw[z,ha]at e;cases e;cases d) λz=>by rw[z,hPt]at e;cases e;cases d
 have nsK:∀{b:Addr} {m:Str->Option _},s₁.heap.Ns b m->(X3 _ H).Ns b m:=λ{b m} ⟨o,es,ep,e,d,r⟩=>⟨o,es,ep,wH e (noD e d),d,r⟩;have hKb:=λb o e=>wH (KX b o e) (h3 b (λz=>by rw[z,hKa]at e;cases e) λz=>by rw[z,hKP]at e;cases e)
 have hM:Mod K mg _:=⟨hKb,nsK hns,⟨mb,nsK hb,hbb⟩,let ⟨mc,h1,h2⟩:=hlim;⟨mc,nsK h1,h2⟩⟩;have hBT:(X3 s₁.heap H).BuiltinsAt mg Pt:=by
  obtain⟨bm,o,b1,b2,b3,b4,b5,b6,b7,b8⟩:=hbt;exact⟨bm,o,b1,b2,b3,b4,wH b5 (h3 bm (λz=>by rw[z,ha]at b5;cases b5;cases b8) b4),b6,b7,b8⟩
 have e0:vn P w K mg _ callerA [] _ H:=⟨rfl,hM,λb o e=>V8 e,Nat.le_of_eq (UU _ _),trivial,λb hb=>absurd (show b∈([]:List _) from hb) (by simp),hok,.of_eq hg⟩
 refine db ((F _ hKb hBT).run _ [] _ H _ _ [.ref a] _ _ hr e0 (hbind _ _) (.cons rfl .nil) (hsp H _ h1 h2)) λr s' h=> ?_;cases r with
 | error e=>exact(hCX H e s' h).elim
 | ok fl=>
  cases fl with
  | next=>exact bL h
  | brk=>exact bL h
  | cont=>exact bL h
  | ret u=>
   obtain⟨v,H',os,bare,un,hok',r',qv⟩:=h;have q' :=qv;subst q';obtain rfl:u=Value.bool _:=r';refine⟨rfl,⟨λb o e=> ?_,λb o e=>un.there b o e (by simp)⟩,os,bare⟩
   by_cases b1:b=a
   ·subst b1;have z2:=un.frzs b _ _ h1;obtain⟨e2,_⟩:=hok' b _ z2;rw[ha]at e;cases e;exact .inl e2
   ·by_cases b2:b=Pt
    ·subst b2;obtain⟨more,e2,_⟩:=hok' b _ (un.tbls b _ _ h2);rw[hPt]at e;cases e;exact .inr (.inl ⟨((codeHd_of_K KX hC).tab hPt).isCodeTable,rfl, #[],more,rfl,e2⟩)
    ·exact .inl (un.keep b o e (h3 b b1 b2) (by intro z;exact absurd (show b∈([]:List _) from z) (by simp)) (by simp))
theorem walk_ofT {l:OpenLaw}{n k:Nat}{q:Program}{loose:List Str}{XP:(Str->Option Value)->Heap->Prop}{YP:World->Heap->Prop}{d:DefRec}{K:Params->Frag}{ts:List Addr}{CX:World->CXT}{sp:World->Addr->Sp}{x nm:Str}
  (hn:l.most=some n) (hn2:n<=sizeLine) (hdf:d.params.defaults=[]) (hr:jg k callerA)
  (hY:∀(w:World) (h:Heap),YP w h->(K w.params).In h/\∀P∈ts,h.get? P=some (tabObj #[])) (hKa:∀(w:World) (a:Addr) (o:Obj),(K w.params).lookup a=some o->o.cls ≠ .type "list")
  (F:∀(w:World) (mg:Str->Option Value) (fa:Addr) (h:Heap),(K w.params).In h->h.Ns mainGlobals mg->mg d.name=some (.ref fa)->(∀P∈ts,h.get? P=some (tabObj #[]))->
   ∃(fd:FuncData) (c Pt:Addr),(∀(s:Shared) (u:Value),BindsTo s fd ⟨[u],[]⟩ [(x,u)])/\h.get? Pt=some (tabObj #[])/\(K w.params).lookup Pt=none/\codeHdIn (K w.params) c Pt=true/\
    ∀base:Heap,(K w.params).In base->base.BuiltinsAt mg Pt->Wj l.prog w (K w.params) mg base (CX w) k fa fd [x] (sp w Pt))
  (hsp:∀(w:World) (H:Hp) (a Pt:Addr) (o:Obj) (ns:List Int),ns.length<=n->H a=some (.frz o (.lst (ns.map V.int)))->H Pt=some (.tbl #[] nm)->sp w Pt [.ref a] H (λv _=>v= .bl true) λ_ _ _=>False)
  (hCX:∀(w:World) (H:Hp) (s:Shared) (e:Value) (s' :Shared),CX w [] H s (λ_ _ _=>False) e s' ->False):
  WalkO q loose XP YP l.row.toRowW d [] (λf vs=>ip f vs):=by
 refine Att.attach_call hn hdf λw s₀ s₁ mg mb fa o pm cd doc a vs ns G Y ho hd hcd hmg hobj hints hlen hg=> ?_;obtain⟨KX,hT⟩:=hY w _ Y;obtain⟨fd,c,Pt,hb,hPt,hKP,hC,hF⟩:=F w mg fa _ KX G.T.g hmg hT;obtain⟨bm,ob,b1,b2,b3,b4,b5,b6⟩:=G.T.bmain;have hbP:bm ≠ Pt:=λz=>by rw[z,hPt]at b3;cases b3;cases b4
 have hbG:bm ≠ mainGlobals:=λz=>by
  obtain⟨o,es,ep,e,hd,_⟩:=G.T.g;rw[z,e]at b3;cases b3;rw[hd]at b6;cases b6
 refine Y9 KX G.T.g G.T.b G.T.builtins G.T.nolimit hg hobj hints (aq hlen hn2) hr ⟨bm,ob,b1,b2,hbG,hbP,b3,b4,b5,b6⟩ hPt hKP hC ?_ hF hb (λH o h1 h2=>hsp w H a Pt o ns hlen h1 h2) λH e s' =>hCX w H _ e s';cases hk:(K _).lookup a with
 | none=>rfl
 | some o2=>
  have e:=KX a o2 hk;rw[hobj]at e;cases e;exact(hKa w a _ hk rfl).elim
end L2
namespace PV
open PySem PySem.Spec PyProof.Rows L2
end PV
namespace PV
open PySem PySem.Spec PyProof.Rows L2 PySem.W
end PV
namespace PV
open PySem PySem.Spec PyProof.Rows L2
end PV
namespace PV
open PySem PySem.Spec PyProof.Rows L2 PySem.W
end PV
namespace PV
open PySem PySem.Spec PyProof.Rows L2
structure Fn (K:ae) (mg:Str->Option Value) (x:Str) (st:Stmt) (ps:List Str) (f:Addr) (fd:FuncData):Prop where
 F:Fun K x x st f fd
 b:L2.Binds K fd ps []
 m:mg x=some (.ref f)
noncomputable abbrev FE (K:ae)(mg:Str->Option Value)(x:Str)(st:Stmt)(ps:List Str):Prop:=∃f fd,Fn K mg x st ps f fd
structure Zz where
 P:Program
 w:World
 K:ae
 mg:Str->Option Value
 base:Heap
 cl:Nat->Value
structure QQ (x:Str) (CX:CXT) (k:Nat) (sp:Sp) (Z:Zz):Prop where
 ex:∃st ps f fd,Fn Z.K Z.mg x st ps f fd/\Wj Z.P Z.w Z.K Z.mg Z.base CX k f fd ps sp
noncomputable abbrev qP (Z:Zz)(x:Str)(n k:Nat)(c:List T->R T):Prop:=QQ x CX0 k (spP Z.cl n c) Z
noncomputable def oP (m:Nat)(b:En->RS):List T->R T:=λts=>zi (b (en0 m ts))
section
variable {P:Program}{w:World}{K:ae}{mg:Str->Option Value}{base:Heap}{cl:Nat->Value}{x:Str}{CX:CXT}{k c:Nat}{sp:Sp}{G:Prop}{as:List Str}
theorem QQ.go (O:QQ x CX k sp ⟨P,w,K,mg,base,cl⟩)(h:∀st ps f fd,Fn K mg x st ps f fd->Wj P w K mg base CX k f fd ps sp->G):G:=by
 obtain⟨⟨st,ps,f,fd,C,F⟩⟩:=O;exact h st ps f fd C F
end
section
variable {Z:Zz}{x y:Str}{st:Stmt}{ps:List Str}{c k n m j:Nat}{fb:En->RS}{fm:En->R (T×En)}
noncomputable abbrev Sc (N ps:List Str)(st:Stmt):Prop:=jn N ps (zk st)
theorem okP (C:FE Z.K Z.mg x st ps)(N:List Str) (hb:∀(f:Addr) (cdv:Value) (A:Around) (outer:List Env) (s:Shared) (H:Hp) (E:XK) (Y:Fx),Y.cl=Z.cl->True->jg k (A.deeper (envOfC x (zk st) s.heap.objs.size f cdv))->N.Nodup->True->
   WA (u8 CX0 Z.P Z.w Z.K Z.mg Z.base N x (zk st) f cdv A outer s H E).nox Y (Z1 st) fb)
  (S:Sc N ps st:=by refine⟨rfl,rfl,rfl, ?_,rfl, ?_, ?_⟩ <;> decide+kernel) (hn:n=ps.length:=by rfl) (hm:m=N.length:=by rfl):qP Z x n (k+1) (oP m fb):=by
 obtain⟨f,fd,C⟩:=C;subst hm;exact⟨_,_,f,fd,C,z05 C.F S hn (λcdv A outer s H E Y hy hr=>hb f cdv A outer s H E Y hy trivial hr S.nd trivial) λ_ _=>rfl⟩
variable {as:List Str}
theorem okB (C:FE Z.K Z.mg x st ps)(hn:n=ps.length:=by rfl):qP Z x n k (λ_=> .bad):=by
 obtain⟨f,fd,C⟩:=C;exact⟨_,_,f,fd,C,λvs H Q E h=>by rw[← hn];exact spP.len vs H Q E h,λA outer s H args us vs Q E _ _ _ _ ⟨B,ts,_,_,_,q⟩=>q.elim⟩
end
section
variable {X:Cx}{Y:Fx}{cl:Nat->Value}{k j n:Nat}{g:List T->R T}{x:Str}{a:Expr}{es:List Expr}{ga:En->R (List T)}{p pos:Pos}
theorem cZ (hy:Y.cl=cl)(O:QQ x CX0 j (spP cl n g) ⟨X.prog,X.w,X.K,X.mg,X.base,cl⟩)(hr:jg k X.A)(ha:uC X Y (a :: es) ga)(hj:j<=k:=by omega)(gl:Gl X x:=by rfl)(hd:(x == ("__debug__":Str))=false:=by decide)
  (hs:starEach (a :: es) X.env=(false,eval a X.env) :: starEach es X.env:=by exact Zc rfl) (hz:((backTo pos (starEach es X.env)).any λx=>x.fst)=false:=by exact ja rfl):Snd X Y (.Call (.Name x p) (a :: es) [] pos) (za n g ga):=
 O.go λ_ _ _ _ C F=>VU hy F hr hj gl C.m C.F.kp C.b ha hd hs hz
end
noncomputable def nms (N:List Str)(js:List Nat):List Str:=js.map λj=>N.getD j ""
noncomputable def ndB:List Str->Bool
 | []=>true
 | x :: r=> !(r.contains x) && ndB r
theorem WI:∀{l:List Str},ndB l=true->l.Nodup
 | [],_=> .nil
 | x :: r,h=>by
  rw[ndB,ac]at h;exact d4.mpr ⟨by simpa using h.1,WI h.2⟩
noncomputable def X8 (N N' :List Str)(sc0 scope:Scope)(k:Nat)(js:List Nat):Bool:=(kJ scope sc0 && kK N N' scope sc0 k js) && ndB N'
section
variable {cl:Nat->Value}{X:Cx}{Y:Fx}{x y:Str}{p p' p2:Pos}{kk:Nat}{iter elt:Expr}{ifs:List Expr}{scope:Scope}{js:List Nat}{fi:En->R (List T)}{ft:En->R Bool}{fe:En->R T}
theorem cr1 (hy:Y.cl=cl)(h:X8 X.N (x :: nms X.N js) X.env.scope scope 1 js=true)(hx:((relabel scope X.env).names.lookup x == some .local)=true)(cm:X.calm=true)(it:uc X Y (.Name x p) iter fi)(tt:∀Y',Y'.cl=cl->vC X scope (x :: nms X.N js) λXC=>wR XC Y' ifs ft)
  (el:∀Y',Y'.cl=cl->kA X scope (x :: nms X.N js) Y'.E λXC=>Snd XC Y' elt fe) (hs:∀x,foldedSetIterable iter X.env x=pure x:=by intro _;rfl):wn X Y (.Name x p) iter elt ifs scope (x :: nms X.N js) 1 js fi (wI 0) (zl 0) ft fe:=by
 subst hy;rw[X8,ac]at h;have hx:(relabel scope X.env).names.lookup x=some .local:=eq_of_beq hx;exact vH _ _ _ rfl rfl h.1 cm it (λ_ _ _ _ _ _=>jQ (WI h.2) rfl (.inl hx) (.inr hx)) (Qf 0) (Qi 0) tt el hs
theorem cr2 (hy:Y.cl=cl)(h:X8 X.N (x :: y :: nms X.N js) X.env.scope scope 2 js=true)(hx:((relabel scope X.env).names.lookup x == some .local && (relabel scope X.env).names.lookup y == some .local)=true)(cm:X.calm=true)(it:uc X Y (.Tuple [.Name x p,.Name y p'] kk p2) iter fi)(tt:∀Y',Y'.cl=cl->vC X scope (x :: y :: nms X.N js) λXC=>wR XC Y' ifs ft)
  (el:∀Y',Y'.cl=cl->kA X scope (x :: y :: nms X.N js) Y'.E λXC=>Snd XC Y' elt fe) (hs:∀x,foldedSetIterable iter X.env x=pure x:=by intro _;rfl):wn X Y (.Tuple [.Name x p,.Name y p'] kk p2) iter elt ifs scope (x :: y :: nms X.N js) 2 js fi (gi X.K 2 (UW (wI 0) (UW (wI 1) Gf))) (zK 0 1) ft fe:=by
 subst hy;rw[X8,ac]at h;rw[ac]at hx;have h1:(relabel scope X.env).names.lookup x=some .local:=eq_of_beq hx.1;have h2:(relabel scope X.env).names.lookup y=some .local:=eq_of_beq hx.2;exact vH _ _ _ rfl rfl h.1 cm it (λ_ _ _ _ _ _=>vj cm (Jo (jQ (WI h.2) rfl (.inl h1) (.inr h1)) (Jo (jQ (WI h.2) rfl (.inl h2) (.inr h2)) UX))) (Qg _ 0 1) (Qj 0 1) tt el hs
end
end PV
namespace L2
open PySem PySem.Spec PyProof.Rows
end L2
namespace PV
open PySem PySem.Spec PyProof.Rows L2 PySem.W
end PV
namespace PV
open PySem PySem.Spec PyProof.Rows L2
end PV
namespace PV
open PySem PySem.Spec PyProof.Rows L2 PySem.W
section
variable {X:Cx}{pins:List (Addr×Obj)}{σ:L2.St}{H0:Hp}{l q I D:Addr}{xs:List V}{R:Result->Shared->Prop}
theorem Ya {xs:List V}{us:List Value}{i:Nat}{u:Value}(r:zS xs us)(e:us[i]? =some u):∃x,xs[i]? =some x/\zU x u:=by
 have hi:=(ak.mp e).1;rw[← r.length]at hi;obtain⟨u',e',r'⟩:=r.get (a9 hi);rw[e]at e';cases e';exact⟨_,a9 hi,r'⟩
theorem xo (kf:Nat->Int)(hh:X.A.handled=none)(kw:List (Str×Value))(hl:∀H s,Inv X pins σ H s->zm H0 H->∃its:List Value,zS xs its/\s.heap.IsList l its.toArray)(hlI:l ≠ I)(hDI:D ≠ I)(fI:wb X pins H0 I)(fD:wb X pins H0 D)
  (turn:∀(i:Nat) (x:V) (v:Value),xs[i]? =some x->zU x v->∀(pn:List (Addr×Obj)) (s:Shared) (H:Hp),Inv X (pins++pn) σ H s->zm H0 H->
   wpAny (model X.prog X.w) X.A.in1 (call (.ref q) [v]) (λu s' =>∃t H',u= .int (kf i) t/\Inv X (pins++pn) σ H' s' /\zm H H') (λ_ _=>False) s)
  (hR:∀(i:Nat) (x:V) (v:Value) H s,xs[i]? =some x->zU x v->(∀j,j < xs.length->kf i<=kf j/\(j < i->kf i < kf j))->Inv X pins σ H s->zm H0 H->R (.ok (.ret v)) s):
  ∀(r j i:Nat) (s:Shared) (H:Hp) (xb:V) (vb:Value) (tb:Tok) (c:Nat),xs.length - (j+1)=r->j+1<=xs.length->Inv X pins σ H s->zm H0 H->H I=none->H D=none->
   s.heap.get? D=some (seqObj "list" #[vb,.int (kf i) tb] c)->s.heap.IsListIter I l (j+1)->xs[i]? =some xb->zU xb vb->i<=j->(∀j',j' <=j->kf i<=kf j' /\(j' < i->kf i < kf j'))->
   codeAny (model X.prog X.w) X.A (.builtin "min.loop" ⟨[.ref I,.ref q,.ref D],kw⟩) R s:=by
 have hname:(toString "min"++toString ".loop":String)="min.loop":=by decide
 intro r
 induction r with
 | zero=>
  intro j i s H xb vb tb c hr hj J sm hI hD gD hit hvb rb hij hbest;obtain⟨its,rv,hls⟩:=hl _ _ J sm;have W:=dN (prog:=X.prog) (w:=X.w) (A:=X.A.in1) hh I l hlI its.toArray;have hsz:its.toArray.size=xs.length:=by rw[av,rv.length]
  have hin:j+1=xs.length:=by omega
  refine bC xqy ?_;rw[cM bo _];show wpAny _ X.A.in1 (seqItems? (.ref D) >>= _) _ _ _;refine a7 (bu gD rfl ?_);show wpAny _ X.A.in1 (tryCatch (pyNext (.ref I)) _ >>= _) _ _ _;refine a7 (cj (W.done _ _ _ ⟨by rw[hsz,← hin];exact hit,hls⟩ λh' tk' hk' => ?_))
  have J1:=J.turned (t' :=tk') (λb o n e=>hk' b o (by simpa using n) e) hI fI.2.1 fI.2.2.2.1 fI.2.2.2.2.1 fI.2.2.2.2.2
  have gD' :=hk' D _ (by simpa using hDI) gD
  show wpAny _ X.A.in1 (updateSeq D (λ_=> #[]) >>= _) _ _ _;refine a7 (wpAny_updateSeq gD' rfl (a7 (d9 (am ?_))));exact hR i xb vb H _ hvb rb (λj' hj' =>hbest j' (by omega)) (J1.turned (it:=D) (λb o n e=>(bz _ _ (bv n)).trans e) hD fD.2.1 fD.2.2.2.1 fD.2.2.2.2.1 fD.2.2.2.2.2) sm
 | succ r ih=>
  intro j i s H xb vb tb c hr hj J sm hI hD gD hit hvb rb hij hbest;obtain⟨its,rv,hls⟩:=hl _ _ J sm;have W:=dN (prog:=X.prog) (w:=X.w) (A:=X.A.in1) hh I l hlI its.toArray;have hsz:its.toArray.size=xs.length:=by rw[av,rv.length]
  have hlt:j+1 < xs.length:=by omega
  refine bC xqy ?_;rw[cM bo _];show wpAny _ X.A.in1 (seqItems? (.ref D) >>= _) _ _ _;refine a7 (bu gD rfl ?_);show wpAny _ X.A.in1 (tryCatch (pyNext (.ref I)) _ >>= _) _ _ _;refine a7 (cj (W.item (j+1) _ _ _ (by rw[hsz];exact hlt) ⟨hit,hls⟩ λv h' tk' hP hst' hk' => ?_))
  obtain⟨x,hv,rx⟩:=Ya rv (show its[j+1]? =some v by simpa using hP)
  obtain⟨oI',hoI',hoc,hod⟩:=id hst'.1;have J1:=J.turned (t' :=tk') (λb o n e=>hk' b o (by simpa using n) e) hI fI.2.1 fI.2.2.2.1 fI.2.2.2.2.1 fI.2.2.2.2.2
  have gD' :=hk' D _ (by simpa using hDI) gD
  have J2:Inv X (pins++[(D,seqObj "list" #[vb,.int (kf i) tb] c),(I,oI')]) σ H _:=J1.pins_of λp hp=>by
   rcases aZ.mp hp with hp | hp
   ·exact J1.pin p (ay _ hp)
   ·rcases ah.mp hp with rfl | hp
    ·exact⟨gD',hD,fD.2.1,fD.2.2.1,λv z=>by cases z⟩
    ·rw[aA.mp hp];exact⟨hoI',hI,fI.2.1,fI.2.2.1,λv z=>by rw[hod]at z;cases z⟩
  show wpAny _ X.A.in1 (tryCatch (holding [v] (call (.ref q) [v])) _ >>= _) _ _ _;refine a7 (cj (bQ (cx (turn (j+1) x v hv rx _ _ _ J2 sm) (λy s2 he=> ?_) λ_ _ hF=>hF.elim)));obtain⟨t2,H2,rfl,J3,sm2⟩:=he;have pD:=J3.pin (D,seqObj "list" #[vb,.int (kf i) tb] c) (ay _ (ay _ (.head _)));have pI:=J3.pin (I,oI') (ay _ (ay _ (.tail _ (.head _))));have J4:=J3.unpinned;show wpAny _ X.A.in1 (tryCatch (holding [v,.int (kf (j+1)) t2] (richCompare .Lt (.int (kf (j+1)) t2) (.int (kf i) tb) >>= _)) _ >>= _) _ _ _;refine a7 (cj (bQ (a7 (CmpOf.ints_lt (prog:=X.prog) (w:=X.w) (A:=X.A.in1) (P:=λi v=>∃t,v= .int (kf i) t) kf (λi v h=>h) (j+1) i _ _ _ _ _ ⟨t2,rfl⟩ ⟨tb,rfl⟩ ?_))));refine a7 (bQ (aS ?_));refine a7 (d9 (am ?_))
  by_cases hb' :kf (j+1) < kf i
  ·obtain⟨c2,hc2⟩:∃c2,(s2.heap.update D (io λ_=> #[v,.int (kf (j+1)) t2])).get? D=some (seqObj "list" #[v,.int (kf (j+1)) t2] c2):=⟨_,get?_update_seq pD.1 λ_=> #[v,.int (kf (j+1)) t2]⟩;simp only[hb',decide_true,if_true];refine a7 ?_;refine wpAny_updateSeq pD.1 rfl (a7 (d9 ?_));rw[hname];refine am ⟨cb bo _,ih (j+1) (j+1) _ H2 x v t2 c2 (by omega) hlt (J4.turned (it:=D) (λb o n e=>(bz _ _ (bv n)).trans e) pD.2.1 fD.2.1 fD.2.2.2.1 fD.2.2.2.2.1 fD.2.2.2.2.2) (sm.trans sm2) pI.2.1 pD.2.1 hc2 ⟨oI',(bz _ _ hDI).trans pI.1,hoc,hod⟩ hv rx (ai _) λj' hj' => ?_⟩
   by_cases e:j' =j+1
   ·subst e;exact⟨by omega,λ_=>by omega⟩
   ·have hb1:=hbest j' (by omega)
    have hb2:=hb1.1;exact⟨by omega,λ_=>by omega⟩
  ·simp only[hb',decide_false,aH,if_false];refine a7 (d9 ?_);rw[hname];refine am ⟨cb bo _,ih (j+1) i _ H2 xb vb tb c (by omega) hlt J4 (sm.trans sm2) pI.2.1 pD.2.1 pD.1 ⟨oI',pI.1,hoc,hod⟩ hvb rb (by omega) λj' hj' => ?_⟩
   by_cases e:j' =j+1
   ·subst e;exact⟨by omega,λ_=>by omega⟩
   ·exact hbest j' (by omega)
theorem xp (a v d:Value):argsOk "min" ⟨[a],[(bf "key",v),(bf "default",d)]⟩:=by kernel_rfl
theorem xq {H:Hp}{s:Shared}{dv:Value}{Q E:Value->Shared->Prop}(kf:Nat->Int)(hh:X.A.handled=none)(J:Inv X pins σ H s)(hl:∀H' s',Inv X pins σ H' s' ->zm H H' ->∃its:List Value,zS xs its/\s'.heap.IsList l its.toArray)
  (turn:∀(i:Nat) (x:V) (v:Value),xs[i]? =some x->zU x v->∀(pn:List (Addr×Obj)) (s:Shared) (H' :Hp),Inv X (pins++pn) σ H' s->zm H H' ->
   wpAny (model X.prog X.w) X.A.in1 (call (.ref q) [v]) (λu s' =>∃t H2,u= .int (kf i) t/\Inv X (pins++pn) σ H2 s' /\zm H' H2) (λ_ _=>False) s)
  (h0:xs=[]->∀s',Inv X pins σ H s' ->Q dv s')
  (hQ:∀(i:Nat) (x:V) (v:Value) H' s',xs[i]? =some x->zU x v->(∀j,j < xs.length->kf i<=kf j/\(j < i->kf i < kf j))->Inv X pins σ H' s' ->zm H H' ->Q v s'):
  wpAny (model X.prog X.w) X.A (call (.builtin "min") [.ref l] [(bf "key",.ref q),(bf "default",dv)]) Q E s:=by
 have hname:(toString "min"++toString ".loop":String)="min.loop":=by decide
 obtain⟨its0,_,hls⟩:=hl _ _ J (zm.refl _);obtain⟨ol,hol,_⟩:=id hls;have hll:=ao hol;refine kmb_tree PySem.F.kind_min PySem.F.plain_min PySem.F.entry_min (xp _ _ _) ?_;refine a7 (c6 (show Builtin.Builtins.bindParams _ _ 0 _=pure [some (.ref q),some dv] from rfl) (a7 (am ?_)));refine a7 (b_ hls ?_);refine a7 (wpAny_newList ?_ (ba _));rw[hname];obtain⟨h1,e1⟩:∃h1,h1=s.heap.push { cls:= .type "list_iterator",data:= .fields #[.ref l,.int 0 0] }:=⟨_,rfl⟩;have hS:h1.objs.size=s.heap.objs.size+1:=by rw[e1];exact size_push' ..
 rw[← e1];have J0:Inv X pins σ H { s with heap:=h1.push (seqObj "list" #[] 0) }:=J.kept λb o e=>af _ (by rw[e1];exact af _ e)
 have gI:(h1.push (seqObj "list" #[] 0)).get? s.heap.objs.size=some { cls:= .type "list_iterator",data:= .fields #[.ref l,.int 0 0] }:=af _ (by rw[e1];exact ag _ rfl)
 have gD:(h1.push (seqObj "list" #[] 0)).get? h1.objs.size=some (seqObj "list" #[] 0):=ag _ rfl;have fI:wb X pins H s.heap.objs.size:=J.fpOk (ai _) J.fresh;have fD:wb X pins H h1.objs.size:=J.fpOk (by omega) (J.hok.fresh (by omega))
 have hlI:l ≠ s.heap.objs.size:=aC hll;have hDI:h1.objs.size ≠ s.heap.objs.size:=by omega
 obtain⟨its,rv,hls⟩:=hl _ _ J0 (zm.refl _);have W:=dN (prog:=X.prog) (w:=X.w) (A:=X.A.in1) hh s.heap.objs.size l hlI its.toArray;have hsz:its.toArray.size=xs.length:=by rw[av,rv.length]
 generalize h1.objs.size=D at*;generalize s.heap.objs.size=I at*;refine am ⟨cb bo _, ?_⟩;refine bC xqy ?_;rw[cM bo _];show wpAny _ X.A.in1 (seqItems? (.ref _) >>= _) _ _ _;refine a7 (bu gD rfl ?_);show wpAny _ X.A.in1 (tryCatch (pyNext (.ref I)) _ >>= _) _ _ _;rcases Nat.eq_zero_or_pos xs.length with hz | hp
 ·refine a7 (cj (W.done _ _ _ ⟨by rw[hsz,hz];exact⟨_,gI,rfl,rfl⟩,hls⟩ λh' tk' hk' => ?_))
  exact a7 (dw (am (h0 (bH hz) _ (J0.turned (t' :=tk') (λb o n e=>hk' b o (by simpa using n) e) fI.1 fI.2.1 fI.2.2.2.1 fI.2.2.2.2.1 fI.2.2.2.2.2))))
 ·refine a7 (cj (W.item 0 _ _ _ (by rw[hsz];exact hp) ⟨⟨_,gI,rfl,rfl⟩,hls⟩ λv h' tk' hP hst' hk' => ?_))
  obtain⟨x,hv,rx⟩:=Ya rv (show its[0]? =some v by simpa using hP)
  obtain⟨oI',hoI',hoc,hod⟩:=id hst'.1;have J1:=J0.turned (t' :=tk') (λb o n e=>hk' b o (by simpa using n) e) fI.1 fI.2.1 fI.2.2.2.1 fI.2.2.2.2.1 fI.2.2.2.2.2
  have gD' :=hk' D _ (by simpa using hDI) gD
  have J2:Inv X (pins++[(D,seqObj "list" #[] 0),(I,oI')]) σ H _:=J1.pins_of λp hp=>by
   rcases aZ.mp hp with hp | hp
   ·exact J1.pin p (ay _ hp)
   ·rcases ah.mp hp with rfl | hp
    ·exact⟨gD',fD.1,fD.2.1,fD.2.2.1,λv z=>by cases z⟩
    ·rw[aA.mp hp];exact⟨hoI',fI.1,fI.2.1,fI.2.2.1,λv z=>by rw[hod]at z;cases z⟩
  show wpAny _ X.A.in1 (tryCatch (holding [v] (call (.ref q) [v])) _ >>= _) _ _ _;refine a7 (cj (bQ (cx (turn 0 x v hv rx _ _ _ J2 (zm.refl _)) (λy s2 he=> ?_) λ_ _ hF=>hF.elim)));obtain⟨t2,H2,rfl,J3,sm2⟩:=he;have pD:=J3.pin (D,seqObj "list" #[] 0) (ay _ (ay _ (.head _)));have pI:=J3.pin (I,oI') (ay _ (ay _ (.tail _ (.head _))));obtain⟨c2,hc2⟩:∃c2,(s2.heap.update D (io λ_=> #[v,.int (kf 0) t2])).get? D=some (seqObj "list" #[v,.int (kf 0) t2] c2):=⟨_,get?_update_seq pD.1 λ_=> #[v,.int (kf 0) t2]⟩;show wpAny _ X.A.in1 (updateSeq D (λ_=> #[v,.int (kf 0) t2]) >>= _) _ _ _;refine a7 (wpAny_updateSeq pD.1 rfl ?_);rw[hname];refine am ⟨cb bo _,xo kf hh _ hl hlI hDI fI fD turn hQ _ 0 0 _ H2 x v t2 c2 rfl hp (J3.unpinned.turned (it:=D) (λb o n e=>(bz _ _ (bv n)).trans e) pD.2.1 fD.2.1 fD.2.2.2.1 fD.2.2.2.2.1 fD.2.2.2.2.2) sm2 pI.2.1 pD.2.1 hc2 ⟨oI',(bz _ _ hDI).trans pI.1,hoc,hod⟩ hv rx (ai _) λj' hj' => ?_⟩;have e:j' =0:=by omega
  subst e;exact⟨by omega,λh=>absurd h (bi _)⟩
end
section
variable {P:Program}{w:World}{K:Frag}{mg:Str->Option Value}{base:Heap}{N:List Str}{q x0:Str}{scope:Scope}{f:Addr}{cd:Value}{clos:List (Str×Addr)}{A:Around}{outer:List Env}{s:Shared}{H:Hp}{E:XK}
theorem QF {σ:L2.St}{h1:Heap}{tk:Nat}{v0:V}{u0:Value}{m:Str->Option Value}(S:LSc scope)(hd:A.handled=none)(e0:vn P w K mg base A outer s H)(C:Y7 base H scope clos N σ)(hN:N.Nodup)(h0:N[0]? =some x0)(hx:scope.names.lookup x0=some .local)(r0:zU v0 u0)(hm:m x0=some u0)(ns:h1.Ns s.heap.objs.size m)(hk:∀b o,s.heap.get? b=some o->h1.get? b=some o):
  Inv (cxL P w K mg base N q scope f cd clos A outer s H E) [] (σ.set 0 (some v0)) H { s with heap:=h1,toks:=tk }:=by
 have bk:=λb o e=>hk b o (e0.bs b o e).1;have noA:∀b,b ∉ (cxL P w K mg base N q scope f cd clos A outer s H E).ex:=λb z=>absurd (show b∈([]:List _) from z) (by simp)
 refine⟨⟨e0.mod,S.kind,rfl,rfl,ai _,C.inj,λy hy=> ?_,λy c h _=>(ax h).elim,λ_=>hd,fx e0.frames,.inr ⟨rfl,rfl⟩,λb z=>absurd z (noA b),e0.bs,e0.bsz,λb _ _=>noA b,λb z=>absurd z (noA b),e0.funs,e0.frf⟩,
  rfl,e0.bare,Un.kept hk,⟨_,ns,λi y v h1 h2 h3=> ?_⟩,λy c h=> ?_,e0.hok.fresh (ai _),λy c h=>(C.cell y c h).2,λp hp=>absurd (show p∈([]:List _) from hp) (by simp),e0.hok.kept hk,by rw[bw];exact C.len⟩
 ·rcases hy with hy | hy
  ·exact absurd rfl (S.nocell _ (be hy))
  ·exact C.has _ (be hy) rfl
 ·cases i with
  | zero=>
   have h1:N[0]? =some y:=h1;rw[h0]at h1;cases h1;rw[List.getElem?_set_self' ]at h2;have h2:v0=v:=by
    cases z:σ[0]? with
    | none=>rw[z]at h2;cases h2
    | some _=>rw[z]at h2;exact aD (aD h2)
   subst h2;exact⟨u0,r0,.inl ⟨hx,hm⟩⟩
  | succ i=>
   rw[aE (by omega)]at h2
   obtain⟨u,c,r,e,ic,k⟩:=C.loc (i+1) y v h1 h2;exact⟨u,r,.inr ⟨.inr k,c,e,wu bk ic⟩⟩
 ·obtain⟨v,ic⟩:=(C.cell y c h).1;exact⟨v,wu bk ic⟩
theorem QG {k:Nat}{params:Arguments}{body:Expr}{pm ctv:Value}{c' :Addr}{σ:L2.St}{Q:VK}{te:TE}{v0:V}{u0:Value}(S:LSc scope)(hr:jg (k+1) A)(e0:vn P w K mg base A outer s H)(C:Y7 base H scope clos N σ)(hN:N.Nodup)(h0:N[0]? =some x0)(hx:scope.names.lookup x0=some .local)(r0:zU v0 u0)
  (hf:H f=some (.frz (K8 q params body scope clos pm ctv c') (.own f))) (hc:wZ H q c') (hp:bindArgs (kla_fn "<lambda>" q params body scope clos pm (.ref c') ctv) ⟨[u0],[]⟩=pure [(x0,u0)])
  (hb:PE (cxL P w K mg base N q scope f (.ref c') clos A outer s H E) body te) (ht:te (σ.set 0 (some v0)) H Q):
  codeAny (model P w) A (.call (.ref f) ⟨[u0],[]⟩) (CR (CX1 P w) outer P w H s Q E) s:=by
 have lim:=e0.mod.nolimit.keeps λb o e=>(e0.bs b o e).1;refine kla_callFunE hr.depth (e0.hok f _ hf).1 rfl S.co S.gen rfl (hc.rec e0.hok) ?_;rw[hp];refine am (wpAny_newFunctionEnv S.nocell (λy hy=>by rw[aA.mp hy];exact hx) (λh1 hns hsb=> ?_) S.kind)
 have hk:=λb o e=>hsb.extBut b o (aC (ao e)) (af _ e);refine⟨lim.keeps hk, ?_⟩;have I:=QF (q:=q) (f:=f) (cd:= .ref c') (E:=E) (tk:=s.toks+[(x0,u0)].length) S hr.hd e0 C hN h0 hx r0 (by simp) hns hk
 exact kla_codeExpr (cx (hb [] _ _ H Q I ht) (λv s' ⟨x,H',J,r,q⟩=>⟨x,H',J.os,J.bare,J.base,J.hok,r,q⟩) λ_ _ z=>z)
end
section
variable {X:Cx}{Y:Fx}
theorem xr {pins:List (Addr×Obj)}{σ:Sg}{H:Hp}{s:Shared}{scope:Scope}{clos:List (Str×Addr)}{N' :List Str}{js:List Nat}(I:L2.Inv X pins σ H s)(hfn:∀x,X.fn x=true)(hcl:∀x c,clos.lookup x=some c->X.env.cells.lookup x=some c)
  (hcf:∀x∈scope.names,x.2=NameKind.free->∃c,clos.lookup x.1=some c) (CP:gq X scope N' 1 js):Y7 (vN s H (frs X.stack)) H scope clos N' (uG 1 js σ):=by
 have up:∀x c,X.env.cells.lookup x=some c->∀v,s.heap.IsCell c v->(vN s H _).IsCell c v:=λx c e v ⟨o,ho,hd⟩=>⟨o,uO ho (I.freeC x c e) λhb=>by
  rcases ah.mp (I.stkSub c hb) with z | z
  ·exact I.cne x c e z
  ·obtain⟨_,o2,e2,_⟩:=I.ok.funs.mem z;exact absurd (ao e2) (Nat.not_lt.mpr (I.ok.cab x c (hfn x) e)),hd⟩
 refine⟨λx y c h1 h2=>I.ok.inj x y c (hcl _ _ h1) (hcl _ _ h2),hcf,λx c e=>⟨?_,I.freeC x c (hcl x c e)⟩,λi x v h1 h2=> ?_,by unfold uG;simp[CP.len,df]⟩
 ·obtain⟨v,ic⟩:=I.cell x c (hcl x c e);exact⟨v,up x c (hcl x c e) v ic⟩
 ·cases i with
  | zero=>cases h2
  | succ i=>
  have h2:(js.map λj=>(σ[j]?).getD none)[i]? =some (some v):=h2;rw[aj]at h2;cases ej:js[i]? with
  | none=>rw[ej]at h2;cases h2
  | some j=>
   rw[ej]at h2;have h2' :(σ[j]?).getD _=some v:=aD h2;have hσ:σ[j]? =some (some v):=by
    cases ez:σ[j]? with
    | none=>rw[ez]at h2';cases h2'
    | some z=>rw[ez]at h2';exact congrArg _ h2'
   obtain⟨y,e1,e2,e3,e4,e5⟩:=CP.cap i j ej;rw[df,h1]at e1;cases e1;obtain⟨m,hn,hlo⟩:=I.loc;obtain⟨u,ru,lk⟩:=hlo j x v e2 hσ e3;obtain⟨c,ec⟩:=hcf _ (be e4) rfl;rcases lk with ⟨k,_⟩ | ⟨_,c2,e6,ic⟩
   ·rcases e5 with z | z <;> (rw[k]at z;cases z)
   ·have:=hcl x c ec;rw[e6]at this;cases this;exact⟨u,c,ru,ec,up x c e6 _ ic,e4⟩
noncomputable def jt (k:Int)(t:T):List Int->List T->T
 | k' :: ks,t' :: ts=>if k' < k then jt k' t' ks ts else jt k t ks ts
 | _,_=>t
noncomputable def W0 (f:T->R T):List T->Option (List Int)
 | []=>some []
 | t :: ts=>match f t,W0 f ts with
  | .ok (.int k),some ks=>some (k :: ks)
  | _,_=>none
noncomputable def Yb (js:List Nat)(fe fa fb:En->R T):En->R T:=λρ=>(fa ρ).bind λt=>(fb ρ).bind λu=>match t with
 | .lst []=> .ok u
 | .lst (t :: ts)=>(match W0 (λt=>fe ((w8 1 js ρ).set 0 (.vl t))) (t :: ts) with | some (k :: ks)=> .ok (jt k t ks ts) | _=> .bad)
 | _=> .bad
theorem uP {f:T->R T}:∀{ts:List T} {ks:List Int},W0 f ts=some ks->ks.length=ts.length/\∀(i:Nat) (t:T),ts[i]? =some t->∃k,ks[i]? =some k/\f t= .ok (.int k)
 | [],ks,h=>by cases h;exact⟨rfl,λi t e=>by simp at e⟩
 | t :: ts,ks,h=>by
  unfold W0 at h;split at h
  ·rename_i k l e1 e2;cases h;obtain⟨h1,h2⟩:=uP e2;refine⟨by simp[h1],λi u e=> ?_⟩
   cases i with
   | zero=>cases e;exact⟨k,rfl,e1⟩
   | succ i=>exact h2 i u e
  ·cases h
noncomputable abbrev Lst1 (kf:Nat->Int)(n i:Nat):Prop:=∀j,j < n->kf i<=kf j/\(j < i->kf i < kf j)
theorem W1:∀(ks:List Int) (ts:List T) (k:Int) (t:T) (n m:Nat) (kf:Nat->Int),ks.length=ts.length->m < n->kf m=k->(∀j,j < n->kf m<=kf j/\(j < m->kf m < kf j))->(∀j q,ks[j]? =some q->kf (n+j)=q)->
  ∃i,(i=m/\jt k t ks ts=t\/∃j,i=n+j/\ts[j]? =some (jt k t ks ts))/\∀j,j < n+ks.length->kf i<=kf j/\(j < i->kf i < kf j)
 | [],ts,k,t,n,m,kf,hl,hm,hk,hb,hq=>⟨m,.inl ⟨rfl,by unfold jt;rfl⟩,λj hj=>hb j (by simpa using hj)⟩
 | k' :: ks,[],k,t,n,m,kf,hl,_,_,_,_=>by simp at hl
 | k' :: ks,t' :: ts,k,t,n,m,kf,hl,hm,hk,hb,hq=>by
  have e0:=hq 0 k' rfl;rw[Nat.add_zero]at e0;have hq' :∀j q,ks[j]? =some q->kf (n+1+j)=q:=λj q e=>by have:=hq (j+1) q e;rw[← this];congr 1;omega
  have hl' :ks.length=ts.length:=by simpa using hl
  unfold jt
  by_cases c:k' < k
  ·rw[if_pos c];obtain⟨i,h1,h2⟩:=W1 ks ts k' t' (n+1) n kf hl' (by omega) e0 (λj hj=>by
    by_cases z:j=n
    ·subst z;exact⟨eA _,λz=>by omega⟩
    ·have:=hb j (by omega);exact⟨by omega,λ_=>by omega⟩) hq'
   refine⟨i, ?_,λj hj=>h2 j (by rw[ar]at hj;omega)⟩
   rcases h1 with ⟨z1,z2⟩ | ⟨j,z1,z2⟩
   ·exact .inr ⟨0,z1,by rw[z2];rfl⟩
   ·exact .inr ⟨j+1,by omega,z2⟩
  ·rw[if_neg c];obtain⟨i,h1,h2⟩:=W1 ks ts k t (n+1) m kf hl' (by omega) hk (λj hj=>by
    by_cases z:j=n
    ·subst z;exact⟨by omega,λz=>by omega⟩
    ·exact hb j (by omega)) hq'
   refine⟨i, ?_,λj hj=>h2 j (by rw[ar]at hj;omega)⟩
   rcases h1 with z | ⟨j,z1,z2⟩
   ·exact .inl z
   ·exact .inr ⟨j+1,by omega,z2⟩
noncomputable def MK (X:Cx)(σ:Sg)(l f:V)(u:V)(Q:VK)(H3:Hp):Prop:=∃(a g:Addr) (xs:List V) (kf:Nat->Int),(l= .ref a/\f= .ref g)/\H3 a=some (.lst xs)/\
 (∀(i:Nat) (x:V) (u:Value),xs[i]? =some x->zU x u->∀(pn:List (Addr×Obj)) (s:Shared) (H' :Hp),Inv X pn σ H' s->zm H3 H' ->
  wpAny (model X.prog X.w) X.A.in1 (call (.ref g) [u]) (λu s' =>∃t H2,u= .int (kf i) t/\Inv X pn σ H2 s' /\zm H' H2) (λ_ _=>False) s)/\
 (xs=[]->Q u H3)/\∀(i:Nat) (x:V) (H' :Hp),xs[i]? =some x->Lst1 kf xs.length i->zm H3 H' ->Q x H'
theorem xt {a b:Expr}{params:Arguments}{body:Expr}{scope:Scope}{lp p pos kp kp2:Pos}{ta tb tl:TE}(hh:X.A.handled=none)(gl:Gl X "min")(mg:X.mg "min"=none)(ha:PE X a ta)(hl:PE X (.Lambda params body scope lp) tl)(hb:PE X b tb)(hs:St1 X a):
  PE X (.Call (.Name "min" p) [a] [⟨some "key",.Lambda params body scope lp,kp⟩,⟨some "default",b,kp2⟩] pos) (λσ H Q=>ta σ H λv H1=>tl σ H1 λg H2=>tb σ H2 λu H3=>([v].length=1/\[g,u].length=2)/\MK X σ v g u Q H3):=by
 intro pins s σ H Q I h;refine bU (ZP I gl mg PyProof.Rows.Boot.«min» ?_ (by decide) (by decide))
 refine callWith_kw (thn (zy ha zX hs pos _ s σ H (λvs H1=>tl σ H1 λg H2=>tb σ H2 λu H3=>(vs.length=1/\[g,u].length=2)/\MK X σ (vs.headD .non) g u Q H3) I h) λus s1 ⟨vs,H1,I1,r1,q1⟩=> ?_) (by rw[hs];rfl) (by rw[hs];rfl) rfl rfl
 refine thn (yf hl (yf hb XI) pos _ s1 σ H1 (λzs H3=>(vs.length=1/\zs.length=2)/\MK X σ (vs.headD .non) (zs.headD .non) (zs.tail.headD .non) Q H3) I1 q1) λws s2 ⟨zs,H3,I3,rz,⟨l1,l2⟩,a,g,xs,kf,⟨e1,e2⟩,hx,turn,q0,qn⟩=> ?_
 match vs,r1,l1,e1,zs,rz,l2,e2,q0 with
 | [v],r1,_,e1,[y,z],rz,_,e2,q0=>
 obtain rfl:v= .ref a:=e1;obtain rfl:y= .ref g:=e2;obtain⟨u,rfl,ru⟩:=Zx r1;obtain rfl:u=Value.ref a:=ru;obtain⟨wy,wz,rfl,ry,rz'⟩:∃wy wz,ws=[wy,wz]/\zU (.ref g) wy/\zU z wz:=by
  cases rz with
  | cons r1 r2=>
   cases r2 with
   | cons r2 r3=>cases r3;exact⟨_,_,rfl,r1,r2⟩
 obtain rfl:wy=Value.ref g:=ry;exact xq (xs:=xs) kf hh I3 (λH' s' J sm=>let ⟨_,its,n,rv,_,ho⟩:=J.lstM (sm _ _ hx);⟨its,rv,_,ho,rfl,n,rfl⟩) (λi x v hv rx pn s' H' J sm=>turn i x v hv rx _ s' H' J sm) (λhn s' J=>⟨z,H3,J,rz',q0 hn⟩)
  λi x v H' s' hv rx hbest J sm=>⟨x,H',J,rx,qn i x H' hv hbest sm⟩
theorem Kb {cl:Nat->Value}{kE k:Nat}{q x0:Str}{c P:Addr}{a b:Expr}{params:Arguments}{body:Expr}{scope:Scope}{lp p pos kp kp2:Pos}{js:List Nat}{fe fa fb:En->R T}(hy:Y.cl=cl)(L:Lm X c P q)(hT:Y.H0 P=some (.tbl #[] q))(hfn:∀x,X.fn x=true)
  (hr:jg k X.A) (hj:kE+2<=k) (gl:Gl X "min") (mg:X.mg "min"=none) (ha:Snd X Y a fa) (hfb:Snd X Y b fb)
  (N' N:List Str) (sc0:Scope) (hN:X.N=N) (h0:X.env.scope=sc0) (hck:(kJ scope sc0 && kK N N' scope sc0 1 js)=true) (hco:scope.isCoroutine=false) (hge:scope.isGenerator=false) (hnd:N'.Nodup) (hx0:N'[0]? =some x0) (hlx:scope.names.lookup x0=some .local)
  (hb:∀(base:Heap) (A:Around) (outer:List Env) (s:Shared) (H:Hp) (E:XK) (f c' :Addr) (clos:List (Str×Addr)) (Y' :Fx),X.K.In base->Y'.cl=cl->Y'.E=E->jg kE (A.deeper (envX q scope s.heap.objs.size f (.ref c') clos))->Snd (cxL X.prog X.w X.K X.mg base N' q scope f (.ref c') clos A outer s H E) Y' body fe)
  (hp:∀(clos:List (Str×Addr)) (pm cd ctv u:Value),bindArgs (kla_fn "<lambda>" q params body scope clos pm cd ctv) ⟨[u],[]⟩=pure [(x0,u)]:=by intros;rfl) (hdef:defaultsOf params X.env=([],[]):=by rfl) (hs:St1 X a:=by exact st1 rfl):
  Snd X Y (.Call (.Name "min" p) [a] [⟨some "key",.Lambda params body scope lp,kp⟩,⟨some "default",b,kp2⟩] pos) (Yb js fe fa fb):= .mk λρ=>by
 intro pins s σ H Q I ⟨B,J,po⟩;subst hy;rw[ac]at hck;have CS:=vG sc0 h0 hck.1;have CP:=yM N sc0 hN h0 hck.2;have S:LSc _:=⟨CS.kind,hco,hge,CS.nocell⟩;obtain⟨clos,ecl,hcl,hcf⟩:=yE λx hx hf=>I.ok.has x.1 (CS.fre x hx hf);refine xt hr.hd gl mg (ha ρ) (K9 (body:=body) (pos:=lp) L hdef ecl) (hfb ρ) hs pins s σ H Q I ?_;refine step J po λt v H1 _ s1 r1 I1 q1=>⟨I1.sH _ _ hT,λf c' pm ctv H2 s2 hf hc=> ?_⟩;have I2:=I1.grow s2;refine step I2 (xm I1.sB s2 q1) λt' v' H3 _ s3 r3 I3 q3=>⟨⟨rfl,rfl⟩, ?_⟩;have r1:=(r1.mono (zO.ge I1.sB s2)).mono (zO.ge I2.sB s3);cases r1 with
 | @lst l xs ts h r=>
  have hx:=I3.sB _ _ h;cases ts with
  | nil=>
   refine⟨l,f,xs,λ_=>0,⟨rfl,rfl⟩,hx,λi x u e _=> ?_,λ_=>po0 I3.sB q3 rfl r3,λi x H' e=> ?_⟩
   ·cases r;simp at e
   ·cases r;simp at e
  | cons t0 ts=>
   have q3:Po Y rC _ H3 (match W0 (λt=>fe ((w8 1 js ρ).set 0 (.vl t))) (t0 :: ts) with | some (k :: ks)=> .ok (jt k t0 ks ts) | _=> .bad) Q:=q3
   split at q3
   ·rename_i k0 ks ek;obtain⟨hl,hk⟩:=uP ek;refine⟨l,f,xs,λi=>((k0 :: ks)[i]?).getD 0,⟨rfl,rfl⟩,hx,λi x u e ru pn s' H' I' sm=> ?_,λhn=>(by subst hn;cases r),λi x H' e hbest sm=> ?_⟩
    ·obtain⟨t,et,rt⟩:=r.getV e;obtain⟨kk,ekk,fk⟩:=hk i t et;have hrm:jg (kE+1) X.A.in1:=⟨hr.hd,by have:=hr.dp;show X.A.depth+3*(kE+1)+5 < _;omega,by have:=hr.un;show X.A.units+1+16*(kE+1)+200 < _;omega,hr.gd⟩
     have e0:=I'.big;have e0' :vn X.prog X.w X.K X.mg (vN s' H' (frs X.stack)) X.A.in1 X.stack s' H' :=⟨e0.frames,e0.mod,e0.bs,e0.bsz,e0.funs,e0.frf,e0.hok,e0.bare⟩;refine wpAny_call (db (QG (te:=tS ⟨_,H',λ_ _ _=>False,Y.cl,[]⟩ rC fe ((w8 1 js ρ).set 0 (.vl t))) (Q:=λv H2=>v= .int kk/\zm H' H2) (E:=λ_ _ _=>False) S hrm e0' (xr I' hfn hcl hcf CP) hnd hx0 hlx ru (sm _ _ (s3 _ _ hf)) (hc.mono (s3.trans sm)) (hp _ pm _ ctv _)
      ((hb _ X.A.in1 _ s' H' _ f c' _ ⟨_,H',λ_ _ _=>False,Y.cl,[]⟩ e0.mod.kin rfl rfl (hrm.deeper _)) _) ⟨_,((I3.grow sm).blockS 1 js _ (zm.refl _)).setV 0 (rt.mono (zO.ge I3.sB sm)), ?_⟩) λr s2 hq=> ?_)
     ·rw[fk];exact λv H2 s4 r4=>⟨by cases r4;rfl,s4⟩
     ·cases r with
      | error e=>
       obtain⟨_,_,_,_,_,_,_,z⟩:=hq;exact z.elim
      | ok fl=>
       cases fl with
       | ret u=>
        obtain⟨v,H2,I2,rv,rfl,sm2⟩:=I'.after hq;obtain⟨t,rfl⟩:=rv;exact⟨t,H2,by dsimp only;rw[ekk];rfl,I2,sm2⟩
       | next=>exact bL hq
       | brk=>exact bL hq
       | cont=>exact bL hq
    ·have hlt:ks.length=ts.length:=by simpa using hl
     have hxl:xs.length=1+ks.length:=by rw[r.length,ar,hlt];omega
     obtain⟨i',w1,w2⟩:=W1 ks ts k0 t0 1 0 (λi=>((k0 :: ks)[i]?).getD 0) hlt (by omega) rfl (λj hj=>by
      obtain rfl:j=0:=by omega
      exact⟨eA _,λz=>by omega⟩) (λj q e=>by
      show ((k0 :: ks)[1+j]?).getD 0=q;rw[df,eV,e];rfl)
     have hi:=(ak.mp e).1;have hi' :i' < xs.length:=by
      rcases w1 with ⟨z,_⟩ | ⟨j,z,ej⟩
      ·omega
      ·have:=(ak.mp ej).1;omega
     obtain rfl:i=i' :=by
      have a1:=hbest i' hi';have a2:=w2 i (by omega)
      dsimp only at a1 a2;rcases Nat.lt_trichotomy i i' with z | z | z
      ·have:=a2.2 z;have:=a1.1;omega
      ·exact z
      ·have:=a1.2 z;have:=a2.1;omega
     obtain⟨t,et,rt⟩:=r.getV e;have htt:t=jt k0 t0 ks ts:=by
      rcases w1 with ⟨z,z2⟩ | ⟨j,z,ej⟩
      ·rw[z]at et;cases et;exact z2.symm
      ·rw[z,df,eV,ej]at et;exact(aD et).symm
     rw[htt]at rt;exact q3 x H' sm (rt.mono (zO.ge I3.sB sm))
   ·exact q3.elim
 | _=>exact q3.elim
end
section
variable {P:Program}{w:World}{K:ae}{mg:Str->Option Value}{base:Heap}
theorem Kc {cl:Nat->Value}{x qual q:Str}{st:Stmt}{f Pt:Addr}{fd:FuncData}{N ps:List Str}{k n:Nat}{fb:En->RS}{g:List T->R T}(F:Fun K x qual st f fd)(S:jn N ps (zk st))(hn:n=ps.length)
  (hb:∀(cdv:Value) (A:Around) (outer:List Env) (s:Shared) (H:Hp) (E:XK) (Y:Fx),Y.cl=cl->Y.E=E->Y.H0 Pt=some (.tbl #[] q)->jg k (A.deeper (envOfC qual (zk st) s.heap.objs.size f cdv))->
   WA (u8 (CX1 P w) P w K mg base N qual (zk st) f cdv A outer s H E) Y (Z1 st) fb)
  (hg:∀ts,ts.length=n->g ts=zi (fb (en0 N.length ts))):Wj P w K mg base (CX1 P w) (k+1) f fd ps (Y8 cl n g Pt q):=by
 subst hn;obtain⟨oc,od,kV,doc,pm,an,cdv,ct,osl,rfl,lk,hcd⟩:=F.ex;refine Vj lk hcd S (λvs H Q E z=>spP.len vs H Q E z.2) λA outer s H vs Q E hr ⟨hT,B,ts,hl,sB,r,q⟩=> ?_;refine⟨_,hb cdv A _ s H E ⟨B,H,E,cl,[]⟩ rfl rfl hT hr _,B,SI.start sB r, ?_⟩;rw[hg ts hl]at q;revert q;cases fb _ with
 | rt t=>exact λq v H' s r=>q v H' s r
 | rf t=>exact λq a xs H' B' s0 n e r _ l=>q _ H' s0 (.lst (by rw[Z6 n];exact e) (r.mono l))
 | nx ρ=>exact λq σ' H' B' _ I=>q _ H' I.sH .non
 | ex c=>exact λq=>q
 | bk ρ=>exact λq=>q.elim
 | ct ρ=>exact λq=>q.elim
 | bad=>exact λq=>q
end
noncomputable abbrev qlT (x:Str):Str:=x++".<locals>."++"<lambda>"
noncomputable abbrev FT (K:ae)(mg:Str->Option Value)(x:Str)(st:Stmt)(ps:List Str)(Pt:Addr):Prop:=∃f fd c,Fn K mg x st ps f fd/\fd.code= .ref c/\dC K c Pt=true
noncomputable abbrev qT (Z:Zz)(x:Str)(n k:Nat)(c:List T->R T)(Pt:Addr)(q:Str):Prop:=QQ x (CX1 Z.P Z.w) k (Y8 Z.cl n c Pt q) Z
section
variable {Z:Zz}{x:Str}{st:Stmt}{ps:List Str}{k n m:Nat}{fb:En->RS}{f:Addr}{fd:FuncData}{Pt:Addr}{q:Str}
theorem okT (C:FT Z.K Z.mg x st ps Pt)(hBT:Z.base.BuiltinsAt Z.mg Pt)(N:List Str) (hb:∀(f c:Addr) (A:Around) (outer:List Env) (s:Shared) (H:Hp) (E:XK) (Y:Fx),Lm (u8 (CX1 Z.P Z.w) Z.P Z.w Z.K Z.mg Z.base N x (zk st) f (.ref c) A outer s H E) c Pt (qlT x)->Y.H0 Pt=some (.tbl #[] (qlT x))->Y.cl=Z.cl->Y.E=E->jg k (A.deeper (envOfC x (zk st) s.heap.objs.size f (.ref c)))->N.Nodup->ji (CX1 Z.P Z.w) (u8 (CX1 Z.P Z.w) Z.P Z.w Z.K Z.mg Z.base N x (zk st) f (.ref c) A outer s H E) Y.E->
   WA (u8 (CX1 Z.P Z.w) Z.P Z.w Z.K Z.mg Z.base N x (zk st) f (.ref c) A outer s H E) Y (Z1 st) fb)
  (S:Sc N ps st:=by refine⟨rfl,rfl,rfl, ?_,rfl, ?_, ?_⟩ <;> decide+kernel) (hn:n=ps.length:=by rfl) (hm:m=N.length:=by rfl):qT Z x n (k+1) (oP m fb) Pt (qlT x):=by
 obtain⟨f,fd,c,C,ec,hd⟩:=C;subst hm;exact⟨_,_,f,fd,C,Ka C.F ec S hn (λA outer s H E Y hy hE hT hr=>hb f c A outer s H E Y ⟨rfl,hd,hBT,rfl⟩ hT hy hE hr S.nd (hE ▸ XT)) λ_ _=>rfl⟩
theorem okLT (C:Fn Z.K Z.mg x st ps f fd)(N:List Str) (hb:∀(cdv:Value) (A:Around) (outer:List Env) (s:Shared) (H:Hp) (E:XK) (Y:Fx),Y.H0 Pt=some (.tbl #[] q)->Y.cl=Z.cl->Y.E=E->jg k (A.deeper (envOfC x (zk st) s.heap.objs.size f cdv))->N.Nodup->ji (CX1 Z.P Z.w) (u8 (CX1 Z.P Z.w) Z.P Z.w Z.K Z.mg Z.base N x (zk st) f cdv A outer s H E) Y.E->
   WA (u8 (CX1 Z.P Z.w) Z.P Z.w Z.K Z.mg Z.base N x (zk st) f cdv A outer s H E) Y (Z1 st) fb)
  (S:Sc N ps st:=by refine⟨rfl,rfl,rfl, ?_,rfl, ?_, ?_⟩ <;> decide+kernel) (hn:n=ps.length:=by rfl) (hm:m=N.length:=by rfl):Wj Z.P Z.w Z.K Z.mg Z.base (CX1 Z.P Z.w) (k+1) f fd ps (Y8 Z.cl n (oP m fb) Pt q):=by
 subst hm;exact Kc C.F S hn (λcdv A outer s H E Y hy hE hT hr=>hb cdv A outer s H E Y hT hy hE hr S.nd (hE ▸ XT)) λ_ _=>rfl
end
section
variable {X:Cx}{Y:Fx}{cl:Nat->Value}{k j n:Nat}{g:List T->R T}{x q:Str}{Pt:Addr}{a b:Expr}{es:List Expr}{ga:En->R (List T)}{p pos:Pos}
theorem cT (hT:Y.H0 Pt=some (.tbl #[] q))(hy:Y.cl=cl)(hp:ji (CX1 X.prog X.w) X Y.E)(O:QQ x (CX1 X.prog X.w) j (Y8 cl n g Pt q) ⟨X.prog,X.w,X.K,X.mg,X.base,cl⟩)(hr:jg k X.A)(ha:uC X Y (a :: es) ga)(hj:j<=k:=by omega)(gl:Gl X x:=by rfl)(hd:(x == ("__debug__":Str))=false:=by decide)
  (hs:starEach (a :: es) X.env=(false,eval a X.env) :: starEach es X.env:=by exact Zc rfl) (hz:((backTo pos (starEach es X.env)).any λx=>x.fst)=false:=by exact ja rfl):Snd X Y (.Call (.Name x p) (a :: es) [] pos) (za n g ga):=by
 subst hy;refine O.go λ_ _ _ _ C F=> .mk λρ=>PE.imp (ye F (hr.mono hj) gl C.m C.F.kp C.b .nil hp (ha ρ) hd hs hz) λσ H Q ⟨B,I,q⟩=>step I q λts vs H1 _ s1 r1 I1 q1=> ?_;split at q1
 ·rename_i hn;rw[bA];refine⟨I1.sH _ _ hT,_,ts,hn,I1.sB,r1, ?_⟩;revert q1;cases g ts with
  | ok t=>exact λq=>q
  | bad=>exact λq=>q
  | ex c=>exact λq d H' s s' =>q d H' (I1.sH.trans s) s'
 ·exact q1.elim
theorem mK {c:Addr}{kE:Nat}{x0:Str}{params:Arguments}{body:Expr}{scope:Scope}{lp kp kp2:Pos}{js:List Nat}{fe fa fb:En->R T}(L:Lm X c Pt q)(hT:Y.H0 Pt=some (.tbl #[] q))(hy:Y.cl=cl)(hr:jg k X.A)(mg:X.mg "min"=none)
  (h:X8 X.N (x0 :: nms X.N js) X.env.scope scope 1 js=true) (hx:((scope.names.lookup x0 == some .local) && !scope.isCoroutine && !scope.isGenerator)=true) (ha:Snd X Y a fa) (hfb:Snd X Y b fb)
  (hb:∀(base:Heap) (A:Around) (outer:List Env) (s:Shared) (H:Hp) (E:XK) (f c' :Addr) (clos:List (Str×Addr)) (Y' :Fx),X.K.In base->Y'.cl=cl->Y'.E=E->jg kE (A.deeper (envX q scope s.heap.objs.size f (.ref c') clos))->Snd (cxL X.prog X.w X.K X.mg base (x0 :: nms X.N js) q scope f (.ref c') clos A outer s H E) Y' body fe)
  (hj:kE+2<=k:=by omega) (gl:Gl X "min":=by rfl) (hfn:∀x,X.fn x=true:=by exact λ_=>rfl)
  (hp:∀(clos:List (Str×Addr)) (pm cd ctv u:Value),bindArgs (kla_fn "<lambda>" q params body scope clos pm cd ctv) ⟨[u],[]⟩=pure [(x0,u)]:=by intros;rfl) (hdef:defaultsOf params X.env=([],[]):=by rfl) (hs:St1 X a:=by exact st1 rfl):
  Snd X Y (.Call (.Name "min" p) [a] [⟨some "key",.Lambda params body scope lp,kp⟩,⟨some "default",b,kp2⟩] pos) (Yb js fe fa fb):=by
 rw[X8,ac]at h;rw[ac,ac]at hx;exact Kb hy L hT hfn hr hj gl mg ha hfb _ _ _ rfl rfl h.1 (by simpa using hx.1.2) (by simpa using hx.2) (WI h.2) rfl (eq_of_beq hx.1.1) hb hp hdef hs
end
end PV
namespace G
open PySem PySem.Spec PyProof.Rows L2 PV
noncomputable def b_1g:En->RS:=
  zj (ifS (zh ltC (vB 1) (ap1 zY (vB 0))) (zo (zc ixT (vE 0) (vE 1))) (nxS))
  (zj (ifS (zh eqC (vB 0) (Zt (zd))) (zo (cE (.int 0))) (nxS))
  (zo (zc zv (zc zP (zc ixT (vE 0) (zc jj (vE 1) (ap1 zY (vB 0)))) (cE (.int 31))) (vE 1))))
noncomputable def Ke:List T->R T:=λts=>zi (b_1g  (en0 2 ts))
noncomputable def b_4 (c_1g:List T->R T):En->RS:=
  zj (zz 3 (zc jj (zc zP (zc zv (za 2 c_1g (z9 (vE 0) (z9 (vE 1) (zd)))) (zc zP (cE (.int 6151)) (zc zv (vE 1) (cE (.int 1))))) (cE (.int 40692))) (cE (.int 2147483399))))
  (zo (zc jj (zc jj (zc zv (zc zP (vE 3) (vE 3)) (zc JD (vE 3) (cE (.int 31)))) (cE (.int 2147483629))) (vE 2)))
noncomputable def f_4:List T->R T:=λts=>zi (b_4 (Ke) (en0 4 ts))
noncomputable def gw (c_4:List T->R T):En->RS:=
  zj (zz 2 (cE (.str "abcdefghijklmnopqrstuvwxyz")))
  (zj (ifS (zh gtC (za 3 c_4 (z9 (vE 0) (z9 (vE 1) (z9 (cE (.int 6)) (zd))))) (cE (.int 0))) (zo (zc ixT (Zt (z9 (cE (.str "a")) (z9 (cE (.str "b")) (z9 (cE (.str "ab")) (z9 (cE (.str "cab")) (zd)))))) (za 3 c_4 (z9 (vE 0) (z9 (zc zv (vE 1) (cE (.int 1))) (z9 (cE (.int 4)) (zd))))))) (nxS))
  (zo (ap1 (kG "") (zF (Zy (zc zv (cE (.int 1)) (za 3 c_4 (z9 (vE 0) (z9 (zc zv (vE 1) (cE (.int 1))) (z9 (cE (.int 3)) (zd))))))) (zl 0) (zN) (zc ixT (vE 3) (za 3 c_4 (z9 (vE 1) (z9 (zc zv (zc zv (vE 2) (cE (.int 2))) (vE 0)) (z9 (cE (.int 26)) (zd)))))) 1 [0,1,2]))))
noncomputable def X9:List T->R T:=λts=>zi (gw (f_4) (en0 3 ts))
noncomputable def gx (c_4:List T->R T)(c_12:List T->R T):En->RS:=
  zj (ifS (zh gtC (za 3 c_4 (z9 (vE 0) (z9 (vE 1) (z9 (cE (.int 3)) (zd))))) (cE (.int 0))) (zj (zz 2 (zc jP (za 3 c_4 (z9 (vE 0) (z9 (zc zv (vE 1) (cE (.int 1))) (z9 (cE (.int 7)) (zd))))) (cE (.int 3))))
  (zj (ifS (zh eqC (za 3 c_4 (z9 (vE 0) (z9 (zc zv (vE 1) (cE (.int 3))) (z9 (cE (.int 8)) (zd))))) (cE (.int 0))) (zz 2 (zc ixT (Zt (z9 (Q6 (cE (.int 20))) (z9 (cE (.int 17)) (z9 (cE (.int 20)) (zd))))) (za 3 c_4 (z9 (vE 0) (z9 (zc zv (vE 1) (cE (.int 4))) (z9 (cE (.int 3)) (zd))))))) (nxS))
  (zo (zW (z9 (cE (.str "whole")) (z9 (vE 2) (z9 (zc jB (cE (.int 20)) (zc zv (vE 2) (za 3 c_4 (z9 (vE 0) (z9 (zc zv (vE 1) (cE (.int 2))) (z9 (cE (.int 4)) (zd))))))) (zd)))))))) (nxS))
  (zj (UQ 3 (zd))
  (zj (jp (Zy (zc zv (cE (.int 1)) (za 3 c_4 (z9 (vE 0) (z9 (zc zv (vE 1) (cE (.int 1))) (z9 (cE (.int 4)) (zd))))))) (zl 4) (zj (zz 5 (za 2 c_12 (z9 (vE 0) (z9 (zc zv (zc zv (vE 1) (cE (.int 5))) (zc zP (cE (.int 5)) (vE 4))) (zd)))))
  (ifS (zh Uv (vB 5) (vB 3)) (Qd 3 (vE 5)) (nxS))))
  (zo (zW (z9 (cE (.str "pick")) (z9 (ap1 X5 (zF (VR (vE 3)) (zK 0 1) (zN) (zW (z9 (vE 1) (z9 (zc zv (cE (.int 1)) (za 3 c_4 (z9 (vE 2) (z9 (zc zv (zc zv (vE 3) (cE (.int 30))) (vE 0)) (z9 (cE (.int 20)) (zd)))))) (zd)))) 2 [0,1])) (zd)))))))
noncomputable def Kf:List T->R T:=λts=>zi (gx (f_4) (X9) (en0 6 ts))
noncomputable def b_j (c_4:List T->R T)(c_14:List T->R T)(c_j:List T->R T):En->RS:=
  zj (zz 3 (za 3 c_4 (z9 (vE 0) (z9 (vE 1) (z9 (cE (.int 5)) (zd))))))
  (zj (ifS (orT (zh eqC (vB 2) (cE (.int 1))) (zh ltC (vB 3) (cE (.int 2)))) (zo (za 2 c_14 (z9 (vE 0) (z9 (zc zv (vE 1) (cE (.int 1))) (zd))))) (nxS))
  (zj (ifS (zh ltC (vB 3) (cE (.int 4))) (zj (zz 4 (zF (Zy (zc zv (cE (.int 1)) (za 3 c_4 (z9 (vE 0) (z9 (zc zv (vE 1) (cE (.int 1))) (z9 (cE (.int 3)) (zd))))))) (zl 0) (zN) (za 3 c_j (z9 (vE 1) (z9 (zc zv (zc zv (zc zP (cE (.int 3)) (vE 2)) (cE (.int 40))) (zc zP (cE (.int 50)) (vE 0))) (z9 (zc jP (vE 3) (cE (.int 1))) (zd))))) 1 [0,1,2]))
  (zo (zW (z9 (cE (.str "row")) (z9 (ap1 X5 (vE 4)) (zd)))))) (nxS))
  (zj (zz 5 (za 3 c_4 (z9 (vE 0) (z9 (zc zv (vE 1) (cE (.int 1))) (z9 (cE (.int 3)) (zd))))))
  (zo (zW (z9 (cE (.str "many")) (z9 (za 3 c_j (z9 (vE 0) (z9 (zc zv (zc zP (cE (.int 3)) (vE 1)) (cE (.int 40))) (z9 (zc jP (vE 2) (cE (.int 1))) (zd))))) (z9 (vE 5) (z9 (zc jB (cE (.int 3)) (zc zv (vE 5) (za 3 c_4 (z9 (vE 0) (z9 (zc zv (vE 1) (cE (.int 2))) (z9 (cE (.int 3)) (zd))))))) (zd))))))))))
noncomputable def S_j:Nat->Nat->List T->R T
 | 0,_=>λ_=> .bad
 | n+1,_=>λts=>zi (b_j (f_4) (Kf) (S_j n 0) (en0 6 ts))
noncomputable abbrev f_j (n:Nat):List T->R T:=S_j n 0
noncomputable def b_g:En->RS:=
  zj (zz 1 (Zt (z9 (zW (zd)) (zd))))
  (zj (jp (Zs (vE 0)) (zl 2) (zj (UQ 3 (zd))
  (zj (jp (Zs (vE 1)) (zl 4) (qK 3 (zF (Zs (vE 2)) (zl 0) (zN) (zc zv (vE 1) (zW (z9 (vE 0) (zd)))) 1 [4])))
  (mvS 1 3))))
  (zo (vE 1)))
noncomputable def f_g:List T->R T:=λts=>zi (b_g  (en0 5 ts))
noncomputable def b_6 (c_6:List T->R T)(c_g:List T->R T):En->RS:=
  zj (ifS (zh eqC (zc ixT (vE 0) (cE (.int 0))) (cE (.str "whole"))) (zo (gr (Jl (zc ixT (vE 0) (cE (.int 1))) (zc zv (zc ixT (vE 0) (cE (.int 2))) (cE (.int 1)))))) (nxS))
  (zj (ifS (zh eqC (zc ixT (vE 0) (cE (.int 0))) (cE (.str "pick"))) (zo (zF (Zs (zc ixT (vE 0) (cE (.int 1)))) (zK 0 1) (zN) (vE 0) 2 [])) (nxS))
  (zj (ifS (zh eqC (zc ixT (vE 0) (cE (.int 0))) (cE (.str "row"))) (zo (za 1 c_g (z9 (zF (Zs (zc ixT (vE 0) (cE (.int 1)))) (zl 0) (zN) (za 1 c_6 (z9 (vE 0) (zd))) 1 []) (zd)))) (nxS))
  (zj (UQ 1 (zd))
  (zj (jp (Jl (zc ixT (vE 0) (cE (.int 2))) (zc zv (zc ixT (vE 0) (cE (.int 3))) (cE (.int 1)))) (zl 2) (qK 1 (za 1 c_g (z9 (zc zP (Zt (z9 (za 1 c_6 (z9 (zc ixT (vE 0) (cE (.int 1))) (zd))) (zd))) (vE 2)) (zd)))))
  (zo (vE 1))))))
noncomputable def S_6:Nat->Nat->List T->R T
 | 0,_=>λ_=> .bad
 | n+1,_=>λts=>zi (b_6 (S_6 n 0) (f_g) (en0 3 ts))
noncomputable abbrev f_6 (n:Nat):List T->R T:=S_6 n 0
noncomputable def b_f (c_6:List T->R T)(c_f:List T->R T):En->RS:=
  zj (ifS (zh inC (zc ixT (vE 0) (cE (.int 0))) (zW (z9 (cE (.str "whole")) (z9 (cE (.str "pick")) (zd))))) (zo (ap1 zY (za 1 c_6 (z9 (vE 0) (zd))))) (nxS))
  (zj (zz 1 (ifE (zh eqC (zc ixT (vE 0) (cE (.int 0))) (cE (.str "row"))) (zF (Zs (zc ixT (vE 0) (cE (.int 1)))) (zl 0) (zN) (za 1 c_f (z9 (vE 0) (zd))) 1 []) (Zt (zd))))
  (zj (zz 2 (cE (.int 1)))
  (zj (jp (Zs (vE 1)) (zl 3) (zz 2 (zc zP (vE 2) (vE 3))))
  (zj (ifS (zh eqC (zc ixT (vE 0) (cE (.int 0))) (cE (.str "many"))) (zj (zz 4 (za 1 c_f (z9 (zc ixT (vE 0) (cE (.int 1))) (zd))))
  (zj (zz 2 (zc zv (ap1 Wk (Zh eqC (zc ixT (vE 0) (cE (.int 2))) (cE (.int 0)))) (zc zP (vE 4) (ap1 Wk (chE leC leC (zc ixT (vE 0) (cE (.int 2))) (cE (.int 1)) (zc ixT (vE 0) (cE (.int 3))))))))
  (zj (zz 2 (zc zv (vE 2) (zc zP (zc zP (vE 4) (vE 4)) (ap1 Wk (chE leC leC (zc ixT (vE 0) (cE (.int 2))) (cE (.int 2)) (zc ixT (vE 0) (cE (.int 3))))))))
  (zz 2 (zc zv (vE 2) (zc zP (zc zP (zc zP (vE 4) (vE 4)) (vE 4)) (ap1 Wk (Zh eqC (zc ixT (vE 0) (cE (.int 3))) (cE (.int 3)))))))))) (nxS))
  (zo (vE 2))))))
noncomputable def S_f:Nat->Nat->List T->R T
 | 0,_=>λ_=> .bad
 | n+1,_=>λts=>zi (b_f (f_6 8) (S_f n 0) (en0 5 ts))
noncomputable abbrev f_f (n:Nat):List T->R T:=S_f n 0
noncomputable def gy (c_j:List T->R T)(c_f:List T->R T):En->RS:=
  zj (zz 3 (za 3 c_j (z9 (vE 0) (z9 (vE 1) (z9 (cE (.int 3)) (zd))))))
  (zj (jp (Zy (cE (.int 3))) (zl 4) (zj (ifS (zh leC (za 1 c_f (z9 (vE 3) (zd))) (vB 2)) (zo (vE 3)) (nxS))
  (zz 3 (za 3 c_j (z9 (vE 0) (z9 (zc zv (zc zv (vE 1) (cE (.int 500))) (zc zP (cE (.int 700)) (vE 4))) (z9 (cE (.int 2)) (zd))))))))
  (zo (ifE (zh leC (za 1 c_f (z9 (vE 3) (zd))) (vB 2)) (vE 3) (zW (z9 (cE (.str "whole")) (z9 (Q6 (cE (.int 1))) (z9 (cE (.int 2)) (zd))))))))
noncomputable def Xa:List T->R T:=λts=>zi (gy (f_j 8) (f_f 8) (en0 5 ts))
noncomputable def b_l (c_4:List T->R T)(c_l:List T->R T):En->RS:=
  zj (zz 3 (za 3 c_4 (z9 (vE 0) (z9 (vE 1) (z9 (cE (.int 9)) (zd))))))
  (zj (ifS (Wy (zh gtC (vB 2) (cE (.int 1))) (zh gtC (vB 3) (cE (.int 5)))) (zj (zz 4 (za 3 c_l (z9 (vE 0) (z9 (zc zv (zc zP (cE (.int 2)) (vE 1)) (cE (.int 11))) (z9 (zc jP (vE 2) (cE (.int 1))) (zd))))))
  (zj (ifS (zh eqC (vB 3) (cE (.int 6))) (zo (zW (z9 (cE (.str "no")) (z9 (vE 4) (zd))))) (nxS))
  (zo (zW (z9 (zc ixT (Zt (z9 (cE (.str "all")) (z9 (cE (.str "some")) (zd)))) (zc jP (vE 3) (cE (.int 7)))) (z9 (vE 4) (z9 (za 3 c_l (z9 (vE 0) (z9 (zc zv (zc zP (cE (.int 2)) (vE 1)) (cE (.int 24))) (z9 (zc jP (vE 2) (cE (.int 1))) (zd))))) (zd)))))))) (nxS))
  (zj (zz 5 (zc jP (za 3 c_4 (z9 (vE 0) (z9 (zc zv (vE 1) (cE (.int 1))) (z9 (cE (.int 9)) (zd))))) (cE (.int 4))))
  (zj (ifS (zh ltC (zc jj (vE 3) (cE (.int 6))) (cE (.int 2))) (zo (zW (z9 (cE (.str "sum")) (z9 (vE 5) (z9 (zc jP (zc zv (vE 5) (za 3 c_4 (z9 (vE 0) (z9 (zc zv (vE 1) (cE (.int 2))) (z9 (cE (.int 5)) (zd)))))) (cE (.int 1))) (zd)))))) (nxS))
  (zj (ifS (zh eqC (zc jj (vE 3) (cE (.int 6))) (cE (.int 2))) (zo (zW (z9 (cE (.str "size")) (z9 (za 3 c_4 (z9 (vE 0) (z9 (zc zv (vE 1) (cE (.int 1))) (z9 (cE (.int 3)) (zd))))) (z9 (za 3 c_4 (z9 (vE 0) (z9 (zc zv (vE 1) (cE (.int 2))) (z9 (cE (.int 4)) (zd))))) (zd)))))) (nxS))
  (zj (ifS (zh eqC (zc jj (vE 3) (cE (.int 6))) (cE (.int 3))) (zo (zW (z9 (cE (.str "word")) (z9 (zc ixT (Zt (z9 (cE (.str "a")) (z9 (cE (.str "b")) (z9 (cE (.str "ab")) (z9 (cE (.str "zz")) (zd)))))) (za 3 c_4 (z9 (vE 0) (z9 (zc zv (vE 1) (cE (.int 1))) (z9 (cE (.int 4)) (zd)))))) (zd))))) (nxS))
  (zo (ifE (zh eqC (zc jj (vE 3) (cE (.int 6))) (cE (.int 4))) (zW (z9 (cE (.str "rising")) (zd))) (zW (z9 (cE (.str "unlike")) (zd))))))))))
noncomputable def S_l:Nat->Nat->List T->R T
 | 0,_=>λ_=> .bad
 | n+1,_=>λts=>zi (b_l (f_4) (S_l n 0) (en0 6 ts))
noncomputable abbrev f_l (n:Nat):List T->R T:=S_l n 0
noncomputable def b_b:En->RS:=
  zo (ZS (ap1 (wO "int") (vB 0)) (qI (ap1 (wO "bool") (vB 0))))
noncomputable def f_b:List T->R T:=λts=>zi (b_b  (en0 1 ts))
noncomputable def gz (c_b:List T->R T):En->RS:=
  zo (ZS (za 1 c_b (z9 (vE 0) (zd))) (chE leC leC (Q6 (cE (.int 50))) (vB 0) (cE (.int 50))))
noncomputable def gA:List T->R T:=λts=>zi (gz (f_b) (en0 1 ts))
noncomputable def b_t:En->RS:=
  zj (ifS (orT (Jj (ZJ (ap1 (wO "str") (vB 0)))) (Jj (chT leC leC (cE (.int 1)) (ap1 zY (vB 0)) (cE (.int 3))))) (zo (cE (.bl false))) (nxS))
  (zo (ap1 qJ (zF (Zs (vE 0)) (zl 0) (zN) (chE leC leC (cE (.str "a")) (vB 0) (cE (.str "z"))) 1 [])))
noncomputable def f_t:List T->R T:=λts=>zi (b_t  (en0 1 ts))
noncomputable def b_p (c_t:List T->R T)(c_p:List T->R T)(c_1a:List T->R T):En->RS:=
  zj (ifS (orT (zh eqC (vB 1) (cE (.int 0))) (orT (Jj (ZJ (ap1 (wO "tuple") (vB 0)))) (zh eqC (ap1 zY (vB 0)) (cE (.int 0))))) (zo (cE (.bl false))) (nxS))
  (zj (ifS (orT (zh eqC (zc ixT (vE 0) (cE (.int 0))) (cE (.str "sum"))) (zh eqC (zc ixT (vE 0) (cE (.int 0))) (cE (.str "size")))) (zo (ZS (Zh eqC (ap1 zY (vB 0)) (cE (.int 3))) (ZS (za 1 c_1a (z9 (zc ixT (vE 0) (cE (.int 1))) (zd))) (za 1 c_1a (z9 (zc ixT (vE 0) (cE (.int 2))) (zd)))))) (nxS))
  (zj (ifS (zh eqC (zc ixT (vE 0) (cE (.int 0))) (cE (.str "word"))) (zo (ZS (Zh eqC (ap1 zY (vB 0)) (cE (.int 2))) (za 1 c_t (z9 (zc ixT (vE 0) (cE (.int 1))) (zd))))) (nxS))
  (zj (ifS (orT (zh eqC (zc ixT (vE 0) (cE (.int 0))) (cE (.str "rising"))) (zh eqC (zc ixT (vE 0) (cE (.int 0))) (cE (.str "unlike")))) (zo (Zh eqC (ap1 zY (vB 0)) (cE (.int 1)))) (nxS))
  (zj (ifS (zh eqC (zc ixT (vE 0) (cE (.int 0))) (cE (.str "no"))) (zo (ZS (Zh eqC (ap1 zY (vB 0)) (cE (.int 2))) (za 2 c_p (z9 (zc ixT (vE 0) (cE (.int 1))) (z9 (zc jP (vE 1) (cE (.int 1))) (zd)))))) (nxS))
  (zj (ifS (orT (zh eqC (zc ixT (vE 0) (cE (.int 0))) (cE (.str "all"))) (zh eqC (zc ixT (vE 0) (cE (.int 0))) (cE (.str "some")))) (zo (ZS (Zh eqC (ap1 zY (vB 0)) (cE (.int 3))) (ZS (za 2 c_p (z9 (zc ixT (vE 0) (cE (.int 1))) (z9 (zc jP (vE 1) (cE (.int 1))) (zd)))) (za 2 c_p (z9 (zc ixT (vE 0) (cE (.int 2))) (z9 (zc jP (vE 1) (cE (.int 1))) (zd))))))) (nxS))
  (zo (cE (.bl false))))))))
noncomputable def S_p:Nat->Nat->List T->R T
 | 0,_=>λ_=> .bad
 | n+1,_=>λts=>zi (b_p (f_t) (S_p n 0) (gA) (en0 2 ts))
noncomputable abbrev f_p (n:Nat):List T->R T:=S_p n 0
noncomputable def b_d (c_p:List T->R T):En->RS:=
  zo (za 2 c_p (z9 (vE 0) (z9 (cE (.int 3)) (zd))))
noncomputable def f_d:List T->R T:=λts=>zi (b_d (f_p 8) (en0 1 ts))
noncomputable def b_s (c_d:List T->R T):En->RS:=
  ifS (Jj (ZJ (za 1 c_d (z9 (vE 0) (zd))))) (kQ) (nxS)
noncomputable def f_s:List T->R T:=λts=>zi (b_s (f_d) (en0 1 ts))
noncomputable def b_1i (c_b:List T->R T):En->RS:=
  zo (ZS (za 1 c_b (z9 (vE 0) (zd))) (ZS (za 1 c_b (z9 (vE 1) (zd))) (ch3E leC leC leC (vB 2) (vB 0) (vB 1) (vB 3))))
noncomputable def gB:List T->R T:=λts=>zi (b_1i (f_b) (en0 4 ts))
noncomputable def b_i:En->RS:=
  zo (ZS (ap1 (wO "tuple") (vB 0)) (chE leC leC (vB 1) (ap1 zY (vB 0)) (vB 2)))
noncomputable def f_i:List T->R T:=λts=>zi (b_i  (en0 3 ts))
noncomputable def gC (c_b:List T->R T)(c_i:List T->R T)(c_t:List T->R T):En->RS:=
  zo (ZS (za 3 c_i (z9 (vE 0) (z9 (cE (.int 2)) (z9 (cE (.int 2)) (zd))))) (ZS (za 1 c_t (z9 (zc ixT (vE 0) (cE (.int 0))) (zd))) (ZS (za 1 c_b (z9 (zc ixT (vE 0) (cE (.int 1))) (zd))) (chE leC leC (cE (.int 1)) (zc ixT (vE 0) (cE (.int 1))) (cE (.int 20))))))
noncomputable def xu:List T->R T:=λts=>zi (gC (f_b) (f_i) (f_t) (en0 1 ts))
noncomputable def gE (c_i:List T->R T)(c_11:List T->R T):En->RS:=
  zj (ifS (orT (Jj (ZJ (za 3 c_i (z9 (vE 0) (z9 (cE (.int 1)) (z9 (cE (.int 4)) (zd))))))) (Jj (ZJ (ap1 qJ (zF (Zs (vE 0)) (zl 0) (zN) (za 1 c_11 (z9 (vE 0) (zd))) 1 []))))) (zo (cE (.bl false))) (nxS))
  (zj (zz 1 (zF (Zs (vE 0)) (zl 0) (zN) (zc ixT (vE 0) (cE (.int 0))) 1 []))
  (zo (Zh eqC (ap1 Qm (vB 1)) (ap1 zY (vB 1)))))
noncomputable def Kg:List T->R T:=λts=>zi (gE (f_i) (xu) (en0 2 ts))
noncomputable def b_9 (c_1i:List T->R T)(c_9:List T->R T)(c_17:List T->R T)(c_1l:List T->R T):En->RS:=
  zj (ifS (orT (zh eqC (vB 1) (cE (.int 0))) (orT (Jj (ZJ (ap1 (wO "tuple") (vB 0)))) (zh eqC (ap1 zY (vB 0)) (cE (.int 0))))) (zo (cE (.bl false))) (nxS))
  (zj (ifS (zh eqC (zc ixT (vE 0) (cE (.int 0))) (cE (.str "whole"))) (zo (ZS (Zh eqC (ap1 zY (vB 0)) (cE (.int 3))) (za 4 c_1i (z9 (zc ixT (vE 0) (cE (.int 1))) (z9 (zc ixT (vE 0) (cE (.int 2))) (z9 (Q6 (cE (.int 20))) (z9 (cE (.int 20)) (zd)))))))) (nxS))
  (zj (ifS (zh eqC (zc ixT (vE 0) (cE (.int 0))) (cE (.str "pick"))) (zo (ZS (Zh eqC (ap1 zY (vB 0)) (cE (.int 2))) (za 1 c_17 (z9 (zc ixT (vE 0) (cE (.int 1))) (zd))))) (nxS))
  (zj (ifS (zh eqC (zc ixT (vE 0) (cE (.int 0))) (cE (.str "row"))) (zo (ZS (Zh eqC (ap1 zY (vB 0)) (cE (.int 2))) (za 2 c_1l (z9 (zc ixT (vE 0) (cE (.int 1))) (z9 (zc jP (vE 1) (cE (.int 1))) (zd)))))) (nxS))
  (zj (ifS (zh eqC (zc ixT (vE 0) (cE (.int 0))) (cE (.str "many"))) (zo (ZS (Zh eqC (ap1 zY (vB 0)) (cE (.int 4))) (ZS (za 4 c_1i (z9 (zc ixT (vE 0) (cE (.int 2))) (z9 (zc ixT (vE 0) (cE (.int 3))) (z9 (cE (.int 0)) (z9 (cE (.int 3)) (zd)))))) (za 2 c_9 (z9 (zc ixT (vE 0) (cE (.int 1))) (z9 (zc jP (vE 1) (cE (.int 1))) (zd))))))) (nxS))
  (zo (cE (.bl false)))))))
noncomputable def gF (c_i:List T->R T)(c_9:List T->R T):En->RS:=
  zo (ZS (za 3 c_i (z9 (vE 0) (z9 (cE (.int 1)) (z9 (cE (.int 3)) (zd))))) (ap1 qJ (zF (Zs (vE 0)) (zl 0) (zN) (za 2 c_9 (z9 (vE 0) (z9 (vE 1) (zd)))) 1 [1])))
noncomputable def S_9:Nat->Nat->List T->R T
 | 0,_=>λ_=> .bad
 | n+1,0=>λts=>zi (b_9 (gB) (S_9 n 0) (Kg) (S_9 n 1) (en0 2 ts))
 | n+1,_=>λts=>zi (gF (f_i) (S_9 n 0) (en0 2 ts))
noncomputable abbrev f_9 (n:Nat):List T->R T:=S_9 n 0
noncomputable abbrev f_1l (n:Nat):List T->R T:=S_9 n 1
noncomputable def b_3 (c_9:List T->R T):En->RS:=
  zo (za 2 c_9 (z9 (vE 0) (z9 (cE (.int 3)) (zd))))
noncomputable def f_3:List T->R T:=λts=>zi (b_3 (f_9 20) (en0 1 ts))
noncomputable def b_o (c_3:List T->R T):En->RS:=
  ifS (Jj (ZJ (za 1 c_3 (z9 (vE 0) (zd))))) (kQ) (nxS)
noncomputable def f_o:List T->R T:=λts=>zi (b_o (f_3) (en0 1 ts))
noncomputable def b_2 (c_v:List T->R T)(c_q:List T->R T):En->RS:=
  zj (ifS (zh eqC (zc ixT (vE 0) (cE (.int 0))) (cE (.str "whole"))) (zo (zc zv (zc jP (zc ixT (vE 0) (cE (.int 2))) (zc ixT (vE 0) (cE (.int 1)))) (cE (.int 1)))) (nxS))
  (zj (ifS (zh eqC (zc ixT (vE 0) (cE (.int 0))) (cE (.str "pick"))) (zo (ap1 zY (zc ixT (vE 0) (cE (.int 1))))) (nxS))
  (zj (ifS (zh eqC (zc ixT (vE 0) (cE (.int 0))) (cE (.str "row"))) (zo (za 1 c_v (z9 (zc ixT (vE 0) (cE (.int 1))) (zd)))) (nxS))
  (zo (za 2 c_q (z9 (vE 0) (z9 (zc zv (zc ixT (vE 0) (cE (.int 3))) (cE (.int 1))) (zd)))))))
noncomputable def b_v (c_2:List T->R T):En->RS:=
  zj (zz 1 (cE (.int 1)))
  (zj (jp (Zs (vE 0)) (zl 2) (zz 1 (zc zP (vE 1) (za 1 c_2 (z9 (vE 2) (zd))))))
  (zo (vE 1)))
noncomputable def b_q (c_v:List T->R T):En->RS:=
  zo (ap1 Qq (zF (Jl (zc ixT (vE 0) (cE (.int 2))) (vE 1)) (zl 0) (zN) (za 1 c_v (z9 (zc zP (Zt (z9 (zc ixT (vE 1) (cE (.int 1))) (zd))) (vE 0)) (zd))) 1 [0]))
noncomputable def S_2:Nat->Nat->List T->R T
 | 0,_=>λ_=> .bad
 | n+1,0=>λts=>zi (b_2 (S_2 n 1) (S_2 n 2) (en0 1 ts))
 | n+1,1=>λts=>zi (b_v (S_2 n 0) (en0 3 ts))
 | n+1,_=>λts=>zi (b_q (S_2 n 1) (en0 2 ts))
noncomputable abbrev f_2 (n:Nat):List T->R T:=S_2 n 0
noncomputable abbrev f_v (n:Nat):List T->R T:=S_2 n 1
noncomputable abbrev f_q (n:Nat):List T->R T:=S_2 n 2
noncomputable def b_e:En->RS:=
  zo (zF (Zs (zc ixT (vE 0) (cE (.int 1)))) (zl 0) (zN) (zc ixT (vE 0) (cE (.int 0))) 1 [])
noncomputable def f_e:List T->R T:=λts=>zi (b_e  (en0 1 ts))
noncomputable def b_8 (c_e:List T->R T)(c_1j:List T->R T)(c_w:List T->R T):En->RS:=
  zj (ifS (zh eqC (zc ixT (vE 0) (cE (.int 0))) (cE (.str "whole"))) (zo (zc zv (zc ixT (vE 0) (cE (.int 1))) (vE 1))) (nxS))
  (zj (ifS (zh eqC (zc ixT (vE 0) (cE (.int 0))) (cE (.str "pick"))) (zo (zc ixT (za 1 c_e (z9 (vE 0) (zd))) (vE 1))) (nxS))
  (zj (ifS (zh eqC (zc ixT (vE 0) (cE (.int 0))) (cE (.str "row"))) (zo (za 2 c_w (z9 (zc ixT (vE 0) (cE (.int 1))) (z9 (vE 1) (zd))))) (nxS))
  (zo (za 2 c_1j (z9 (vE 0) (z9 (vE 1) (zd)))))))
noncomputable def Xb (c_q:List T->R T)(c_w:List T->R T):En->RS:=
  zj (zz 2 (zc ixT (vE 0) (cE (.int 2))))
  (zj (jl (zh leC (za 2 c_q (z9 (vE 0) (z9 (zc zv (vE 2) (cE (.int 1))) (zd)))) (vB 1)) (zz 2 (zc zv (vE 2) (cE (.int 1)))) (8))
  (zo (za 2 c_w (z9 (zc zP (Zt (z9 (zc ixT (vE 0) (cE (.int 1))) (zd))) (vE 2)) (z9 (zc jP (vE 1) (za 2 c_q (z9 (vE 0) (z9 (vE 2) (zd))))) (zd))))))
noncomputable def b_w (c_2:List T->R T)(c_8:List T->R T):En->RS:=
  zj (UQ 2 (zd))
  (zj (zz 3 (vE 1))
  (zj (jp (z0h (vE 0)) (zl 4) (zj (zz 5 (za 1 c_2 (z9 (vE 4) (zd))))
  (zj (Qd 2 (za 2 c_8 (z9 (vE 4) (z9 (zc jj (vE 3) (vE 5)) (zd)))))
  (zz 3 (zc JD (vE 3) (vE 5))))))
  (zo (ap1 Qx (vE 2)))))
noncomputable def S_8:Nat->Nat->List T->R T
 | 0,_=>λ_=> .bad
 | n+1,0=>λts=>zi (b_8 (f_e) (S_8 n 1) (S_8 n 2) (en0 2 ts))
 | n+1,1=>λts=>zi (Xb (f_q 20) (S_8 n 2) (en0 3 ts))
 | n+1,_=>λts=>zi (b_w (f_2 20) (S_8 n 0) (en0 6 ts))
noncomputable abbrev f_8 (n:Nat):List T->R T:=S_8 n 0
noncomputable abbrev f_1j (n:Nat):List T->R T:=S_8 n 1
noncomputable abbrev f_w (n:Nat):List T->R T:=S_8 n 2
noncomputable def b_r (c_o:List T->R T)(c_2:List T->R T)(c_8:List T->R T):En->RS:=
  zj (JE (za 1 c_o (z9 (vE 0) (zd))))
  (zj (zz 1 (za 1 c_2 (z9 (vE 0) (zd))))
  (zj (ifS (zh gtC (vB 1) (cE (.int 500))) (kQ) (nxS))
  (gu (Zy (vE 1)) (zl 0) (zN) (za 2 c_8 (z9 (vE 1) (z9 (vE 0) (zd)))) 1 [0])))
noncomputable def f_r:List T->R T:=λts=>zi (b_r (f_o) (f_2 20) (f_8 20) (en0 2 ts))
noncomputable def b_k (c_k:List T->R T):En->RS:=
  zj (ifS (Jj (ZJ (ap1 (wO "tuple") (vB 0)))) (zo (Zt (z9 (vE 0) (zd)))) (nxS))
  (zj (UQ 1 (zd))
  (zj (jp (Zs (vE 0)) (zl 2) (qK 1 (za 1 c_k (z9 (vE 2) (zd)))))
  (zo (vE 1))))
noncomputable def S_k:Nat->Nat->List T->R T
 | 0,_=>λ_=> .bad
 | n+1,_=>λts=>zi (b_k (S_k n 0) (en0 3 ts))
noncomputable abbrev f_k (n:Nat):List T->R T:=S_k n 0
noncomputable def gG (c_b:List T->R T)(c_k:List T->R T):En->RS:=
  zo (zF (Zs (za 1 c_k (z9 (vE 0) (zd)))) (zl 0) (ZJ (za 1 c_b (z9 (vE 0) (zd)))) (vE 0) 1 [])
noncomputable def gH:List T->R T:=λts=>zi (gG (f_b) (f_k 8) (en0 1 ts))
noncomputable def b_1h:En->RS:=
  zo (ifE (ZJ (ap1 (wO "tuple") (vB 0))) (vE 0) (zW (z9 (vE 0) (zd))))
noncomputable def gJ:List T->R T:=λts=>zi (b_1h  (en0 1 ts))
noncomputable def gK:En->RS:=
  zo (ap1 qJ (zF (yO (vE 0) (slE (vE 0) (jT (cE (.int 1))) (noO))) (zK 0 1) (zN) (Zh leC (vB 0) (vB 1)) 2 []))
noncomputable def gL:List T->R T:=λts=>zi (gK  (en0 1 ts))
noncomputable def gM:En->RS:=
  zo (qI (ap1 z0j (zF (uN (vE 0)) (zK 0 1) (zN) (Zh inC (vB 1) (slE (vE 2) (noO) (jT (vE 0)))) 2 [0])))
noncomputable def gN:List T->R T:=λts=>zi (gM  (en0 1 ts))
noncomputable def gO (c_1h:List T->R T)(c_k:List T->R T)(c_19:List T->R T)(c_1b:List T->R T)(c_1c:List T->R T):En->RS:=
  zj (ifS (zh eqC (zc ixT (vE 0) (cE (.int 0))) (cE (.str "sum"))) (zo (chE leC leC (zc ixT (vE 0) (cE (.int 1))) (ap1 Qq (za 1 c_19 (z9 (vE 1) (zd)))) (zc ixT (vE 0) (cE (.int 2))))) (nxS))
  (zj (ifS (zh eqC (zc ixT (vE 0) (cE (.int 0))) (cE (.str "size"))) (zo (chE leC leC (zc ixT (vE 0) (cE (.int 1))) (ap1 zY (za 1 c_1h (z9 (vE 1) (zd)))) (zc ixT (vE 0) (cE (.int 2))))) (nxS))
  (zj (ifS (zh eqC (zc ixT (vE 0) (cE (.int 0))) (cE (.str "word"))) (zo (Zh inC (zc ixT (vE 0) (cE (.int 1))) (za 1 c_k (z9 (vE 1) (zd))))) (nxS))
  (zj (ifS (zh eqC (zc ixT (vE 0) (cE (.int 0))) (cE (.str "rising"))) (zo (za 1 c_1b (z9 (za 1 c_19 (z9 (vE 1) (zd))) (zd)))) (nxS))
  (zo (za 1 c_1c (z9 (za 1 c_1h (z9 (vE 1) (zd))) (zd)))))))
noncomputable def Kh:List T->R T:=λts=>zi (gO (gJ) (f_k 8) (gH) (gL) (gN) (en0 2 ts))
noncomputable def b_c (c_c:List T->R T)(c_15:List T->R T):En->RS:=
  zj (ifS (zh eqC (zc ixT (vE 0) (cE (.int 0))) (cE (.str "no"))) (zo (qI (za 2 c_c (z9 (zc ixT (vE 0) (cE (.int 1))) (z9 (vE 1) (zd)))))) (nxS))
  (zj (ifS (zh eqC (zc ixT (vE 0) (cE (.int 0))) (cE (.str "all"))) (zo (ZS (za 2 c_c (z9 (zc ixT (vE 0) (cE (.int 1))) (z9 (vE 1) (zd)))) (za 2 c_c (z9 (zc ixT (vE 0) (cE (.int 2))) (z9 (vE 1) (zd)))))) (nxS))
  (zj (ifS (zh eqC (zc ixT (vE 0) (cE (.int 0))) (cE (.str "some"))) (zo (orE (za 2 c_c (z9 (zc ixT (vE 0) (cE (.int 1))) (z9 (vE 1) (zd)))) (za 2 c_c (z9 (zc ixT (vE 0) (cE (.int 2))) (z9 (vE 1) (zd)))))) (nxS))
  (zo (za 2 c_15 (z9 (vE 0) (z9 (vE 1) (zd)))))))
noncomputable def S_c:Nat->Nat->List T->R T
 | 0,_=>λ_=> .bad
 | n+1,_=>λts=>zi (b_c (S_c n 0) (Kh) (en0 2 ts))
noncomputable abbrev f_c (n:Nat):List T->R T:=S_c n 0
noncomputable def b_u:En->RS:=
  zo (zc jB (zc ui (cE (.int 0)) (zc ixT (vE 0) (cE (.int 1)))) (zc ixT (vE 0) (cE (.int 2))))
noncomputable def f_u:List T->R T:=λts=>zi (b_u  (en0 1 ts))
noncomputable def b_7 (c_e:List T->R T)(c_u:List T->R T)(c_y:List T->R T):En->RS:=
  zj (ifS (zh eqC (zc ixT (vE 0) (cE (.int 0))) (cE (.str "whole"))) (zo (ap1 z0m (zc jP (vE 1) (za 1 c_u (z9 (vE 0) (zd)))))) (nxS))
  (zj (ifS (zh eqC (zc ixT (vE 0) (cE (.int 0))) (cE (.str "pick"))) (zo (gs X7 (za 1 c_e (z9 (vE 0) (zd))) (vB 1))) (nxS))
  (zj (ifS (zh eqC (zc ixT (vE 0) (cE (.int 0))) (cE (.str "row"))) (zo (za 2 c_y (z9 (zc ixT (vE 0) (cE (.int 1))) (z9 (vE 1) (zd))))) (nxS))
  (zo (zc jP (zc zv (za 2 c_y (z9 (zc zP (Zt (z9 (zc ixT (vE 0) (cE (.int 1))) (zd))) (ap1 zY (vB 1))) (z9 (vE 1) (zd)))) (ap1 zY (vB 1))) (zc ixT (vE 0) (cE (.int 2)))))))
noncomputable def b_y (c_7:List T->R T):En->RS:=
  zo (ap1 Qq (zF (yO (vE 0) (vE 1)) (zK 0 1) (zN) (za 2 c_7 (z9 (vE 0) (z9 (vE 1) (zd)))) 2 []))
noncomputable def S_7:Nat->Nat->List T->R T
 | 0,_=>λ_=> .bad
 | n+1,0=>λts=>zi (b_7 (f_e) (f_u) (S_7 n 1) (en0 2 ts))
 | n+1,_=>λts=>zi (b_y (S_7 n 0) (en0 2 ts))
noncomputable abbrev f_7 (n:Nat):List T->R T:=S_7 n 0
noncomputable abbrev f_y (n:Nat):List T->R T:=S_7 n 1
noncomputable def b_n (c_r:List T->R T)(c_s:List T->R T)(c_c:List T->R T)(c_7:List T->R T):En->RS:=
  zj (JE (za 1 c_s (z9 (vE 1) (zd))))
  (zj (zz 2 (zF (Zs (za 1 c_r (z9 (vE 0) (zd)))) (zl 0) (Jj (ZJ (za 2 c_c (z9 (vE 1) (z9 (vE 0) (zd)))))) (vE 0) 1 [1]))
  (zo (Yb [0] (za 2 c_7 (z9 (vE 1) (z9 (vE 0) (zd)))) (vE 2) (cE .non))))
noncomputable def f_n:List T->R T:=λts=>zi (b_n (f_r) (f_s) (f_c 8) (f_7 20) (en0 3 ts))
noncomputable def b_h (c_b:List T->R T)(c_i:List T->R T)(c_e:List T->R T)(c_1f:List T->R T):En->RS:=
  zj (ifS (zh eqC (zc ixT (vE 0) (cE (.int 0))) (cE (.str "whole"))) (zo (ZS (za 1 c_b (z9 (vE 1) (zd))) (chE leC leC (zc ixT (vE 0) (cE (.int 1))) (vB 1) (zc ixT (vE 0) (cE (.int 2)))))) (nxS))
  (zj (ifS (zh eqC (zc ixT (vE 0) (cE (.int 0))) (cE (.str "pick"))) (zo (Zh inC (vB 1) (za 1 c_e (z9 (vE 0) (zd))))) (nxS))
  (zj (ifS (zh eqC (zc ixT (vE 0) (cE (.int 0))) (cE (.str "row"))) (zo (ZS (za 3 c_i (z9 (vE 1) (z9 (ap1 zY (zc ixT (vE 0) (cE (.int 1)))) (z9 (ap1 zY (zc ixT (vE 0) (cE (.int 1)))) (zd))))) (za 2 c_1f (z9 (zc ixT (vE 0) (cE (.int 1))) (z9 (vE 1) (zd)))))) (nxS))
  (zo (ZS (za 3 c_i (z9 (vE 1) (z9 (zc ixT (vE 0) (cE (.int 2))) (z9 (zc ixT (vE 0) (cE (.int 3))) (zd))))) (za 2 c_1f (z9 (zc zP (Zt (z9 (zc ixT (vE 0) (cE (.int 1))) (zd))) (ap1 zY (vB 1))) (z9 (vE 1) (zd))))))))
noncomputable def Ki (c_h:List T->R T):En->RS:=
  zo (ap1 qJ (zF (yO (vE 0) (vE 1)) (zK 0 1) (zN) (za 2 c_h (z9 (vE 0) (z9 (vE 1) (zd)))) 2 []))
noncomputable def S_h:Nat->Nat->List T->R T
 | 0,_=>λ_=> .bad
 | n+1,0=>λts=>zi (b_h (f_b) (f_i) (f_e) (S_h n 1) (en0 2 ts))
 | n+1,_=>λts=>zi (Ki (S_h n 0) (en0 2 ts))
noncomputable abbrev f_h (n:Nat):List T->R T:=S_h n 0
noncomputable abbrev f_1f (n:Nat):List T->R T:=S_h n 1
noncomputable def gP (c_o:List T->R T)(c_h:List T->R T):En->RS:=
  zj (JE (za 1 c_o (z9 (vE 0) (zd))))
  (zo (za 2 c_h (z9 (vE 0) (z9 (vE 1) (zd)))))
noncomputable def gQ:List T->R T:=λts=>zi (gP (f_o) (f_h 20) (en0 2 ts))
noncomputable def gR (c_1e:List T->R T):En->RS:=
  ifS (Jj (ZJ (za 2 c_1e (z9 (vE 0) (z9 (vE 1) (zd)))))) (kQ) (nxS)
noncomputable def gS:List T->R T:=λts=>zi (gR (gQ) (en0 2 ts))
noncomputable def b_1 (c_1d:List T->R T)(c_7:List T->R T):En->RS:=
  zj (JE (za 2 c_1d (z9 (vE 0) (z9 (vE 1) (zd)))))
  (zo (za 2 c_7 (z9 (vE 0) (z9 (vE 1) (zd)))))
noncomputable def f_1:List T->R T:=λts=>zi (b_1 (gS) (f_7 20) (en0 2 ts))
noncomputable def b_m (c_m:List T->R T):En->RS:=
  zj (ifS (Jj (ZJ (ap1 (wO "tuple") (vB 0)))) (zo (Zt (z9 (vE 0) (zd)))) (nxS))
  (zj (zz 1 (Zt (zd)))
  (zj (jp (Zs (vE 0)) (zl 2) (zz 1 (zc zv (vE 1) (za 1 c_m (z9 (vE 2) (zd))))))
  (zo (vE 1))))
noncomputable def S_m:Nat->Nat->List T->R T
 | 0,_=>λ_=> .bad
 | n+1,_=>λts=>zi (b_m (S_m n 0) (en0 3 ts))
noncomputable abbrev f_m (n:Nat):List T->R T:=S_m n 0
noncomputable def b_a (c_m:List T->R T)(c_a:List T->R T):En->RS:=
  zj (zz 2 (zF (Zs (za 1 c_m (z9 (vE 1) (zd)))) (zl 0) (ZJ (ap1 (wO "int") (vB 0))) (vE 0) 1 []))
  (zj (zz 3 (ifE (ZJ (ap1 (wO "tuple") (vB 1))) (vE 1) (zW (z9 (vE 1) (zd)))))
  (zj (ifS (zh eqC (zc ixT (vE 0) (cE (.int 0))) (cE (.str "sum"))) (zj (zz 4 (cE (.int 0)))
  (zj (jp (Zs (vE 2)) (zl 5) (zz 4 (zc zv (vE 4) (vE 5))))
  (zo (ZS (Zh leC (zc ixT (vE 0) (cE (.int 1))) (vB 4)) (Zh leC (vB 4) (zc ixT (vE 0) (cE (.int 2)))))))) (nxS))
  (zj (ifS (zh eqC (zc ixT (vE 0) (cE (.int 0))) (cE (.str "size"))) (zo (ZS (Zh geC (ap1 zY (vB 3)) (zc ixT (vE 0) (cE (.int 1)))) (Zh leC (ap1 zY (vB 3)) (zc ixT (vE 0) (cE (.int 2)))))) (nxS))
  (zj (ifS (zh eqC (zc ixT (vE 0) (cE (.int 0))) (cE (.str "word"))) (zo (Zh neC (zF (Zs (za 1 c_m (z9 (vE 1) (zd)))) (zl 0) (zh eqC (vB 0) (zc ixT (vE 1) (cE (.int 1)))) (vE 0) 1 [0]) (Zt (zd)))) (nxS))
  (zj (ifS (zh eqC (zc ixT (vE 0) (cE (.int 0))) (cE (.str "rising"))) (zo (Zh eqC (vB 2) (ap1 Qy (vB 2)))) (nxS))
  (zj (ifS (zh eqC (zc ixT (vE 0) (cE (.int 0))) (cE (.str "unlike"))) (zo (Zh eqC (zF (Zy (ap1 zY (vB 3))) (zl 0) (zh inC (zc ixT (vE 1) (vE 0)) (slE (vE 1) (noO) (jT (vE 0)))) (vE 0) 1 [3]) (Zt (zd)))) (nxS))
  (zj (ifS (zh eqC (zc ixT (vE 0) (cE (.int 0))) (cE (.str "no"))) (zo (qI (za 2 c_a (z9 (zc ixT (vE 0) (cE (.int 1))) (z9 (vE 1) (zd)))))) (nxS))
  (zj (zz 6 (zF (Zs (slE (vE 0) (jT (cE (.int 1))) (noO))) (zl 0) (zN) (za 2 c_a (z9 (vE 0) (z9 (vE 1) (zd)))) 1 [1]))
  (zo (ifE (zh eqC (zc ixT (vE 0) (cE (.int 0))) (cE (.str "all"))) (ZS (zc ixT (vE 6) (cE (.int 0))) (zc ixT (vE 6) (cE (.int 1)))) (orE (zc ixT (vE 6) (cE (.int 0))) (zc ixT (vE 6) (cE (.int 1))))))))))))))
noncomputable def S_a:Nat->Nat->List T->R T
 | 0,_=>λ_=> .bad
 | n+1,_=>λts=>zi (b_a (f_m 8) (S_a n 0) (en0 7 ts))
noncomputable abbrev f_a (n:Nat):List T->R T:=S_a n 0
noncomputable def b_z:En->RS:=
  zj (ifS (zh eqC (zc ixT (vE 0) (cE (.int 0))) (cE (.str "row"))) (zo (zc ixT (vE 0) (cE (.int 1)))) (nxS))
  (zj (ifS (Wy (zh eqC (zc ixT (vE 0) (cE (.int 0))) (cE (.str "many"))) (chT leC leC (zc ixT (vE 0) (cE (.int 2))) (vB 1) (zc ixT (vE 0) (cE (.int 3))))) (zo (zc QD (zW (z9 (zc ixT (vE 0) (cE (.int 1))) (zd))) (vE 1))) (nxS))
  (zo (zW (zd))))
noncomputable def f_z:List T->R T:=λts=>zi (b_z  (en0 2 ts))
noncomputable def gT:En->RS:=
  zj (zz 2 (zc ui (zc ixT (vE 0) (cE (.int 1))) (zc ixT (vE 1) (cE (.int 1)))))
  (zj (zz 3 (zc jB (zc ixT (vE 0) (cE (.int 2))) (zc ixT (vE 1) (cE (.int 2)))))
  (zo (ifE (zh leC (vB 2) (vB 3)) (zW (z9 (cE (.str "whole")) (z9 (vE 2) (z9 (vE 3) (zd))))) (cE .non))))
noncomputable def Kj:List T->R T:=λts=>zi (gT  (en0 4 ts))
noncomputable def gU (c_e:List T->R T):En->RS:=
  zj (zz 2 (za 1 c_e (z9 (vE 1) (zd))))
  (zj (zz 3 (zF (Zs (zc ixT (vE 0) (cE (.int 1)))) (zl 0) (zh inC (zc ixT (vE 0) (cE (.int 0))) (vB 1)) (vE 0) 1 [2]))
  (zo (ifE (zh gtC (ap1 zY (vB 3)) (cE (.int 0))) (zW (z9 (cE (.str "pick")) (z9 (ap1 X5 (vE 3)) (zd)))) (cE .non))))
noncomputable def Kk:List T->R T:=λts=>zi (gU (f_e) (en0 4 ts))
noncomputable def b_5 (c_z:List T->R T)(c_1k:List T->R T)(c_16:List T->R T)(c_18:List T->R T)(c_1m:List T->R T):En->RS:=
  zj (ifS (zh eqC (zc ixT (vE 0) (cE (.int 0))) (cE (.str "row"))) (zo (za 2 c_1k (z9 (zc ixT (vE 0) (cE (.int 1))) (z9 (za 2 c_z (z9 (vE 1) (z9 (ap1 zY (zc ixT (vE 0) (cE (.int 1)))) (zd)))) (zd))))) (nxS))
  (zj (ifS (zh eqC (zc ixT (vE 1) (cE (.int 0))) (cE (.str "row"))) (zo (za 2 c_1k (z9 (za 2 c_z (z9 (vE 0) (z9 (ap1 zY (zc ixT (vE 1) (cE (.int 1)))) (zd)))) (z9 (zc ixT (vE 1) (cE (.int 1))) (zd))))) (nxS))
  (zj (ifS (zh neC (zc ixT (vE 0) (cE (.int 0))) (zc ixT (vE 1) (cE (.int 0)))) (zo (cE .non)) (nxS))
  (zj (ifS (zh eqC (zc ixT (vE 0) (cE (.int 0))) (cE (.str "whole"))) (zo (za 2 c_16 (z9 (vE 0) (z9 (vE 1) (zd))))) (nxS))
  (zj (ifS (zh eqC (zc ixT (vE 0) (cE (.int 0))) (cE (.str "pick"))) (zo (za 2 c_18 (z9 (vE 0) (z9 (vE 1) (zd))))) (nxS))
  (zo (za 2 c_1m (z9 (vE 0) (z9 (vE 1) (zd)))))))))
noncomputable def gW (c_5:List T->R T):En->RS:=
  zj (ifS (zh neC (ap1 zY (vB 0)) (ap1 zY (vB 1))) (zo (cE .non)) (nxS))
  (zj (zz 2 (zF (yO (vE 0) (vE 1)) (zK 0 1) (zN) (za 2 c_5 (z9 (vE 0) (z9 (vE 1) (zd)))) 2 []))
  (zj (ifS (zh inC (cE .non) (vB 2)) (zo (cE .non)) (nxS))
  (zo (zW (z9 (cE (.str "row")) (z9 (ap1 X5 (vE 2)) (zd)))))))
noncomputable def gX (c_5:List T->R T):En->RS:=
  zj (zz 2 (zc ui (zc ixT (vE 0) (cE (.int 2))) (zc ixT (vE 1) (cE (.int 2)))))
  (zj (zz 3 (zc jB (zc ixT (vE 0) (cE (.int 3))) (zc ixT (vE 1) (cE (.int 3)))))
  (zj (ifS (zh gtC (vB 2) (vB 3)) (zo (cE .non)) (nxS))
  (zj (zz 4 (za 2 c_5 (z9 (zc ixT (vE 0) (cE (.int 1))) (z9 (zc ixT (vE 1) (cE (.int 1))) (zd)))))
  (zj (ifS (zh Zb (vB 4) (cE .non)) (zo (zW (z9 (cE (.str "many")) (z9 (vE 4) (z9 (vE 2) (z9 (vE 3) (zd))))))) (nxS))
  (zo (ifE (zh eqC (vB 2) (cE (.int 0))) (zW (z9 (cE (.str "many")) (z9 (zc ixT (vE 0) (cE (.int 1))) (z9 (cE (.int 0)) (z9 (cE (.int 0)) (zd)))))) (cE .non)))))))
noncomputable def S_5:Nat->Nat->List T->R T
 | 0,_=>λ_=> .bad
 | n+1,0=>λts=>zi (b_5 (f_z) (S_5 n 1) (Kj) (Kk) (S_5 n 2) (en0 2 ts))
 | n+1,1=>λts=>zi (gW (S_5 n 0) (en0 3 ts))
 | n+1,_=>λts=>zi (gX (S_5 n 0) (en0 5 ts))
noncomputable abbrev f_5 (n:Nat):List T->R T:=S_5 n 0
noncomputable abbrev f_1k (n:Nat):List T->R T:=S_5 n 1
noncomputable abbrev f_1m (n:Nat):List T->R T:=S_5 n 2
noncomputable def b_x (c_o:List T->R T)(c_5:List T->R T):En->RS:=
  zj (JE (za 1 c_o (z9 (vE 0) (zd))))
  (zj (JE (za 1 c_o (z9 (vE 1) (zd))))
  (zo (za 2 c_5 (z9 (vE 0) (z9 (vE 1) (zd))))))
noncomputable def f_x:List T->R T:=λts=>zi (b_x (f_o) (f_5 20) (en0 2 ts))
noncomputable def gY (c_r:List T->R T)(c_s:List T->R T)(c_c:List T->R T):En->RS:=
  zj (JE (za 1 c_s (z9 (vE 1) (zd))))
  (zo (zF (Zs (za 1 c_r (z9 (vE 0) (zd)))) (zl 0) (ZJ (za 2 c_c (z9 (vE 1) (z9 (vE 0) (zd))))) (vE 0) 1 [1]))
noncomputable def Xc:List T->R T:=λts=>zi (gY (f_r) (f_s) (f_c 8) (en0 2 ts))
noncomputable def b_0 (c_6:List T->R T)(c_10:List T->R T)(c_x:List T->R T)(c_l:List T->R T)(c_a:List T->R T)(c_13:List T->R T)(c_1:List T->R T)(c_n:List T->R T):En->RS:=
  zj (zz 1 (za 3 c_10 (z9 (vE 0) (z9 (cE (.int 0)) (z9 (cE (.int 40)) (zd))))))
  (zj (gv (zW (z9 (za 3 c_l (z9 (vE 0) (z9 (cE (.int 4000)) (z9 (cE (.int 2)) (zd))))) (z9 (za 3 c_l (z9 (vE 0) (z9 (cE (.int 4500)) (z9 (cE (.int 2)) (zd))))) (zd)))) (zK 2 3))
  (zj (zz 4 (za 1 c_6 (z9 (vE 1) (zd))))
  (zj (VT 5 6 (z9 (za 2 c_n (z9 (vE 1) (z9 (vE 2) (zd)))) (z9 (za 2 c_n (z9 (vE 1) (z9 (vE 3) (zd)))) (zd))))
  (zj (VT 7 8 (z9 (za 2 c_n (z9 (vE 1) (z9 (zW (z9 (cE (.str "all")) (z9 (vE 2) (z9 (vE 3) (zd))))) (zd)))) (z9 (za 2 c_n (z9 (vE 1) (z9 (zW (z9 (cE (.str "some")) (z9 (vE 2) (z9 (vE 3) (zd))))) (zd)))) (zd))))
  (zj (zz 9 (zF (Zs (zW (z9 (vE 5) (z9 (vE 6) (zd))))) (zl 0) (zh Zb (vB 0) (cE .non)) (za 2 c_1 (z9 (vE 1) (z9 (vE 0) (zd)))) 1 [1]))
  (zj (ifS (orT (zh neC (Zh ZY (vB 7) (cE .non)) (Zh eqC (vB 9) (Zt (zd)))) (Wy (zh Zb (vB 7) (cE .non)) (zh neC (za 2 c_1 (z9 (vE 1) (z9 (vE 7) (zd)))) (ap1 QC (vB 9))))) (zo (cE (.bl false))) (nxS))
  (zj (ifS (Wy (zh Zb (vB 8) (cE .non)) (orT (zh ZY (vB 5) (cE .non)) (orT (zh ZY (vB 6) (cE .non)) (zh ltC (za 2 c_1 (z9 (vE 1) (z9 (vE 8) (zd)))) (ap1 QB (vB 9)))))) (zo (cE (.bl false))) (nxS))
  (zj (zz 10 (za 3 c_l (z9 (vE 0) (z9 (cE (.int 5000)) (z9 (cE (.int 1)) (zd))))))
  (zj (ifS (zh Zb (za 2 c_n (z9 (vE 1) (z9 (zW (z9 (cE (.str "some")) (z9 (vE 10) (z9 (zW (z9 (cE (.str "no")) (z9 (vE 10) (zd)))) (zd))))) (zd)))) (cE .non)) (zo (cE (.bl false))) (nxS))
  (zj (zz 11 (za 2 c_n (z9 (vE 1) (z9 (zW (z9 (cE (.str "all")) (z9 (vE 10) (z9 (zW (z9 (cE (.str "no")) (z9 (vE 10) (zd)))) (zd))))) (zd)))))
  (zj (ifS (orT (zh ZY (vB 11) (cE .non)) (zh neC (za 2 c_1 (z9 (vE 1) (z9 (vE 11) (zd)))) (cE (.int 0)))) (zo (cE (.bl false))) (nxS))
  (zj (ifS (Wy (zh Zb (vB 7) (cE .non)) (ZJ (za 2 c_a (z9 (zW (z9 (cE (.str "all")) (z9 (vE 2) (z9 (vE 3) (zd))))) (z9 (vE 7) (zd)))))) (zo (cE (.bl false))) (nxS))
  (zj (ifS (Wy (zh Zb (vB 7) (cE .non)) (zh Uv (vB 7) (vB 4))) (zo (cE (.bl false))) (nxS))
  (zj (zz 12 (za 3 c_10 (z9 (vE 0) (z9 (cE (.int 6000)) (z9 (cE (.int 40)) (zd))))))
  (zj (zz 13 (za 2 c_x (z9 (vE 1) (z9 (vE 12) (zd)))))
  (zj (ifS (zh Zb (vB 13) (cE .non)) (zj (zz 14 (zF (Zs (za 1 c_6 (z9 (vE 13) (zd)))) (zl 0) (Jj (ZJ (za 2 c_a (z9 (vE 1) (z9 (vE 0) (zd)))))) (vE 0) 1 [2]))
  (ifS (orT (zh neC (Zh ZY (za 2 c_n (z9 (vE 13) (z9 (vE 2) (zd)))) (cE .non)) (Zh eqC (vB 14) (Zt (zd)))) (Wy (zh neC (vB 14) (Zt (zd))) (zh ZY (vB 5) (cE .non)))) (zo (cE (.bl false))) (nxS))) (nxS))
  (zo (Zh eqC (Zh ZY (vB 5) (cE .non)) (Zh eqC (ap1 zY (za 2 c_13 (z9 (vE 1) (z9 (vE 2) (zd))))) (ap1 zY (vB 4)))))))))))))))))))))
noncomputable def f_0:List T->R T:=λts=>zi (b_0 (f_6 8) (Xa) (f_x) (f_l 8) (f_a 8) (Xc) (f_1) (f_n) (en0 15 ts))
end G
namespace G
open PySem L2 PV
noncomputable abbrev scr (ns:List Int):T:= .fz (ns.map T.int)
theorem xv (ns:List Int)(k:Int)(h0:0<=k):∃c,Ke [scr ns,.int k]= .ok (.int c):=by
 have e1:Ke [scr ns,.int k]=zi (if decide (k < ((ns.map T.int).length:Int))=true then (atT (ns.map T.int) k).s (λt=> .rt t) else
   match (eqC (scr ns) (.lst [])).s (λb=>if b=true then RS.rt (.int 0) else .nx [.vl (scr ns),.vl (.int k)]) with
   | .nx ρ' =>zo (zc zv (zc zP (zc ixT (vE 0) (zc jj (vE 1) (ap1 zY (vB 0)))) (cE (.int 31))) (vE 1)) ρ'
   | r=>r):=by
  show zi (match (if decide (k < ((ns.map T.int).length:Int))=true then (atT (ns.map T.int) k).s (λt=>RS.rt t) else .nx [.vl (scr ns),.vl (.int k)]) with
   | .nx ρ' =>_
   | r=>r)=_
  cases decide (k < ((ns.map T.int).length:Int)) with
  | true=>
   rw[if_pos rfl,if_pos rfl];unfold atT;cases atI (ns.map T.int) k <;> rfl
  | false=>rfl
 rw[e1,xqz]
 by_cases hk:k < (ns.length:Int)
 ·obtain⟨v,hv⟩:∃v,ns[k.toNat]? =some v:=⟨ns[k.toNat]'(by omega),a9 (by omega)⟩
  have ea:atI (ns.map T.int) k=some (.int v):=by
   have:k=((k.toNat:Nat):Int):=by omega
   rw[this];exact ZV (by rw[aj,hv];rfl)
  rw[decide_eq_true hk,if_pos rfl];exact⟨v,by unfold atT;rw[ea];rfl⟩
 ·rw[decide_eq_false hk,if_neg ax];cases ns with
  | nil=>exact⟨0,rfl⟩
  | cons x xs=>
   have hm0:=fg k (show (((x :: xs).length:Nat):Int) ≠ 0 by simp only[ar];omega)
   have hm1:=dQ k (show (0:Int) < (((x :: xs).length:Nat):Int) by simp only[ar];omega)
   obtain⟨v,hv⟩:∃v,(x :: xs)[(k % (((x :: xs).length:Nat):Int)).toNat]? =some v:=⟨_,a9 (by omega)⟩
   have ea:atI ((x :: xs).map T.int) (k % (((x :: xs).length:Nat):Int))=some (.int v):=by
    have e:k % (((x :: xs).length:Nat):Int)=(((k % (((x :: xs).length:Nat):Int)).toNat:Nat):Int):=by omega
    rw[e];exact ZV (by rw[aj,hv];rfl)
   have cm:Wi v 31:= .inr ⟨by decide,by decide⟩
   have hp:(0:Int) < (((x :: xs).map T.int).length:Int):=by simp only[xqz,ar];omega
   refine⟨v*31+k, ?_⟩;show zi (((((if 0 < (((x :: xs).map T.int).length:Int) then R.ok (T.int (k % (((x :: xs).map T.int).length:Int))) else .bad).bind λy=>ixT (scr (x :: xs)) y).bind λa=>zP a (.int 31)).bind λa=>zv a (.int k)).s λt=> .rt t)=_
   rw[if_pos hp];show zi ((((atT ((x :: xs).map T.int) (k % (((x :: xs).map T.int).length:Int))).bind λa=>zP a (.int 31)).bind λa=>zv a (.int k)).s λt=> .rt t)=_;rw[xqz];unfold atT;rw[ea];show zi ((((if Wi v 31 then R.ok (T.int (v*31)) else .bad)).bind λa=>zv a (.int k)).s λt=> .rt t)=_
   rw[if_pos cm];rfl
theorem zM (ns:List Int)(k m:Int)(h0:0<=k)(hm:0 < m):∃p,f_4 [scr ns,.int k,.int m]= .ok (.int p)/\0<=p/\p < m:=by
 obtain⟨c,hc⟩:=xv ns k h0;have cm1:Wi 6151 (k+1):= .inl ⟨by decide,by decide⟩
 have cm2:Wi (c+6151*(k+1)) 40692:= .inr ⟨by decide,by decide⟩
 generalize hd:(c+6151*(k+1))*40692 % 2147483399=d;have hd0:0<=d:=by rw[← hd];exact fg _ (by decide)
 have hd1:d < 2147483399:=by rw[← hd];exact dQ _ (by decide)
 have cm3:Wi d d:= .inl ⟨by omega,by omega⟩
 refine⟨(d*d+d / 31) % 2147483629 % m, ?_,fg _ (by omega),dQ _ hm⟩
 have e1:f_4 [scr ns,.int k,.int m]=zi (match ((((((Ke [scr ns,.int k]).bind λx=>(zP (.int 6151) (.int (k+1))).bind λy=>zv x y).bind λx=>zP x (.int 40692)).bind λx=>jj x (.int 2147483399))).s λt=>RS.nx [.vl (scr ns),.vl (.int k),.vl (.int m),.vl t]) with
   | .nx ρ' =>zo (zc jj (zc jj (zc zv (zc zP (vE 3) (vE 3)) (zc JD (vE 3) (cE (.int 31)))) (cE (.int 2147483629))) (vE 2)) ρ'
   | r=>r):=rfl
 rw[e1,hc];show zi (match (((((if Wi 6151 (k+1) then R.ok (T.int (6151*(k+1))) else .bad).bind λy=>zv (.int c) y).bind λx=>zP x (.int 40692)).bind λx=>jj x (.int 2147483399)).s λt=>RS.nx [.vl (scr ns),.vl (.int k),.vl (.int m),.vl t]) with
   | .nx ρ' =>_
   | r=>r)=_
 rw[if_pos cm1];show zi (match ((((if Wi (c+6151*(k+1)) 40692 then R.ok (T.int ((c+6151*(k+1))*40692)) else .bad)).bind λx=>jj x (.int 2147483399)).s λt=>RS.nx [.vl (scr ns),.vl (.int k),.vl (.int m),.vl t]) with
   | .nx ρ' =>_
   | r=>r)=_
 rw[if_pos cm2];show zi (zo (zc jj (zc jj (zc zv (zc zP (vE 3) (vE 3)) (zc JD (vE 3) (cE (.int 31)))) (cE (.int 2147483629))) (vE 2)) [.vl (scr ns),.vl (.int k),.vl (.int m),.vl (.int ((c+6151*(k+1))*40692 % 2147483399))])=_;rw[hd];show zi (((((if Wi d d then R.ok (T.int (d*d)) else .bad).bind λx=>zv x (.int (d / 31))).bind λx=>jj x (.int 2147483629)).bind λx=>jj x (.int m)).s λt=>RS.rt t)=_
 rw[if_pos cm3];show zi ((if 0 < m then R.ok (T.int ((d*d+d / 31) % 2147483629 % m)) else .bad).s λt=>RS.rt t)=_
 rw[if_pos hm];rfl
theorem Yc {ft:En->R Bool}{fe:En->R T}:∀(ts:List T) (ρ:En) (x:Sl),zr (zl 0) ft fe ts (ρ.set 0 x)=zr (zl 0) ft fe ts ρ
 | [],_,_=>rfl
 | t :: ts,ρ,x=>by
  unfold zr zl;rw[List.set_set]
theorem ZE {ft:En->R Bool}{fe:En->R T}{p:T->Bool}{h:T->T}:∀(ts:List T) (ρ:En),(∀t∈ts,ft (ρ.set 0 (.vl t))= .ok (p t)/\(p t=true->fe (ρ.set 0 (.vl t))= .ok (h t)))->zr (zl 0) ft fe ts ρ= .ok ((ts.filter p).map h)
 | [],_,_=>rfl
 | t :: ts,ρ,H=>by
  obtain⟨h1,h2⟩:=H t aa;have ih:=ZE ts ρ λu hu=>H u (a8 _ hu);have e:zr (zl 0) ft fe (t :: ts) ρ=(ft (ρ.set 0 (.vl t))).bind λk=>if k=true then (fe (ρ.set 0 (.vl t))).bind λv=>(zr (zl 0) ft fe ts (ρ.set 0 (.vl t))).bind λvs=> .ok (v :: vs) else zr (zl 0) ft fe ts (ρ.set 0 (.vl t)):=rfl
  rw[e,h1,Yc,ih];show (if p t=true then _ else _)=_
  cases hp:p t with
  | true=>rw[if_pos rfl,h2 hp,List.filter_cons_of_pos hp];rfl
  | false=>rw[if_neg ax,List.filter_cons_of_neg (by rw[hp];exact ax)]
theorem Yd {fe:En->R T}{h:T->T}(ts:List T)(ρ:En)(H:∀t∈ts,fe (ρ.set 0 (.vl t))= .ok (h t)):zr (zl 0) zN fe ts ρ= .ok (ts.map h):=by
 have:=ZE (ft:=zN) (fe:=fe) (p:=λ_=>true) (h:=h) ts ρ λt ht=>⟨rfl,λ_=>H t ht⟩;rw[this,fK.mpr (λ_ _=>rfl)]
theorem Z0 {fe:En->R T}{h:T->T}{k:Nat}{js:List Nat}{ρ:En}(ts:List T)(hl:ts.length<=bnd)(H:∀t∈ts,fe ((w8 k js ρ).set 0 (.vl t))= .ok (h t)):zp (zl 0) zN fe k js ρ ts= .ok (ts.map h):=by
 unfold zp;rw[if_pos hl,Yd ts _ H];rfl
theorem Jp (p:T->Bool):∀ts:List T,Wz (ts.map λt=>T.bl (p t))=some (ts.all p)
 | []=>rfl
 | t :: ts=>by
  show (match Wz (ts.map λt=>T.bl (p t)) with | some j=>some (p t && j) | none=>none)=_
  rw[Jp p ts];rfl
noncomputable def isW:T->Bool
 | .int _=>true
 | _=>false
theorem Jq (t:T):f_b [t]= .ok (.bl (isW t)):=by cases t <;> rfl
noncomputable def UE (a b:Nat):T->Bool
 | .tup xs=>decide (a<=xs.length) && decide (xs.length<=b)
 | _=>false
theorem Zu (t:T)(a b:Nat):f_i [t,.int a,.int b]= .ok (.bl (UE a b t)):=by
 cases t with
 | tup xs=>
  show zi ((if decide ((a:Int)<=(xs.length:Int))=true then R.ok (T.bl (decide ((xs.length:Int)<=(b:Int)))) else .ok (.bl false)).s λt=> .rt t)=_
  have e1:decide ((a:Int)<=(xs.length:Int))=decide (a<=xs.length):=by simp
  have e2:decide ((xs.length:Int)<=(b:Int))=decide (xs.length<=b):=by simp
  rw[e1,e2];show _=R.ok (T.bl (decide (a<=xs.length) && decide (xs.length<=b)));cases decide (a<=xs.length) <;> rfl
 | _=>rfl
noncomputable def Jd (lo hi:Int):T->T->Bool
 | .int i,.int j=>decide (lo<=i) && decide (i<=j) && decide (j<=hi)
 | _,_=>false
theorem Ye (t u:T)(lo hi:Int):gB [t,u,.int lo,.int hi]= .ok (.bl (Jd lo hi t u)):=by
 cases t with
 | int i=>
  cases u with
  | int j=>
   show zi ((if decide (lo<=i)=true then (if decide (i<=j)=true then R.ok (T.bl (decide (j<=hi))) else .ok (.bl false)) else .ok (.bl false)).s λt=> .rt t)=_
   show _=R.ok (T.bl (decide (lo<=i) && decide (i<=j) && decide (j<=hi)));cases decide (lo<=i) <;> cases decide (i<=j) <;> rfl
  | _=>rfl
 | _=>cases u <;> rfl
noncomputable def Z8 (c:Nat):Bool:=decide (97<=c) && decide (c<=122)
noncomputable def Ze:T->Bool
 | .str x=>decide (1<=x.length) && decide (x.length<=3) && x.cps.toList.all Z8
 | _=>false
theorem vO (a b:Nat):decide ([a] < [b])=decide (a < b):=by
 by_cases h:a < b
 ·rw[decide_eq_true h];exact decide_eq_true (List.Lex.rel h)
 ·rw[decide_eq_false h];refine decide_eq_false λz=> ?_;cases z with
  | rel h' =>exact h h'
  | cons h' =>cases h'
theorem xw (c:Nat)(ρ:En):chE leC leC (cE (.str "a")) (vB 0) (cE (.str "z")) ((Sl.vl (.str ⟨#[c]⟩)) :: ρ)= .ok (.bl (Z8 c)):=by
 have e1:leC (.str "a") (.str ⟨#[c]⟩)= .ok (decide (97<=c)):=by
  show R.ok (!decide ([c] < [97]))=_;rw[vO]
  by_cases h:c < 97
  ·rw[decide_eq_true h,decide_eq_false (by omega)];rfl
  ·rw[decide_eq_false h,decide_eq_true (by omega)];rfl
 have e2:leC (.str ⟨#[c]⟩) (.str "z")= .ok (decide (c<=122)):=by
  show R.ok (!decide ([122] < [c]))=_;rw[vO]
  by_cases h:122 < c
  ·rw[decide_eq_true h,decide_eq_false (by omega)];rfl
  ·rw[decide_eq_false h,decide_eq_true (by omega)];rfl
 show (leC (.str "a") (.str ⟨#[c]⟩)).bind (λk=>if k=true then (leC (.str ⟨#[c]⟩) (.str "z")).bind λk' =>R.ok (T.bl k') else R.ok (T.bl false))=_
 rw[e1,e2];unfold Z8;show (if decide (97<=c)=true then R.ok (T.bl (decide (c<=122))) else .ok (.bl false))=_
 cases decide (97<=c) <;> rfl
noncomputable def xx:T->Prop
 | .str x=>x.length<=bnd
 | _=>True
theorem Yf (t:T)(ht:xx t):f_t [t]= .ok (.bl (Ze t)):=by
 cases t with
 | str x=>
  have hx:x.length<=bnd:=ht;have e0:zY (.str x)= .ok (.int x.length):=if_pos hx;have ec:zp (zl 0) zN (chE leC leC (cE (.str "a")) (vB 0) (cE (.str "z"))) 1 [] [.vl (.str x)] (jD x)= .ok (x.cps.toList.map λc=>T.bl (Z8 c)):=by
   have hs:(jD x).length<=bnd:=by unfold jD;rw[xqz,cU];exact hx
   have:=Z0 (fe:=chE leC leC (cE (.str "a")) (vB 0) (cE (.str "z"))) (h:=λt=>match t with | .str y=>T.bl (Z8 (y.cps.toList.headD 0)) | t=>t) (k:=1) (js:=[]) (ρ:=[.vl (.str x)]) (jD x) hs λt ht=>by
    unfold jD at ht;obtain⟨c,_,rfl⟩:=au.mp ht;exact xw c []
   rw[this];unfold jD;rw[aX];rfl
  have ea:Wz (x.cps.toList.map λc=>T.bl (Z8 c))=some (x.cps.toList.all Z8):=by
   have:=Jp (λt=>match t with | .str y=>Z8 (y.cps.toList.headD 0) | _=>true) (jD x)
   unfold jD at this;rw[aX,fW]at this;exact this
  have e1:f_t [.str x]=zi (match ((((zY (.str x)).bind λy=>(leC (.int 1) y).bind λk=>if k=true then leC y (.int 3) else .ok false).bind λb=> .ok (!b)).s λk=>if k=true then RS.rt (.bl false) else .nx [.vl (.str x)]) with
    | .nx ρ' =>zo (ap1 qJ (zF (Zs (vE 0)) (zl 0) (zN) (chE leC leC (cE (.str "a")) (vB 0) (cE (.str "z"))) 1 [])) ρ'
    | r=>r):=rfl
  rw[e1,e0];have c1:decide ((1:Int)<=(x.length:Int))=decide (1<=x.length):=by
   by_cases h:1<=x.length
   ·rw[decide_eq_true h];exact decide_eq_true (by omega)
   ·rw[decide_eq_false h];exact decide_eq_false (by omega)
  have c2:decide ((x.length:Int)<=(3:Int))=decide (x.length<=3):=by
   by_cases h:x.length<=3
   ·rw[decide_eq_true h];exact decide_eq_true (by omega)
   ·rw[decide_eq_false h];exact decide_eq_false (by omega)
  show zi (match ((((if decide ((1:Int)<=(x.length:Int))=true then R.ok (decide ((x.length:Int)<=(3:Int))) else .ok false)).bind λb=> .ok (!b)).s λk=>if k=true then RS.rt (.bl false) else .nx [.vl (.str x)]) with
    | .nx ρ' =>_
    | r=>r)=_
  rw[c1,c2];show _=R.ok (T.bl (decide (1<=x.length) && decide (x.length<=3) && x.cps.toList.all Z8));cases decide (1<=x.length) with
  | false=>rfl
  | true=>
   cases decide (x.length<=3) with
   | false=>rfl
   | true=>
    show zi ((((zp (zl 0) zN (chE leC leC (cE (.str "a")) (vB 0) (cE (.str "z"))) 1 [] [.vl (.str x)] (jD x)).bind λvs=> .ok (.lst vs)).bind qJ).s λt=> .rt t)=_;rw[ec];show zi ((match Wz (x.cps.toList.map λc=>T.bl (Z8 c)) with | some k=>R.ok (T.bl k) | none=> .bad).s λt=> .rt t)=_
    rw[ea];rfl
 | _=>rfl
theorem bOk {α β:Type}(a:α)(f:α->R β):(R.ok a).bind f=f a:=rfl
theorem Zv {α:Type}(a:α)(f:α->RS):(R.ok a).s f=f a:=rfl
theorem jG (r:R T):zi (r.s λt=> .rt t)=r:=by cases r <;> rfl
theorem Z9 (f:En->R T)(ρ:En):zo f ρ=(f (frz ρ)).s λt=> .rt t:=rfl
theorem zG {g:List T->R T}{f:En->R T}{ρ:En}:za 1 g (z9 f zd) ρ=(f ρ).bind λx=>g [x]:=by
 unfold za z9 zd;cases f ρ <;> rfl
theorem zt {g:List T->R T}{f f' :En->R T}{ρ:En}:za 2 g (z9 f (z9 f' zd)) ρ=(f ρ).bind λx=>(f' ρ).bind λy=>g [x,y]:=by
 unfold za z9 zd;cases f ρ with
 | ok a=>cases f' ρ <;> rfl
 | ex c=>rfl
 | bad=>rfl
theorem Z2 {g:List T->R T}{f f' f'' :En->R T}{ρ:En}:za 3 g (z9 f (z9 f' (z9 f'' zd))) ρ=(f ρ).bind λx=>(f' ρ).bind λy=>(f'' ρ).bind λz=>g [x,y,z]:=by
 unfold za z9 zd;cases f ρ with
 | ok a=>
  cases f' ρ with
  | ok b=>cases f'' ρ <;> rfl
  | ex c=>rfl
  | bad=>rfl
 | ex c=>rfl
 | bad=>rfl
theorem z0p {g:List T->R T}{f f' f'' f3:En->R T}{ρ:En}:za 4 g (z9 f (z9 f' (z9 f'' (z9 f3 zd)))) ρ=(f ρ).bind λx=>(f' ρ).bind λy=>(f'' ρ).bind λz=>(f3 ρ).bind λw=>g [x,y,z,w]:=by
 unfold za z9 zd;cases f ρ with
 | ok a=>
  cases f' ρ with
  | ok b=>
   cases f'' ρ with
   | ok c=>cases f3 ρ <;> rfl
   | ex c=>rfl
   | bad=>rfl
  | ex c=>rfl
  | bad=>rfl
 | ex c=>rfl
 | bad=>rfl
noncomputable def gZ (r k:R T):R T:=r.bind λx=>match x with
 | .bl true=>k
 | .bl false=> .ok (.bl false)
 | _=> .bad
theorem jH (f g:En->R T)(ρ:En):ZS f g ρ=gZ (f ρ) (g ρ):=rfl
theorem Z3 (a:Bool)(k:R T):gZ (.ok (.bl a)) k=if a=true then k else .ok (.bl false):=by cases a <;> rfl
theorem v0 {t:T}{ρ:En}:vE 0 (.vl t :: ρ)= .ok t:=rfl
theorem v1 {t:T}{a:Sl}{ρ:En}:vE 1 (a :: .vl t :: ρ)= .ok t:=rfl
theorem w0 {t:T}{ρ:En}:vB 0 (.vl t :: ρ)= .ok t:=rfl
theorem w1 {t:T}{a:Sl}{ρ:En}:vB 1 (a :: .vl t :: ρ)= .ok t:=rfl
theorem zI {t:T}{ρ:En}:cE t ρ= .ok t:=rfl
theorem zf {g:T->T->R T}{f f' :En->R T}{ρ:En}:zc g f f' ρ=(f ρ).bind λx=>(f' ρ).bind λy=>g x y:=rfl
theorem j0 {t:T}{ρ:En}:frz (.vl t :: ρ)= .vl t :: frz ρ:=rfl
theorem we {ρ:En}:frz (.un :: ρ)= .un :: frz ρ:=rfl
theorem jh:frz []=[]:=rfl
theorem Yg {g g' :T->T->R Bool}{fa fb fc:En->R T}{ρ:En}:chE g g' fa fb fc ρ=(fa ρ).bind λx=>(fb ρ).bind λy=>(g x y).bind λk=>if k=true then (fc ρ).bind λz=>(g' y z).bind λk' => .ok (.bl k') else .ok (.bl false):=rfl
theorem Zf {g:T->R T}{f:En->R T}{ρ:En}:ap1 g f ρ=(f ρ).bind g:=rfl
theorem Jm {i j:Int}:leC (.int i) (.int j)= .ok (decide (i<=j)):=rfl
theorem Z4 {g:T->T->R Bool}{f f' :En->R T}{ρ:En}:Zh g f f' ρ=(f ρ).bind λx=>(f' ρ).bind λy=>(g x y).bind λb=> .ok (.bl b):=rfl
theorem j1 {xs:List T}:zY (.tup xs)= .ok (.int xs.length):=rfl
theorem Kl {xs:List T}:zY (.lst xs)= .ok (.int xs.length):=rfl
mutual
noncomputable def sOk:T->Prop
 | .str x=>x.length<=bnd
 | .tup xs=>u9 xs
 | .lst xs=>u9 xs
 | .fz xs=>u9 xs
 | _=>True
noncomputable def u9:List T->Prop
 | []=>True
 | t :: ts=>sOk t/\u9 ts
end
theorem jI:∀{ts:List T} {t:T},u9 ts->t∈ts->sOk t
 | u :: ts,t,h,hm=>by
  have h' :sOk u/\u9 ts:=by simpa only[u9] using h
  rcases ah.mp hm with rfl | hm
  ·exact h'.1
  ·exact jI h'.2 hm
theorem sOk.str {t:T}(h:sOk t):xx t:=by
 cases t with
 | str x=>
  have h' :x.length<=bnd:=by simpa only[sOk] using h
  exact h'
 | _=>trivial
theorem W2 {xs:List T}(h:sOk (.tup xs)):u9 xs:=by simpa only[sOk] using h
noncomputable def zH:T->Bool
 | .tup [w,.int i]=>Ze w && decide (1<=i) && decide (i<=20)
 | _=>false
theorem Yh (t:T)(ht:sOk t):xu [t]= .ok (.bl (zH t)):=by
 have e:xu [t]=zi (gC f_b f_i f_t [.vl t]):=rfl;rw[e,gC];simp only[Z9,jG,j0,jh,jH,Z2,zG,v0,zI,bOk,zf,Yg];rw[show f_i [t,.int 2,.int 2]= .ok (.bl (UE 2 2 t)) from Zu t 2 2,Z3];cases t with
 | tup xs=>
  match xs,ht with
  | [],_=>rfl
  | [_],_=>rfl
  | _ :: _ :: _ :: _,_=>simp[UE,zH]
  | [w,n],ht=>
   have hw:sOk w:=jI (W2 ht) (by simp)
   show (if true=true then gZ (f_t [w]) (gZ (f_b [n]) ((leC (.int 1) n).bind λk=>if k=true then (leC n (.int 20)).bind λk' =>R.ok (T.bl k') else .ok (.bl false))) else _)=_
   rw[if_pos rfl,Yf w hw.str,Jq,Z3,Z3];cases n with
   | int i=>
    show (if Ze w=true then (if true=true then (if decide (1<=i)=true then R.ok (T.bl (decide (i<=20))) else .ok (.bl false)) else _) else _)=R.ok (T.bl (Ze w && decide (1<=i) && decide (i<=20)))
    cases Ze w <;> cases decide (1<=i) <;> rfl
   | _=>
    show (if Ze w=true then (if false=true then _ else R.ok (T.bl false)) else R.ok (T.bl false))=R.ok (T.bl false)
    cases Ze w <;> rfl
 | _=>rfl
theorem zR (f g:En->RS)(ρ:En):zj f g ρ=match f ρ with | .nx ρ' =>g ρ' | r=>r:=rfl
theorem ZU (g:En->R Bool)(f1 f2:En->RS)(ρ:En):ifS g f1 f2 ρ=(g ρ).s λk=>if k=true then f1 ρ else f2 ρ:=rfl
theorem Yi (f g:En->R Bool)(ρ:En):orT f g ρ=(f ρ).bind λx=>if x=true then .ok true else g ρ:=rfl
theorem Je (f:En->R Bool)(ρ:En):Jj f ρ=(f ρ).bind λx=> .ok (!x):=rfl
theorem j2 (f:En->R T)(ρ:En):ZJ f ρ=(f ρ).bind tru:=rfl
theorem JL (k:Bool):tru (.bl k)= .ok k:=rfl
theorem Jf (i:Nat)(f:En->R T)(ρ:En):zz i f ρ=(f ρ).s λt=> .nx (ρ.set i (.vl t)):=rfl
theorem zu {g:T->T->R Bool}{f f' :En->R T}{ρ:En}:zh g f f' ρ=(f ρ).bind λx=>(f' ρ).bind λy=>g x y:=rfl
theorem zC {fi:En->R (List T)}{g:T->En->R En}{ft:En->R Bool}{fe:En->R T}{k:Nat}{js:List Nat}{ρ:En}:zF fi g ft fe k js ρ=(fi ρ).bind λts=>(zp g ft fe k js ρ ts).bind λvs=> .ok (.lst vs):=rfl
theorem Zi {f:En->R T}{ρ:En}:Zs f ρ=(f ρ).bind Jb:=rfl
noncomputable def zZ:T->Str
 | .tup (.str w :: _)=>w
 | _=>⟨#[]⟩
noncomputable def uQ:T->Bool
 | .tup cs=>decide (1<=cs.length) && decide (cs.length<=4) && cs.all zH && decide ((dd [] (cs.map zZ)).length=cs.length)
 | _=>false
theorem WJ {c:T}(h:zH c=true):∃w n,c= .tup [.str w,n]:=by
 unfold zH at h;split at h
 ·rename_i w i;cases w with
  | str x=>exact⟨x,_,rfl⟩
  | _=>cases h
 ·cases h
theorem wv:∀{cs:List T},cs.all zH=true->UR (cs.map λc=>T.str (zZ c))=some (cs.map zZ)
 | [],_=>rfl
 | c :: cs,h=>by
  rw[bq,ac]at h;have ih:=wv h.2;show (match UR (cs.map λc=>T.str (zZ c)) with | some ys=>some (zZ c :: ys) | none=>none)=_
  rw[ih];rfl
theorem UF (t:T)(ht:sOk t):Kg [t]= .ok (.bl (uQ t)):=by
 have e:Kg [t]=zi (gE f_i xu [.vl t,.un]):=rfl;rw[e,gE];simp only[zR,ZU,Yi,Je,j2,Z2,v0,zI,bOk];rw[show f_i [t,.int 1,.int 4]= .ok (.bl (UE 1 4 t)) from Zu t 1 4];simp only[bOk,JL];cases t with
 | tup cs=>
  have hl:UE 1 4 (.tup cs)=(decide (1<=cs.length) && decide (cs.length<=4)):=rfl;rw[hl];show _=R.ok (T.bl (decide (1<=cs.length) && decide (cs.length<=4) && cs.all zH && decide ((dd [] (cs.map zZ)).length=cs.length)));cases h14:(decide (1<=cs.length) && decide (cs.length<=4)) with
  | false=>rfl
  | true=>
   rw[ac,decide_eq_true_eq,decide_eq_true_eq]at h14;have hb:cs.length<=bnd:=aq h14.2 (by decide)
   have ec:zp (zl 0) zN (za 1 xu (z9 (vE 0) zd)) 1 [] [.vl (.tup cs),.un] cs= .ok (cs.map λc=>T.bl (zH c)):=
    Z0 (h:=λc=>T.bl (zH c)) cs hb λc hc=>by
     show za 1 xu (z9 (vE 0) zd) [.vl c]=_;rw[zG,v0,bOk];exact Yh c (jI (W2 ht) hc)
   simp only[eG,aH,if_false,Zf,zC,Zi,v0,bOk,Jb,ec];have ea:qJ (.lst (cs.map λc=>T.bl (zH c)))= .ok (.bl (cs.all zH)):=by
    show (match Wz (cs.map λc=>T.bl (zH c)) with | some k=>R.ok (T.bl k) | none=> .bad)=_
    rw[Jp]
   rw[ea];simp only[bOk,JL,Zv];cases hall:cs.all zH with
   | false=>rfl
   | true=>
    have ew:zp (zl 0) zN (zc ixT (vE 0) (cE (.int 0))) 1 [] [.vl (.tup cs),.un] cs= .ok (cs.map λc=>T.str (zZ c)):=
     Z0 (h:=λc=>T.str (zZ c)) cs hb λc hc=>by
      obtain⟨w,n,rfl⟩:=WJ (aG.mp hall c hc);rfl
    simp only[eG,aH,if_false,nxS,Jf,zC,Zi,v0,bOk,Jb,ew,Zv,Z9];show zi (((Qm (.lst (cs.map λc=>T.str (zZ c)))).bind λx=>(zY (.lst (cs.map λc=>T.str (zZ c)))).bind λy=>(eqC x y).bind λb=>R.ok (T.bl b)).s λt=> .rt t)=_;have el:Qm (.lst (cs.map λc=>T.str (zZ c)))= .ok (.int (dd [] (cs.map zZ)).length):=by
     show (match UR (cs.map λc=>T.str (zZ c)) with | some ys=>if (cs.map λc=>T.str (zZ c)).length+1 < 4096 then R.ok (T.int (dd [] ys).length) else .bad | none=> .bad)=_
     rw[wv hall];exact if_pos (by rw[xqz];omega)
    rw[el,Kl,xqz,jG];show R.ok (T.bl (((dd [] (cs.map zZ)).length:Int) == (cs.length:Int)))=_;congr 2
    by_cases hq:(dd [] (cs.map zZ)).length=cs.length
    ·rw[decide_eq_true hq,hq];simp
    ·rw[decide_eq_false hq];simp only[cf,beq_eq_false_iff_ne];omega
 | _=>rfl
noncomputable def isS (w:Str):T->Bool
 | .str s=>s == w
 | _=>false
theorem eqS (h:T)(w:Str):eqC h (.str w)= .ok (isS w h):=by cases h <;> rfl
theorem eqI (i j:Int):eqC (.int i) (.int j)= .ok (i == j):=rfl
theorem at0 {h:T}{r:List T}:ixT (.tup (h :: r)) (.int 0)= .ok h:=by
 show atT (h :: r) 0=_;unfold atT;rw[show atI (h :: r) 0=some h from ZV (j:=0) rfl]
theorem at1 {h a:T}{r:List T}:ixT (.tup (h :: a :: r)) (.int 1)= .ok a:=by
 show atT (h :: a :: r) 1=_;unfold atT;rw[show atI (h :: a :: r) 1=some a from ZV (j:=1) rfl]
theorem at2 {h a b:T}{r:List T}:ixT (.tup (h :: a :: b :: r)) (.int 2)= .ok b:=by
 show atT (h :: a :: b :: r) 2=_;unfold atT;rw[show atI (h :: a :: b :: r) 2=some b from ZV (j:=2) rfl]
theorem at3 {h a b c:T}{r:List T}:ixT (.tup (h :: a :: b :: c :: r)) (.int 3)= .ok c:=by
 show atT (h :: a :: b :: c :: r) 3=_;unfold atT;rw[show atI (h :: a :: b :: c :: r) 3=some c from ZV (j:=3) rfl]
noncomputable def JM (k:T->Bool):T->Bool
 | .tup ks=>decide (1<=ks.length) && decide (ks.length<=3) && ks.all k
 | _=>false
noncomputable def WK:List T->Bool
 | [a,b]=>Jd (-20) 20 a b
 | _=>false
noncomputable def Yj:List T->Bool
 | [c]=>uQ c
 | _=>false
noncomputable def Km (k:T->Bool):List T->Bool
 | [c]=>JM k c
 | _=>false
noncomputable def Yk (k:T->Bool):List T->Bool
 | [c,a,b]=>Jd 0 3 a b && k c
 | _=>false
noncomputable def UG (k:T->Bool):T->Bool
 | .tup (h :: r)=>if isS "whole" h=true then WK r else if isS "pick" h=true then Yj r else if isS "row" h=true then Km k r else if isS "many" h=true then Yk k r else false
 | _=>false
noncomputable def isK:Nat->T->Bool
 | 0,_=>false
 | d+1,t=>UG (isK d) t
theorem Yl {α:Type}(xs:List α)(n:Nat):((xs.length:Int) == (n:Int))=decide (xs.length=n):=by
 by_cases h:xs.length=n
 ·rw[decide_eq_true h,h];simp
 ·rw[decide_eq_false h,beq_eq_false_iff_ne];omega
theorem vP {f:En->R T}{ρ:En}:Q6 f ρ=(f ρ).bind λx=>match x with | .int i=> .ok (.int (-i)) | _=> .bad:=rfl
theorem Zg {i j:Int}:jP (.int i) (.int j)= .ok (.int (i - j)):=rfl
set_option maxHeartbeats 1000000 in
theorem xy {n:Nat}{d:Nat}{k:T->Bool}(H0:∀t,sOk t->S_9 n 0 [t,.int d]= .ok (.bl (k t)))(H1:∀t,sOk t->S_9 n 1 [t,.int d]= .ok (.bl (JM k t)))(t:T)(ht:sOk t):
  S_9 (n+1) 0 [t,.int ((d+1:Nat):Int)]= .ok (.bl (UG k t)):=by
 have e:S_9 (n+1) 0 [t,.int ((d+1:Nat):Int)]=zi (b_9 gB (S_9 n 0) Kg (S_9 n 1) [.vl t,.vl (.int ((d+1:Nat):Int))]):=rfl;have hL:(((d+1:Nat):Int) == 0)=false:=by rw[beq_eq_false_iff_ne];omega
 have hL1:((d+1:Nat):Int) - 1=(d:Int):=by omega
 rw[e,b_9];simp only[zR,ZU,Yi,Je,j2,zu,w0,w1,zI,bOk,eqI,hL,aH,if_false,Zf];cases t with
 | tup xs=>
  cases xs with
  | nil=>rfl
  | cons h r=>
   have hs:=W2 ht;have hm:∀u∈r,sOk u:=λu hu=>jI hs (a8 _ hu);have z0:(((h :: r).length:Int) == 0)=false:=by rw[beq_eq_false_iff_ne];simp only[ar];omega
   have ti:wO "tuple" (.tup (h :: r))= .ok (.bl true):=rfl;simp only[ti,bOk,JL,eG,aH,if_false,j1,eqI,z0,Zv,nxS,zf,v0,v1,zI,at0,eqS,Z9,j0,jh,jH,Z4,Zf,w0,z0p,zG,zt,vP,Zg,hL1];show _=R.ok (T.bl (if isS "whole" h=true then WK r else if isS "pick" h=true then Yj r else if isS "row" h=true then Km k r else if isS "many" h=true then Yk k r else false))
   have l3:(((h :: r).length:Int) == 3)=decide ((h :: r).length=3):=Yl (h :: r) 3;have l2:(((h :: r).length:Int) == 2)=decide ((h :: r).length=2):=Yl (h :: r) 2;have l4:(((h :: r).length:Int) == 4)=decide ((h :: r).length=4):=Yl (h :: r) 4;simp only[l2,l3,l4,Z3];cases isS "whole" h with
   | true=>
    simp only[if_true]
    match r,hm with
    | [],_=>rfl
    | [_],_=>rfl
    | _ :: _ :: _ :: _,_=>simp[WK,Zv,zi]
    | [a,b],_=>
     simp only[at1,at2,bOk,Ye];rfl
   | false=>
    simp only[aH,if_false,v0,v1,w0,bOk,at0,Zv,j0,jh,j1,eqI,l2,l4,Z3,Zg,hL1];cases isS "pick" h with
    | true=>
     simp only[if_true]
     match r,hm with
     | [],_=>rfl
     | _ :: _ :: _,_=>simp[Yj,Zv,zi]
     | [c],hm=>
      simp only[at1,bOk,UF c (hm c (by simp))]
      rfl
    | false=>
     simp only[aH,if_false,v0,v1,w0,bOk,at0,Zv,j0,jh,j1,eqI,l2,l4,Z3,Zg,hL1];cases isS "row" h with
     | true=>
      simp only[if_true]
      match r,hm with
      | [],_=>rfl
      | _ :: _ :: _,_=>simp[Km,Zv,zi]
      | [c],hm=>
       simp only[at1,bOk,H1 c (hm c (by simp))]
       rfl
     | false=>
      simp only[aH,if_false,v0,v1,w0,bOk,at0,Zv,j0,jh,j1,eqI,l2,l4,Z3,Zg,hL1];cases isS "many" h with
      | true=>
       simp only[if_true]
       match r,hm with
       | [],_=>rfl
       | [_],_=>rfl
       | [_,_],_=>rfl
       | _ :: _ :: _ :: _ :: _,_=>simp[Yk,Zv,zi]
       | [c,a,b],hm=>
        simp only[at1,at2,at3,bOk,Ye,H0 c (hm c (by simp)),Z3]
        show zi (match (if Jd 0 3 a b=true then R.ok (T.bl (k c)) else .ok (.bl false)).s (λt=>RS.rt t) with | .nx _=>RS.rt (T.bl false) | r=>r)=R.ok (T.bl (Jd 0 3 a b && k c))
        cases Jd 0 3 a b <;> rfl
      | false=>rfl
 | _=>rfl
theorem Kn {n:Nat}{d:Nat}{k:T->Bool}(H0:∀t,sOk t->S_9 n 0 [t,.int d]= .ok (.bl (k t)))(t:T)(ht:sOk t):S_9 (n+1) 1 [t,.int d]= .ok (.bl (JM k t)):=by
 have e:S_9 (n+1) 1 [t,.int d]=zi (gF f_i (S_9 n 0) [.vl t,.vl (.int d)]):=rfl;rw[e,gF];simp only[Z9,jG,j0,jh,jH,Z2,v0,zI,bOk];rw[show f_i [t,.int 1,.int 3]= .ok (.bl (UE 1 3 t)) from Zu t 1 3,Z3];cases t with
 | tup ks=>
  show (if (decide (1<=ks.length) && decide (ks.length<=3))=true then _ else _)=R.ok (T.bl (decide (1<=ks.length) && decide (ks.length<=3) && ks.all k))
  cases h13:(decide (1<=ks.length) && decide (ks.length<=3)) with
  | false=>rfl
  | true=>
   rw[ac,decide_eq_true_eq,decide_eq_true_eq]at h13;have hb:ks.length<=bnd:=aq h13.2 (by decide)
   have ec:zp (zl 0) zN (za 2 (S_9 n 0) (z9 (vE 0) (z9 (vE 1) zd))) 1 [1] [.vl (.tup ks),.vl (.int d)] ks= .ok (ks.map λc=>T.bl (k c)):=
    Z0 (h:=λc=>T.bl (k c)) ks hb λc hc=>by
     show za 2 (S_9 n 0) (z9 (vE 0) (z9 (vE 1) zd)) [.vl c,.vl (.int d)]=_;rw[zt,v0,v1,bOk,bOk];exact H0 c (jI (W2 ht) hc)
   simp only[if_true,Zf,zC,Zi,v0,bOk,Jb,ec];show (match Wz (ks.map λc=>T.bl (k c)) with | some k=>R.ok (T.bl k) | none=> .bad)=_
   rw[Jp];rfl
 | _=>rfl
theorem uj:∀(d n:Nat),2*d+1<=n->∀t,sOk t->S_9 n 0 [t,.int d]= .ok (.bl (isK d t))
 | 0,n+1,_,t,_=>rfl
 | d+1,n+2,h,t,ht=>xy (n:=n+1) (λu hu=>uj d (n+1) (by omega) u hu) (λu hu=>Kn (λv hv=>uj d n (by omega) v hv) u hu) t ht
theorem UH (t:T)(ht:sOk t):f_3 [t]= .ok (.bl (isK 3 t)):=by
 have e:f_3 [t]=zi (b_3 (f_9 20) [.vl t]):=rfl;rw[e,b_3];simp only[Z9,jG,j0,jh,zt,v0,zI,bOk];exact uj 3 20 (by omega) t ht
noncomputable def inR (lo hi:Int):T->Bool
 | .int i=>decide (lo<=i) && decide (i<=hi)
 | _=>false
theorem Ym (xs:List T):eqC (.lst xs) (.lst [])= .ok xs.isEmpty:=by cases xs <;> rfl
theorem WL:∀(ws acc:List Str),(dd acc ws).length<=acc.length+ws.length
 | [],acc=>ai _
 | w :: ws,acc=>by
  unfold dd;have:=WL ws (if w∈acc then acc else acc++[w])
  by_cases h:w∈acc
  ·rw[if_pos h]at this ⊢;simp only[ar];omega
  ·rw[if_neg h]at this ⊢;rw[aB,aJ]at this;simp only[ar];omega
theorem W3:∀(ws acc:List Str),((dd acc ws).length=acc.length+ws.length)↔∀(k:Nat) (w:Str),ws[k]? =some w->w ∉ acc++ws.take k
 | [],acc=>by simp[dd]
 | w :: ws,acc=>by
  unfold dd
  by_cases h:w∈acc
  ·rw[if_pos h];have:=WL ws acc;constructor
   ·intro e;simp only[ar]at e;omega
   ·intro H;exact absurd (cJ _ h) (H 0 w rfl)
  ·rw[if_neg h];have ih:=W3 ws (acc++[w]);rw[aB,aJ]at ih;rw[show acc.length+(w :: ws).length=acc.length+1+ws.length by simp only[ar];omega,ih]
   constructor
   ·intro H k v e;cases k with
    | zero=>simp at e;subst e;simpa using h
    | succ k=>
     have:=H k v (by simpa using e)
     simpa[bx] using this
   ·intro H k v e;have:=H (k+1) v (by simpa using e)
    simpa[bx] using this
theorem ltI (i j:Int):ltC (.int i) (.int j)= .ok (decide (i < j)):=rfl
theorem v2 {t:T}{a b:Sl}{ρ:En}:vE 2 (a :: b :: .vl t :: ρ)= .ok t:=rfl
theorem v3 {t:T}{a b c:Sl}{ρ:En}:vE 3 (a :: b :: c :: .vl t :: ρ)= .ok t:=rfl
theorem w2 {t:T}{a b:Sl}{ρ:En}:vB 2 (a :: b :: .vl t :: ρ)= .ok t:=rfl
theorem w3 {t:T}{a b c:Sl}{ρ:En}:vB 3 (a :: b :: c :: .vl t :: ρ)= .ok t:=rfl
theorem w5 {t:T}{a b c d e:Sl}{ρ:En}:vB 5 (a :: b :: c :: d :: e :: .vl t :: ρ)= .ok t:=rfl
theorem v4 {t:T}{a b c d:Sl}{ρ:En}:vE 4 (a :: b :: c :: d :: .vl t :: ρ)= .ok t:=rfl
theorem W4 (f g:En->R Bool)(ρ:En):Wy f g ρ=(f ρ).bind λx=>if x=true then g ρ else .ok false:=rfl
theorem Ko {g g' :T->T->R Bool}{fa fb fc:En->R T}{ρ:En}:chT g g' fa fb fc ρ=(fa ρ).bind λx=>(fb ρ).bind λy=>(g x y).bind λk=>if k=true then (fc ρ).bind λz=>g' y z else .ok false:=rfl
theorem Yn (t:T):wO "tuple" t= .ok (.bl (match t with | .tup _=>true | _=>false)):=by cases t <;> rfl
theorem W5 (w:Str):∀ws:List Str,jo (λy=>eqF 30 y (.str w)) (ws.map T.str)=some (decide (w∈ws))
 | []=>rfl
 | x :: ws=>by
  have ih:=W5 w ws;show (match jo (λy=>eqF 30 y (.str w)) (ws.map T.str) with | none=>none | some c=>some ((x == w) || c))=_
  rw[ih];show some ((x == w) || decide (w∈ws))=_
  congr 1
  by_cases h:x=w
  ·subst h;simp
  ·have h' :¬ w=x:=λz=>h z.symm;simp[h,h']
theorem gtI (i j:Int):gtC (.int i) (.int j)= .ok (decide (i > j)):=rfl
theorem zT (i j:Int):zv (.int i) (.int j)= .ok (.int (i+j)):=rfl
theorem Kp (p:Int)(h0:0<=p)(h1:p < 26):ixT (.str "abcdefghijklmnopqrstuvwxyz") (.int p)= .ok (.str ⟨#[97+p.toNat]⟩):=by
 obtain⟨n,rfl⟩:=ck h0;have h:n < 26:=by omega
 clear h0 h1
 iterate 26 (refine(Nat.lt_or_eq_of_le (Nat.le_of_lt_succ h)).elim (λh=> ?_) (λe=>e ▸ rfl))
 exact absurd h (fj _)
noncomputable abbrev G1:En->R T:=zc ixT (vE 3) (za 3 f_4 (z9 (vE 1) (z9 (zc zv (zc zv (vE 2) (cE (.int 2))) (vE 0)) (z9 (cE (.int 26)) (zd)))))
theorem Kq (ns:List Int)(k:Int)(h0:0<=k)(j:Nat):∃c:Nat,(97<=c/\c<=122)/\G1 [.vl (.int (j:Int)),.vl (scr ns),.vl (.int k),.vl (.str "abcdefghijklmnopqrstuvwxyz")]= .ok (.str ⟨#[c]⟩):=by
 obtain⟨p,e,p0,p1⟩:=zM ns (k+2+j) 26 (by omega) (by omega)
 refine⟨97+p.toNat,⟨by omega,by omega⟩, ?_⟩
 simp only[G1,zf,v3,bOk,Z2,v1,v2,v0,zI,zT,e];exact Kp p p0 p1
theorem UI (ns:List Int)(k:Int)(h0:0<=k):∃w:Str,X9 [scr ns,.int k]= .ok (.str w)/\Ze (.str w)=true:=by
 have e:X9 [scr ns,.int k]=zi (gw f_4 [.vl (scr ns),.vl (.int k),.un]):=rfl;obtain⟨p,e0,p0,p1⟩:=zM ns k 6 h0 (by omega)
 have hset:∀t,([Sl.vl (scr ns),Sl.vl (.int k),.un]:En).set 2 (.vl t)=[Sl.vl (scr ns),Sl.vl (.int k),.vl t]:=λ_=>rfl;rw[e,gw];simp only[zR,ZU,Jf,zI,Zv,hset,zu,Z2,v0,v1,bOk,e0,gtI];cases hp:decide (p > 0) with
 | true=>
  obtain⟨q,e1,q0,q1⟩:=zM ns (k+1) 4 (by omega) (by omega)
  simp only[if_true,Z9,j0,jh,zf,Z2,v0,v1,zI,bOk,zT,e1];have hq:q=0\/q=1\/q=2\/q=3:=by omega
  rcases hq with rfl | rfl | rfl | rfl
  ·exact⟨"a",rfl,by decide⟩
  ·exact⟨"b",rfl,by decide⟩
  ·exact⟨"ab",rfl,by decide⟩
  ·exact⟨"cab",rfl,by decide⟩
 | false=>
  obtain⟨q,e1,q0,q1⟩:=zM ns (k+1) 3 (by omega) (by omega)
  simp only[aH,if_false,nxS,Z9,jG,j0,jh,Zf,zC];obtain⟨g,hg⟩:=h_.mp (Kq ns k h0);have ei:Zy (zc zv (cE (.int 1)) (za 3 f_4 (z9 (vE 0) (z9 (zc zv (vE 1) (cE (.int 1))) (z9 (cE (.int 3)) (zd)))))) [Sl.vl (scr ns),Sl.vl (.int k),.vl (.str "abcdefghijklmnopqrstuvwxyz")]= .ok (rng 0 (1+q).toNat):=by
   unfold Zy;simp only[zf,Z2,v0,v1,zI,bOk,zT,e1];rw[if_pos ⟨by omega,by omega⟩]
  have ec:∀n:Nat,n<=3->zp (zl 0) zN G1 1 [0,1,2] [Sl.vl (scr ns),Sl.vl (.int k),.vl (.str "abcdefghijklmnopqrstuvwxyz")] (rng 0 n)= .ok ((rng 0 n).map λt=>match t with | .int j=> .str ⟨#[g j.toNat]⟩ | t=>t):=λn hn=>
   Z0 (rng 0 n) (by unfold rng;rw[xqz,bp];exact aq hn (by decide)) λt ht=>by
    unfold rng at ht;obtain⟨j,_,rfl⟩:=au.mp ht;show G1 [.vl (.int (0+(j:Int))),.vl (scr ns),.vl (.int k),.vl (.str "abcdefghijklmnopqrstuvwxyz")]= .ok (.str ⟨#[g (0+(j:Int)).toNat]⟩);rw[f7,aT];exact(hg j).2
  rw[ei,bOk,ec _ (by omega),bOk,bOk]
  have hw:∀j,Z8 (g j)=true:=λj=>by
   obtain⟨a,b⟩:=(hg j).1;unfold Z8;rw[decide_eq_true a,decide_eq_true b];rfl
  have hq:q=0\/q=1\/q=2:=by omega
  rcases hq with rfl | rfl | rfl
  ·refine⟨⟨#[g 0]⟩,rfl, ?_⟩;show (Z8 (g 0) && true)=true;rw[hw 0];rfl
  ·refine⟨⟨#[g 0,g 1]⟩,rfl, ?_⟩;show (Z8 (g 0) && (Z8 (g 1) && true))=true;rw[hw 0,hw 1];rfl
  ·refine⟨⟨#[g 0,g 1,g 2]⟩,rfl, ?_⟩;show (Z8 (g 0) && (Z8 (g 1) && (Z8 (g 2) && true)))=true;rw[hw 0,hw 1,hw 2];rfl
theorem z0q (j:Int):zP (.int 5) (.int j)= .ok (.int (5*j)):=by
 show (if Wi 5 j then R.ok (T.int (5*j)) else .bad)=_
 rw[if_pos (.inl ⟨by decide,by decide⟩)]
theorem uR {f g:En->R T}{ρ:En}{x y:T}(hf:f ρ= .ok x)(hg:g ρ= .ok y):zW (z9 f (z9 g zd)) ρ= .ok (.tup [x,y]):=by
 unfold zW z9 zd;rw[hf,hg];rfl
theorem qM {f g h:En->R T}{ρ:En}{x y z:T}(hf:f ρ= .ok x)(hg:g ρ= .ok y)(hh:h ρ= .ok z):zW (z9 f (z9 g (z9 h zd))) ρ= .ok (.tup [x,y,z]):=by
 unfold zW z9 zd;rw[hf,hg,hh];rfl
theorem z0r {f g h i:En->R T}{ρ:En}{x y z w:T}(hf:f ρ= .ok x)(hg:g ρ= .ok y)(hh:h ρ= .ok z)(hi:i ρ= .ok w):zW (z9 f (z9 g (z9 h (z9 i zd)))) ρ= .ok (.tup [x,y,z,w]):=by
 unfold zW z9 zd;rw[hf,hg,hh,hi];rfl
noncomputable def Dst (ws:List Str):Prop:=∀(k:Nat) (w:Str),ws[k]? =some w->w ∉ ws.take k
theorem Dst.add {ws:List Str}(h:Dst ws){w:Str}(hw:w ∉ ws):Dst (ws++[w]):=λk x hx=>by
 by_cases hk:k < ws.length
 ·rw[aN hk]at hx;rw[List.take_append_of_le_length (by omega)]
  exact h k x hx
 ·rw[aK (by omega)]at hx
  have hk' :k=ws.length:=by
   rcases Nat.lt_or_ge (k - ws.length) 1 with z | z
   ·omega
   ·rw[aU (by simpa using z)]at hx;cases hx
  subst hk';rw[Nat.sub_self]at hx;cases hx;rw[List.take_left']
  ·exact hw
  ·rfl
noncomputable abbrev WM:En->RS:=zj (zz 5 (za 2 X9 (z9 (vE 0) (z9 (zc zv (zc zv (vE 1) (cE (.int 5))) (zc zP (cE (.int 5)) (vE 4))) (zd)))))
  (ifS (zh Uv (vB 5) (vB 3)) (Qd 3 (vE 5)) (nxS))
theorem JN (ns:List Int)(k:Int)(h0:0<=k):∀(js:List Nat) (ws:List Str) (x4 x5:Sl),js.length+ws.length<=4->Dst ws->(∀w∈ws,Ze (.str w)=true)->
  ∃ws' y4 y5,ZD (zl 4) WM (js.map λ(j:Nat)=>T.int (0+(j:Int))) [.vl (scr ns),.vl (.int k),.un,.ow (ws.map T.str),x4,x5]= .nx [.vl (scr ns),.vl (.int k),.un,.ow (ws'.map T.str),y4,y5]/\ws'.length<=4/\Dst ws' /\(∀w∈ws',Ze (.str w)=true)/\(0 < js.length+ws.length->0 < ws'.length)
 | [],ws,x4,x5,hl,hd,hw=>⟨ws,x4,x5,rfl,by simpa using hl,hd,hw,λh=>by simpa using h⟩
 | j :: js,ws,x4,x5,hl,hd,hw=>by
  obtain⟨w,ew,hw'⟩:=UI ns (k+5+5*(0+(j:Int))) (by omega)
  have hl' :js.length+ws.length+1<=4:=by simpa[ar,Nat.add_right_comm] using hl
  have e:ZD (zl 4) WM ((j :: js).map λ(j:Nat)=>T.int (0+(j:Int))) [.vl (scr ns),.vl (.int k),.un,.ow (ws.map T.str),x4,x5]=match WM [.vl (scr ns),.vl (.int k),.un,.ow (ws.map T.str),.vl (.int (0+(j:Int))),x5] with
   | .nx ρ2=>ZD (zl 4) WM (js.map λ(j:Nat)=>T.int (0+(j:Int))) ρ2
   | .ct ρ2=>ZD (zl 4) WM (js.map λ(j:Nat)=>T.int (0+(j:Int))) ρ2
   | .bk ρ2=> .nx ρ2
   | r=>r:=rfl
  have eb:WM [.vl (scr ns),.vl (.int k),.un,.ow (ws.map T.str),.vl (.int (0+(j:Int))),x5]= .nx [.vl (scr ns),.vl (.int k),.un,.ow ((if w∈ws then ws else ws++[w]).map T.str),.vl (.int (0+(j:Int))),.vl (.str w)]:=by
   have w3o:∀(a b c:Sl) (ts:List T) (ρ:En),vB 3 (a :: b :: c :: .ow ts :: ρ)= .ok (.lst ts):=λ_ _ _ _ _=>rfl;have hset:∀t,([.vl (scr ns),.vl (.int k),.un,.ow (ws.map T.str),.vl (.int (0+(j:Int))),x5]:En).set 5 (.vl t)=[.vl (scr ns),.vl (.int k),.un,.ow (ws.map T.str),.vl (.int (0+(j:Int))),.vl t]:=λ_=>rfl;have en:Uv (.str w) (.lst (ws.map T.str))= .ok (!decide (w∈ws)):=by
    show ((match jo (λy=>eqF 30 y (.str w)) (ws.map T.str) with | some b=>R.ok b | none=> .bad)).bind (λb=>R.ok (!b))=_
    rw[W5];rfl
   simp only[WM,zR,Jf,zt,v0,v1,v4,zf,zI,bOk,zT,z0q,ew,Zv,hset,ZU,zu,w5,w3o,en]
   by_cases hm:w∈ws
   ·rw[decide_eq_true hm,if_pos hm];rfl
   ·rw[decide_eq_false hm,if_neg hm];have hb:(ws.map T.str).length < bnd:=by rw[xqz];exact bV (show ws.length<=4 by omega) (by decide)
    show (if (ws.map T.str).length < bnd then RS.nx _ else .bad)=_
    rw[if_pos hb,dE];rfl
  rw[e,eb]
  by_cases hm:w∈ws
  ·rw[if_pos hm];obtain⟨ws',y4,y5,r1,r2,r3,r4,r5⟩:=JN ns k h0 js ws (.vl (.int (0+(j:Int)))) (.vl (.str w)) (by omega) hd hw
   exact⟨ws',y4,y5,r1,r2,r3,r4,λ_=>r5 (by have:=List.length_pos_of_mem hm;omega)⟩
  ·rw[if_neg hm];obtain⟨ws',y4,y5,r1,r2,r3,r4,r5⟩:=JN ns k h0 js (ws++[w]) (.vl (.int (0+(j:Int)))) (.vl (.str w)) (by simp only[aB,ar,bY];omega) (hd.add hm) (λx hx=>by
    rcases aZ.mp hx with z | z
    ·exact hw x z
    ·rw[aA.mp z];exact hw')
   exact⟨ws',y4,y5,r1,r2,r3,r4,λ_=>r5 (by simp only[aB,ar,bY];omega)⟩
noncomputable abbrev Kr:En->R T:=zW (z9 (vE 1) (z9 (zc zv (cE (.int 1)) (za 3 f_4 (z9 (vE 2) (z9 (zc zv (zc zv (vE 3) (cE (.int 30))) (vE 0)) (z9 (cE (.int 20)) (zd)))))) (zd)))
theorem uS (ns:List Int)(k:Int)(h0:0<=k):∀(ws:List Str) (i:Nat) (x0 x1:Sl),(∀w∈ws,Ze (.str w)=true)->∃cs:List T,zr (zK 0 1) zN Kr (((ws.map T.str).zipIdx i).map λp=>T.tup [.int (p.2:Nat),p.1]) [x0,x1,.vl (scr ns),.vl (.int k)]= .ok cs/\cs.all zH=true/\cs.map zZ=ws
 | [],i,x0,x1,_=>⟨[],rfl,rfl,rfl⟩
 | w :: ws,i,x0,x1,hw=>by
  obtain⟨p,e,p0,p1⟩:=zM ns (k+30+i) 20 (by omega) (by omega)
  obtain⟨cs,r1,r2,r3⟩:=uS ns k h0 ws (i+1) (.vl (.int (i:Int))) (.vl (.str w)) λx hx=>hw x (a8 _ hx);have ec:Kr [.vl (.int (i:Int)),.vl (.str w),.vl (scr ns),.vl (.int k)]= .ok (.tup [.str w,.int (1+p)]):=by
   have ea:za 3 f_4 (z9 (vE 2) (z9 (zc zv (zc zv (vE 3) (cE (.int 30))) (vE 0)) (z9 (cE (.int 20)) (zd)))) [.vl (.int (i:Int)),.vl (.str w),.vl (scr ns),.vl (.int k)]= .ok (.int p):=by
    simp only[Z2,v2,v3,v0,zf,zI,bOk,zT,e]
   have eb:zc zv (cE (.int 1)) (za 3 f_4 (z9 (vE 2) (z9 (zc zv (zc zv (vE 3) (cE (.int 30))) (vE 0)) (z9 (cE (.int 20)) (zd))))) [.vl (.int (i:Int)),.vl (.str w),.vl (scr ns),.vl (.int k)]= .ok (.int (1+p)):=by
    rw[zf,ea];rfl
   exact uR v1 eb
  refine⟨.tup [.str w,.int (1+p)] :: cs, ?_, ?_, ?_⟩
  ·show ((Kr [.vl (.int (i:Int)),.vl (.str w),.vl (scr ns),.vl (.int k)]).bind λv=>(zr (zK 0 1) zN Kr (((ws.map T.str).zipIdx (i+1)).map λp=>T.tup [.int (p.2:Nat),p.1]) [.vl (.int (i:Int)),.vl (.str w),.vl (scr ns),.vl (.int k)]).bind λvs=>R.ok (v :: vs))=_;rw[ec,r1];rfl
  ·rw[bq,r2,Bool.and_true];show (Ze (.str w) && decide (1<=1+p) && decide (1+p<=20))=true;rw[hw w aa,decide_eq_true (by omega),decide_eq_true (by omega)];rfl
  ·rw[az,r3];rfl
theorem vQ (i j:Int):jB (.int i) (.int j)= .ok (.int (if j < i then j else i)):=rfl
theorem xz (ns:List Int)(k:Int)(h0:0<=k):∃t,Kf [scr ns,.int k]= .ok t/\∀d,isK (d+1) t=true:=by
 have e:Kf [scr ns,.int k]=zi (gx f_4 X9 [.vl (scr ns),.vl (.int k),.un,.un,.un,.un]):=rfl;obtain⟨p,e0,p0,p1⟩:=zM ns k 3 h0 (by omega)
 rw[e,gx,zR];simp only[ZU,zu,Z2,v0,v1,zI,bOk,e0,gtI,Zv];cases hp:decide (p > 0) with
 | true=>
  obtain⟨q,e1,q0,q1⟩:=zM ns (k+1) 7 (by omega) (by omega)
  obtain⟨q3,e3,_,_⟩:=zM ns (k+3) 8 (by omega) (by omega)
  obtain⟨q4,e4,a4,b4⟩:=zM ns (k+4) 3 (by omega) (by omega)
  obtain⟨q2,e2,a2,b2⟩:=zM ns (k+2) 4 (by omega) (by omega)
  have hset:∀t x,([.vl (scr ns),.vl (.int k),x,.un,.un,.un]:En).set 2 (.vl t)=[.vl (scr ns),.vl (.int k),.vl t,.un,.un,.un]:=λ_ _=>rfl;have fin:∀low:Int, -20<=low->low<=20->∃t,zi (zo (zW (z9 (cE (.str "whole")) (z9 (vE 2) (z9 (zc jB (cE (.int 20)) (zc zv (vE 2) (za 3 f_4 (z9 (vE 0) (z9 (zc zv (vE 1) (cE (.int 2))) (z9 (cE (.int 4)) (zd))))))) (zd))))) [.vl (scr ns),.vl (.int k),.vl (.int low),.un,.un,.un])= .ok t/\∀d,isK (d+1) t=true:=by
   intro low hl1 hl2;refine⟨.tup [.str "whole",.int low,.int (if low+q2 < 20 then low+q2 else 20)], ?_,λd=> ?_⟩
   ·rw[Z9,jG];refine qM rfl rfl ?_;simp only[j0,we,jh,zf,v2,v0,v1,Z2,zI,bOk,zT,e2,vQ]
   ·show (decide (-20<=low) && decide (low<=_) && decide (_<=(20:Int)))=true;rw[decide_eq_true hl1,decide_eq_true (by split <;> omega),decide_eq_true (by split <;> omega)];rfl
  simp only[if_true,zR,Jf,ZU,zf,Z2,v0,v1,zI,bOk,zT,e1,Zg,Zv,hset,zu,e3,eqI];cases hq:(q3 == 0) with
  | true=>
   have h3:q4=0\/q4=1\/q4=2:=by omega
   rcases h3 with rfl | rfl | rfl
   ·obtain⟨t,r,s⟩:=fin (-20) (by omega) (by omega)
    refine⟨t, ?_,s⟩;rw[← r];simp only[if_true,e4,bOk];have hv:∀ρ,(Zt (z9 (Q6 (cE (.int 20))) (z9 (cE (.int 17)) (z9 (cE (.int 20)) (zd)))) ρ)= .ok (.lst [.int (-20),.int 17,.int 20]):=λ_=>rfl;simp only[hv,bOk];have hx:ixT (.lst [.int (-20),.int 17,.int 20]) (.int 0)= .ok (.int (-20)):=rfl;simp only[hx,Zv,hset,Z9];generalize zW _ _=z;cases z <;> rfl
   ·obtain⟨t,r,s⟩:=fin (17) (by omega) (by omega)
    refine⟨t, ?_,s⟩;rw[← r];simp only[if_true,e4,bOk];have hv:∀ρ,(Zt (z9 (Q6 (cE (.int 20))) (z9 (cE (.int 17)) (z9 (cE (.int 20)) (zd)))) ρ)= .ok (.lst [.int (-20),.int 17,.int 20]):=λ_=>rfl;simp only[hv,bOk];have hx:ixT (.lst [.int (-20),.int 17,.int 20]) (.int 1)= .ok (.int (17)):=rfl;simp only[hx,Zv,hset,Z9];generalize zW _ _=z;cases z <;> rfl
   ·obtain⟨t,r,s⟩:=fin (20) (by omega) (by omega)
    refine⟨t, ?_,s⟩;rw[← r];simp only[if_true,e4,bOk];have hv:∀ρ,(Zt (z9 (Q6 (cE (.int 20))) (z9 (cE (.int 17)) (z9 (cE (.int 20)) (zd)))) ρ)= .ok (.lst [.int (-20),.int 17,.int 20]):=λ_=>rfl;simp only[hv,bOk];have hx:ixT (.lst [.int (-20),.int 17,.int 20]) (.int 2)= .ok (.int (20)):=rfl;simp only[hx,Zv,hset,Z9];generalize zW _ _=z;cases z <;> rfl
  | false=>
   obtain⟨t,r,s⟩:=fin (q - 3) (by omega) (by omega)
   refine⟨t, ?_,s⟩;rw[← r];simp only[aH,if_false,nxS,Z9];generalize zW _ _=z;cases z <;> rfl
 | false=>
  obtain⟨q,e1,q0,q1⟩:=zM ns (k+1) 4 (by omega) (by omega)
  simp only[aH,if_false,nxS,zR];have ei:Zy (zc zv (cE (.int 1)) (za 3 f_4 (z9 (vE 0) (z9 (zc zv (vE 1) (cE (.int 1))) (z9 (cE (.int 4)) (zd)))))) [.vl (scr ns),.vl (.int k),.un,.ow [],.un,.un]= .ok (rng 0 (1+q).toNat):=by
   unfold Zy;simp only[zf,Z2,v0,v1,zI,bOk,zT,e1];rw[if_pos ⟨by omega,by omega⟩]
  have el:UQ 3 zd [.vl (scr ns),.vl (.int k),.un,.un,.un,.un]= .nx [.vl (scr ns),.vl (.int k),.un,.ow [],.un,.un]:=rfl;rw[el];have hn:(aQ (1+q).toNat).length=(1+q).toNat:=bp;obtain⟨ws,y4,y5,r1,r2,r3,r4,r5⟩:=JN ns k h0 (aQ (1+q).toNat) [] .un .un (by rw[hn,bY];omega) (λk w h=>by cases h) (λw h=>by cases h)
  have hpos:0 < ws.length:=r5 (by rw[hn,bY];omega)
  have ef:jp (Zy (zc zv (cE (.int 1)) (za 3 f_4 (z9 (vE 0) (z9 (zc zv (vE 1) (cE (.int 1))) (z9 (cE (.int 4)) (zd))))))) (zl 4) WM [.vl (scr ns),.vl (.int k),.un,.ow [],.un,.un]= .nx [.vl (scr ns),.vl (.int k),.un,.ow (ws.map T.str),y4,y5]:=by
   unfold jp;rw[ei,Zv];exact r1
  obtain⟨cs,s1,s2,s3⟩:=uS ns k h0 ws 0 .un .un r4;have hcl:cs.length=ws.length:=by rw[← s3,xqz]
  refine⟨.tup [.str "pick",.tup cs], ?_,λd=> ?_⟩
  ·dsimp only;rw[ef];dsimp only;rw[Z9,jG];refine uR rfl ?_;rw[Zf,zC];have ee:VR (vE 3) (frz [.vl (scr ns),.vl (.int k),.un,.ow (ws.map T.str),y4,y5])= .ok (jq (ws.map T.str)):=rfl;rw[ee,bOk];unfold zp;rw[if_pos (by unfold jq;rw[xqz,fR,xqz];exact aq r2 (by decide))]
   have ec:zr (zK 0 1) zN Kr (jq (ws.map T.str)) (w8 2 [0,1] (frz [.vl (scr ns),.vl (.int k),.un,.ow (ws.map T.str),y4,y5]))= .ok cs:=s1;rw[ec];rfl
  ·show (decide (1<=cs.length) && decide (cs.length<=4) && cs.all zH && decide ((dd [] (cs.map zZ)).length=cs.length))=true;have hd:(dd [] (cs.map zZ)).length=cs.length:=by
    rw[s3,hcl];have:=(W3 ws []).mpr (λk w h=>by simpa using r3 k w h)
    simpa using this
   rw[decide_eq_true (by omega),decide_eq_true (by omega),s2,decide_eq_true hd];rfl
theorem Yo (c:Int)(j:Int)(hc:Wi c j):zP (.int c) (.int j)= .ok (.int (c*j)):=by
 show (if Wi c j then R.ok (T.int (c*j)) else .bad)=_
 rw[if_pos hc]
theorem Ks (j:Int):zP (.int 3) (.int j)= .ok (.int (3*j)):=Yo _ _ (.inl ⟨by decide,by decide⟩)
theorem Kt (j:Int):zP (.int 50) (.int j)= .ok (.int (50*j)):=Yo _ _ (.inl ⟨by decide,by decide⟩)
noncomputable abbrev G2 (c:List T->R T):En->R T:=za 3 c (z9 (vE 1) (z9 (zc zv (zc zv (zc zP (cE (.int 3)) (vE 2)) (cE (.int 40))) (zc zP (cE (.int 50)) (vE 0))) (z9 (zc jP (vE 3) (cE (.int 1))) (zd))))
theorem uk (ns:List Int):∀(d n:Nat),d<=n->1<=d->∀k:Int,0<=k->∃t,S_j n 0 [scr ns,.int k,.int (d:Int)]= .ok t/\isK d t=true
 | d+1,n+1,hn,_,k,h0=>by
  have e:S_j (n+1) 0 [scr ns,.int k,.int ((d+1:Nat):Int)]=zi (b_j f_4 Kf (S_j n 0) [.vl (scr ns),.vl (.int k),.vl (.int ((d+1:Nat):Int)),.un,.un,.un]):=rfl;obtain⟨p,e0,p0,p1⟩:=zM ns k 5 h0 (by omega)
  obtain⟨l,el,hl⟩:=xz ns (k+1) (by omega)
  have hset:([.vl (scr ns),.vl (.int k),.vl (.int ((d+1:Nat):Int)),.un,.un,.un]:En).set 3 (.vl (.int p))=[.vl (scr ns),.vl (.int k),.vl (.int ((d+1:Nat):Int)),.vl (.int p),.un,.un]:=rfl;rw[e,b_j];simp only[zR,Jf,ZU,Yi,zu,Z2,zt,v0,v1,v2,zI,bOk,e0,Zv,hset,w2,w3,eqI,ltI,zT,Z9,j0,we,jh,zf,el];have hd1:((((d+1:Nat):Int) == 1))=decide (d=0):=by
   by_cases h:d=0
   ·subst h;rfl
   ·rw[decide_eq_false h,beq_eq_false_iff_ne];omega
  rw[hd1]
  by_cases hleaf:d=0\/p < 2
  ·refine⟨l, ?_,hl d⟩;rcases hleaf with h | h
   ·rw[decide_eq_true h];rfl
   ·rw[decide_eq_true h];cases decide (d=0) <;> rfl
  ·have hd0:¬ d=0:=λz=>hleaf (.inl z);have hp2:¬ p < 2:=λz=>hleaf (.inr z);have hsub:((d+1:Nat):Int) - 1=(d:Int):=by omega
   rw[decide_eq_false hd0,decide_eq_false hp2];simp only[aH,if_false,Zv,nxS,w3,v0,v1,v2,bOk,ltI,zI];cases hp:decide (p < 4) with
   | true=>
    obtain⟨q,e1,q0,q1⟩:=zM ns (k+1) 3 (by omega) (by omega)
    have hj:∀j:Nat,∃t,G2 (S_j n 0) [.vl (.int (0+(j:Int))),.vl (scr ns),.vl (.int k),.vl (.int ((d+1:Nat):Int))]= .ok t/\isK d t=true:=λj=>by
     obtain⟨t,r,s⟩:=uk ns d n (by omega) (by omega) (3*k+40+50*(0+(j:Int))) (by omega)
     refine⟨t, ?_,s⟩;simp only[G2,Z2,v0,v1,v2,v3,zf,zI,bOk,Ks,Kt,zT,Zg,hsub,r]
    obtain⟨g,hg⟩:=h_.mp hj;have ei:Zy (zc zv (cE (.int 1)) (za 3 f_4 (z9 (vE 0) (z9 (zc zv (vE 1) (cE (.int 1))) (z9 (cE (.int 3)) (zd)))))) [.vl (scr ns),.vl (.int k),.vl (.int ((d+1:Nat):Int)),.vl (.int p),.un,.un]= .ok (rng 0 (1+q).toNat):=by
     unfold Zy;simp only[zf,Z2,v0,v1,zI,bOk,zT,e1];rw[if_pos ⟨by omega,by omega⟩]
    have ec:zp (zl 0) zN (G2 (S_j n 0)) 1 [0,1,2] [.vl (scr ns),.vl (.int k),.vl (.int ((d+1:Nat):Int)),.vl (.int p),.un,.un] (rng 0 (1+q).toNat)= .ok ((rng 0 (1+q).toNat).map λt=>match t with | .int j=>g j.toNat | t=>t):=
     Z0 (rng 0 (1+q).toNat) (by unfold rng;rw[xqz,bp];exact aq (show (1+q).toNat<=3 by omega) (by decide)) λt ht=>by
      unfold rng at ht;obtain⟨j,_,rfl⟩:=au.mp ht;show G2 (S_j n 0) [.vl (.int (0+(j:Int))),.vl (scr ns),.vl (.int k),.vl (.int ((d+1:Nat):Int))]= .ok (g (0+(j:Int)).toNat);rw[(hg j).1,f7,aT]
    generalize hcs:((rng 0 (1+q).toNat).map λt=>match t with | .int j=>g j.toNat | t=>t)=cs at ec
    have hlen:cs.length=(1+q).toNat:=by rw[← hcs];unfold rng;rw[xqz,xqz,bp]
    have hall:∀t∈cs,isK d t=true:=λt ht=>by
     rw[← hcs]at ht;obtain⟨u,hu,rfl⟩:=au.mp ht;unfold rng at hu;obtain⟨j,_,rfl⟩:=au.mp hu;exact(hg _).2
    refine⟨.tup [.str "row",.tup cs], ?_, ?_⟩
    ·have hs4:([.vl (scr ns),.vl (.int k),.vl (.int ((d+1:Nat):Int)),.vl (.int p),.un,.un]:En).set 4 (.vl (.lst cs))=[.vl (scr ns),.vl (.int k),.vl (.int ((d+1:Nat):Int)),.vl (.int p),.vl (.lst cs),.un]:=rfl;simp only[if_true,zC,ei,bOk,ec,Zv,hs4,j0,we,jh];rfl
    ·show (decide (1<=cs.length) && decide (cs.length<=3) && cs.all (isK d))=true;rw[decide_eq_true (by omega),decide_eq_true (by omega),aG.mpr hall];rfl
   | false=>
    obtain⟨q,e1,q0,q1⟩:=zM ns (k+1) 3 (by omega) (by omega)
    obtain⟨q2,e2,_,_⟩:=zM ns (k+2) 3 (by omega) (by omega)
    obtain⟨t,r,s⟩:=uk ns d n (by omega) (by omega) (3*k+40) (by omega)
    refine⟨.tup [.str "many",t,.int q,.int (if q+q2 < 3 then q+q2 else 3)], ?_, ?_⟩
    ·have hs5:([.vl (scr ns),.vl (.int k),.vl (.int ((d+1:Nat):Int)),.vl (.int p),.un,.un]:En).set 5 (.vl (.int q))=[.vl (scr ns),.vl (.int k),.vl (.int ((d+1:Nat):Int)),.vl (.int p),.un,.vl (.int q)]:=rfl;simp only[aH,if_false,v0,v1,zf,zI,bOk,zT,e1,Zv,hs5,j0,we,jh,jG];refine z0r rfl ?_ rfl ?_
     ·simp only[Z2,v0,v1,v2,zf,zI,bOk,Ks,zT,Zg,hsub,r]
     ·have v5:∀{t:T} {a b c d e:Sl} {ρ:En},vE 5 (a :: b :: c :: d :: e :: .vl t :: ρ)= .ok t:=rfl;simp only[Z2,v0,v1,v5,zf,zI,bOk,zT,e2,vQ]
    ·show (Jd 0 3 (.int q) (.int _) && isK d t)=true;rw[s,Bool.and_true];show (decide (0<=q) && decide (q<=_) && decide (_<=(3:Int)))=true;rw[decide_eq_true (by omega),decide_eq_true (by split <;> omega),decide_eq_true (by split <;> omega)];rfl
mutual
noncomputable def dep:T->Nat
 | .tup xs=>qN xs+1
 | .lst xs=>qN xs+1
 | _=>1
noncomputable def qN:List T->Nat
 | []=>0
 | t :: ts=>max (dep t) (qN ts)
end
mutual
noncomputable def siz:T->Nat
 | .tup xs=>qO xs+1
 | .lst xs=>qO xs+1
 | _=>1
noncomputable def qO:List T->Nat
 | []=>0
 | t :: ts=>siz t+qO ts
end
theorem Jg {w:Str}{t:T}(h:isS w t=true):t= .str w:=by
 cases t with
 | str s=>
  have:(s == w)=true:=h;rw[eq_of_beq this]
 | _=>cases h
theorem Yp {lo hi:Int}{t:T}(h:inR lo hi t=true):∃i,t= .int i:=by
 cases t with
 | int i=>exact⟨i,rfl⟩
 | _=>cases h
theorem Jr {lo hi:Int}{a b:T}(h:Jd lo hi a b=true):∃i j,a= .int i/\b= .int j:=by
 cases a with
 | int i=>
  cases b with
  | int j=>exact⟨i,j,rfl,rfl⟩
  | _=>cases h
 | _=>cases h
structure Fit (D S:Nat) (t:T):Prop where
 so:sOk t
 dp:dep t<=D
 sz:siz t<=S
theorem UJ {c:T}(h:zH c=true):Fit 2 3 c:=by
 unfold zH at h;split at h
 ·rename_i w i;have hw:Ze w=true:=by
   rw[ac,ac]at h;exact h.1.1
  cases w with
  | str x=>
   have hx:(decide (1<=x.length) && decide (x.length<=3) && x.cps.toList.all Z8)=true:=hw;rw[ac,ac,decide_eq_true_eq,decide_eq_true_eq]at hx;refine⟨?_, ?_, ?_⟩
   ·simp only[sOk,u9,and_true];exact aq hx.1.2 (by decide)
   ·simp[dep,qN]
   ·simp[siz,qO]
  | _=>cases hw
 ·cases h
theorem z0s {D S:Nat}:∀{cs:List T},(∀c∈cs,Fit D S c)->u9 cs/\qN cs<=D/\qO cs<=S*cs.length
 | [],_=>⟨by simp only[u9],ba _,ba _⟩
 | c :: cs,h=>by
  obtain⟨a,b,d⟩:=z0s (cs:=cs) λx hx=>h x (a8 _ hx);obtain⟨x,y,z⟩:=h c aa;refine⟨?_, ?_, ?_⟩
  ·simp only[u9];exact⟨x,a⟩
  ·simp only[qN];omega
  ·simp only[qO,ar,Nat.mul_add,Nat.mul_one];omega
theorem W6:∀(d:Nat) (t:T),isK d t=true->Fit (2*d+2) (15*4 ^ d) t
 | 0,_,h=>by cases h
 | d+1,t,h=>by
  have hpow:4 ^ (d+1)=4*4 ^ d:=by rw[dm,cy]
  have hone:1<=4 ^ d:=Nat.pow_pos (by omega)
  have h:UG (isK d) t=true:=h;unfold UG at h;split at h
  ·rename_i hd r;split at h
   ·rename_i e;rw[Jg e];unfold WK at h;split at h
    ·obtain⟨i,j,rfl,rfl⟩:=Jr h;refine⟨by simp only[sOk,u9,and_true];decide,by simp only[dep,qN];omega,by simp only[siz,qO];omega⟩
    ·cases h
   ·split at h
    ·rename_i e;rw[Jg e];unfold Yj at h;split at h
     ·rename_i c;unfold uQ at h;split at h
      ·rename_i cs;rw[ac,ac,ac,decide_eq_true_eq,decide_eq_true_eq]at h;obtain⟨a,b,z⟩:=z0s (D:=2) (S:=3) (cs:=cs) λc hc=>UJ (aG.mp h.1.2 c hc);refine⟨by simp only[sOk,u9,and_true];exact⟨by decide,a⟩,by simp only[dep,qN];omega,by simp only[siz,qO];omega⟩
      ·cases h
     ·cases h
    ·split at h
     ·rename_i e;rw[Jg e];unfold Km at h;split at h
      ·rename_i c;unfold JM at h;split at h
       ·rename_i cs;rw[ac,ac,decide_eq_true_eq,decide_eq_true_eq]at h;obtain⟨a,b,z⟩:=z0s (D:=2*d+2) (S:=15*4 ^ d) (cs:=cs) λc hc=>W6 d c (aG.mp h.2 c hc);have:15*4 ^ d*cs.length<=15*4 ^ d*3:=Nat.mul_le_mul_left _ h.1.2;refine⟨by simp only[sOk,u9,and_true];exact⟨by decide,a⟩,by simp only[dep,qN];omega,by simp only[siz,qO];omega⟩
       ·cases h
      ·cases h
     ·split at h
      ·rename_i e;rw[Jg e];unfold Yk at h;split at h
       ·rename_i c a b;rw[ac]at h;obtain⟨i,j,rfl,rfl⟩:=Jr h.1;obtain⟨x,y,z⟩:=W6 d c h.2;refine⟨by simp only[sOk,u9,and_true];exact⟨by decide,x⟩,by simp only[dep,qN];omega,by simp only[siz,qO];omega⟩
       ·cases h
      ·cases h
  ·cases h
theorem tup1 {f:En->R T}{ρ:En}{x:T}(hf:f ρ= .ok x):zW (z9 f zd) ρ= .ok (.tup [x]):=by
 unfold zW z9 zd;rw[hf];rfl
theorem Ku {xs ys:List T}(h:xs.length+ys.length<=bnd):zv (.tup xs) (.tup ys)= .ok (.tup (xs++ys)):=if_pos h
theorem ww (ρ:En):nxS ρ= .nx ρ:=rfl
inductive Kd where
 | whole (lo hi:Int)
 | pick (cs:List (Str×Int))
 | row (ks:List Kd)
 | many (k:Kd) (lo hi:Nat)
noncomputable def ZF (c:Str×Int):T:= .tup [.str c.1,.int c.2]
mutual
noncomputable def Kd.t:Kd->T
 | .whole lo hi=> .tup [.str "whole",.int lo,.int hi]
 | .pick cs=> .tup [.str "pick",.tup (cs.map ZF)]
 | .row ks=> .tup [.str "row",.tup (Kd.ts ks)]
 | .many k lo hi=> .tup [.str "many",k.t,.int (lo:Int),.int (hi:Int)]
noncomputable def Kd.ts:List Kd->List T
 | []=>[]
 | k :: ks=>k.t :: Kd.ts ks
end
theorem Kd.ts_map:∀ks:List Kd,Kd.ts ks=ks.map Kd.t
 | []=>by simp only[Kd.ts,bP]
 | k :: ks=>by simp only[Kd.ts,az,Kd.ts_map ks]
noncomputable def Kd.Ok:Nat->Kd->Prop
 | 0,_=>False
 | _+1,.whole lo hi=> -20<=lo/\lo<=hi/\hi<=20
 | _+1,.pick cs=>1<=cs.length/\cs.length<=4/\(∀c∈cs,Ze (.str c.1)=true/\1<=c.2/\c.2<=20)/\Dst (cs.map (·.1))
 | d+1,.row ks=>1<=ks.length/\ks.length<=3/\∀k∈ks,Kd.Ok d k
 | d+1,.many k lo hi=>lo<=hi/\hi<=3/\Kd.Ok d k
theorem Yq {c:T}(h:zH c=true):∃p:Str×Int,c=ZF p/\Ze (.str p.1)=true/\1<=p.2/\p.2<=20:=by
 unfold zH at h;split at h
 ·rename_i w i;rw[ac,ac,decide_eq_true_eq,decide_eq_true_eq]at h;cases w with
  | str x=>exact⟨(x,i),rfl,h.1.1,h.1.2,h.2⟩
  | _=>cases h.1.1
 ·cases h
theorem ul {α:Type}{P:T->Prop}{Q:α->Prop}{f:α->T}(H:∀t,P t->∃a,t=f a/\Q a):∀(ts:List T),(∀t∈ts,P t)->∃as:List α,ts=as.map f/\∀a∈as,Q a
 | [],_=>⟨[],rfl,λ_ h=>nomatch h⟩
 | t :: ts,h=>by
  obtain⟨a,rfl,ha⟩:=H t (h t aa);obtain⟨as,rfl,has⟩:=ul H ts λu hu=>h u (a8 _ hu);exact⟨a :: as,rfl,λb hb=>by
   rcases ah.mp hb with rfl | hb
   ·exact ha
   ·exact has b hb⟩
theorem um:∀(d:Nat) (t:T),isK d t=true->∃k:Kd,t=k.t/\k.Ok d
 | 0,_,h=>by cases h
 | d+1,t,h=>by
  have h:UG (isK d) t=true:=h;unfold UG at h;split at h
  ·rename_i hd r;split at h
   ·rename_i e;rw[Jg e];unfold WK at h;split at h
    ·obtain⟨i,j,rfl,rfl⟩:=Jr h;have h:(decide (-20<=i) && decide (i<=j) && decide (j<=20))=true:=h;rw[ac,ac,decide_eq_true_eq,decide_eq_true_eq,decide_eq_true_eq]at h;exact⟨.whole i j,by simp only[Kd.t],h.1.1,h.1.2,h.2⟩
    ·cases h
   ·split at h
    ·rename_i e;rw[Jg e];unfold Yj at h;split at h
     ·rename_i c;unfold uQ at h;split at h
      ·rename_i cs;rw[ac,ac,ac,decide_eq_true_eq,decide_eq_true_eq,decide_eq_true_eq]at h;obtain⟨⟨⟨h1,h2⟩,h3⟩,h4⟩:=h;obtain⟨as,rfl,has⟩:=ul (λt ht=>Yq ht) cs λc hc=>aG.mp h3 c hc;rw[xqz]at h1 h2;refine⟨.pick as,by simp only[Kd.t],h1,h2,has, ?_⟩
       have e1:(as.map ZF).map zZ=as.map (·.1):=by rw[aX];rfl
       rw[e1]at h4;have:=(W3 (as.map (·.1)) []).mp (by rw[h4,xqz,xqz];simp)
       exact λk w hw hm=>this k w hw (by simpa using hm)
      ·cases h
     ·cases h
    ·split at h
     ·rename_i e;rw[Jg e];unfold Km at h;split at h
      ·rename_i c;unfold JM at h;split at h
       ·rename_i cs;rw[ac,ac,decide_eq_true_eq,decide_eq_true_eq]at h;obtain⟨ks,rfl,hks⟩:=ul (λt ht=>um d t ht) cs λc hc=>aG.mp h.2 c hc;rw[xqz]at h;exact⟨.row ks,by simp only[Kd.t,Kd.ts_map],h.1.1,h.1.2,hks⟩
       ·cases h
      ·cases h
     ·split at h
      ·rename_i e;rw[Jg e];unfold Yk at h;split at h
       ·rename_i c a b;rw[ac]at h;obtain⟨h1,h2⟩:=h;obtain⟨i,j,rfl,rfl⟩:=Jr h1;obtain⟨k,rfl,hk⟩:=um d c h2;have h1:(decide (0<=i) && decide (i<=j) && decide (j<=3))=true:=h1;rw[ac,ac,decide_eq_true_eq,decide_eq_true_eq,decide_eq_true_eq]at h1;obtain⟨⟨a1,a2⟩,a3⟩:=h1;obtain⟨m,rfl⟩:=ck a1;obtain⟨n,rfl⟩:=ck (dj a1 a2);exact⟨.many k m n,by simp only[Kd.t],by omega,by omega,hk⟩
       ·cases h
      ·cases h
  ·cases h
noncomputable def Zk (made:List (List T)):List (List T)->List (List T)
 | []=>made
 | ls :: r=>Zk (made.flatMap λa=>ls.map λx=>a++[x]) r
noncomputable abbrev W7 (ls:List (List T)):List T:=(Zk [[]] ls).map T.tup
mutual
noncomputable def Kd.all:Kd->List T
 | .whole lo hi=>(aQ (hi+1 - lo).toNat).map λ(i:Nat)=>T.int (lo+(i:Int))
 | .pick cs=>cs.map λc=>T.str c.1
 | .row ks=>W7 (Kd.alls ks)
 | .many k lo hi=>(aQ (hi+1 - lo)).flatMap λi=>W7 (ab (lo+i) k.all)
noncomputable def Kd.alls:List Kd->List (List T)
 | []=>[]
 | k :: ks=>k.all :: Kd.alls ks
end
theorem Kd.alls_map:∀ks:List Kd,Kd.alls ks=ks.map Kd.all
 | []=>by simp only[Kd.alls,bP]
 | k :: ks=>by simp only[Kd.alls,az,Kd.alls_map ks]
noncomputable def prd:List Nat->Nat
 | []=>1
 | n :: r=>n*prd r
theorem JO:∀{ns:List Nat},(∀n∈ns,1<=n)->1<=prd ns
 | [],_=>ai _
 | n :: ns,h=>eB (h n aa) (JO λm hm=>h m (a8 _ hm))
theorem Js {α β:Type}(f:α->List β)(n:Nat):∀as:List α,(∀a∈as,(f a).length=n)->(as.flatMap f).length=as.length*n
 | [],_=>by simp
 | a :: as,h=>by
  rw[bI,aB,h a aa,Js f n as λb hb=>h b (a8 _ hb),ar,i9,bR,df]
theorem JP:∀(ls:List (List T)) (made:List (List T)),(Zk made ls).length=made.length*prd (ls.map (·.length))
 | [],made=>by simp[Zk,prd]
 | l :: ls,made=>by
  rw[Zk,JP ls,Js _ l.length made λa _=>xqz ..,az,prd,cD]
noncomputable abbrev vR:En->RS:=qK 3 (zF (Zs (vE 2)) (zl 0) (zN) (zc zv (vE 1) (zW (z9 (vE 0) (zd)))) 1 [4])
theorem uT {L M:T}{l:List T}(hl:l.length<=bnd):∀(as:List (List T)) (acc:List T) (x:Sl),(∀a∈as,a.length<=1000)->acc.length+as.length*l.length<=bnd->
  ∃y,ZD (zl 4) vR (as.map T.tup) [.vl L,.vl M,.vl (.lst l),.ow acc,x]= .nx [.vl L,.vl M,.vl (.lst l),.ow (acc++(as.flatMap λa=>l.map λx=>a++[x]).map T.tup),y]
 | [],acc,x,_,_=>⟨x,by simp[ZD]⟩
 | a :: as,acc,x,ha,hb=>by
  have ha1:=ha a aa;have hb1:bnd=16777216:=rfl;rw[ar,i9,bR]at hb;have ec:zp (zl 0) zN (zc zv (vE 1) (zW (z9 (vE 0) (zd)))) 1 [4] [.vl L,.vl M,.vl (.lst l),.ow acc,.vl (.tup a)] l= .ok (l.map λx=>T.tup (a++[x])):=
   Z0 (h:=λx=>T.tup (a++[x])) l hl λx hx=>by
    show zc zv (vE 1) (zW (z9 (vE 0) (zd))) [.vl x,.vl (.tup a)]=_;rw[zf,v1,bOk,tup1 v0,bOk];exact Ku (by rw[aJ];omega)
  have eb:vR [.vl L,.vl M,.vl (.lst l),.ow acc,.vl (.tup a)]= .nx [.vl L,.vl M,.vl (.lst l),.ow (acc++l.map λx=>T.tup (a++[x])),.vl (.tup a)]:=by
   show ((zF _ _ _ _ _ _ _).s λt=>match t with | .lst us=>if acc.length+us.length<=bnd then RS.nx _ else .bad | _=> .bad)=_
   rw[zC,Zi,v2,bOk];show (((zp _ _ _ _ _ _ l).bind _).s _)=_;rw[ec,bOk,Zv];show (if _ then _ else _)=_
   rw[if_pos (by rw[xqz];omega)]
   rfl
  obtain⟨y,ih⟩:=uT hl as (acc++l.map λx=>T.tup (a++[x])) (.vl (.tup a)) (λb hb=>ha b (a8 _ hb)) (by rw[aB,xqz];omega)
  refine⟨y, ?_⟩;have e:ZD (zl 4) vR ((a :: as).map T.tup) [.vl L,.vl M,.vl (.lst l),.ow acc,x]=match vR [.vl L,.vl M,.vl (.lst l),.ow acc,.vl (.tup a)] with
   | .nx ρ2=>ZD (zl 4) vR (as.map T.tup) ρ2
   | .ct ρ2=>ZD (zl 4) vR (as.map T.tup) ρ2
   | .bk ρ2=> .nx ρ2
   | r=>r:=rfl
  rw[e,eb];dsimp only;rw[ih,bI,dE,aX,bx];rfl
noncomputable abbrev WN:En->RS:=(zj (UQ 3 (zd))
  (zj (jp (Zs (vE 1)) (zl 4) vR)
  (mvS 1 3)))
theorem WO {L:T}(m:Nat):∀(ls:List (List T)) (made:List (List T)) (k:Nat) (x y z:Sl),(∀a∈made,a.length<=k)->k+ls.length<=1000->(∀l∈ls,1<=l.length)->made.length*prd (ls.map (·.length))<=bnd->1<=made.length->
  ∃x' y' z',ZD (zl 2) WN (ls.map T.lst) [.vl L,.vl (.lst (made.map T.tup)),x,y,z]= .nx [.vl L,.vl (.lst ((Zk made ls).map T.tup)),x',y',z']
 | [],made,k,x,y,z,_,_,_,_,_=>⟨x,y,z,by simp[ZD,Zk]⟩
 | l :: ls,made,k,x,y,z,hk,hkl,hpos,hb,hm=>by
  have hpr:1<=prd (ls.map (·.length)):=JO λn hn=>by
   obtain⟨l',hl',rfl⟩:=au.mp hn;exact hpos l' (a8 _ hl')
  rw[az,prd,← cD]at hb;have hb1:made.length*l.length<=bnd:=aq (cn _ hpr) hb;have hll:l.length<=bnd:=aq (Nat.le_mul_of_pos_left _ hm) hb1;rw[ar]at hkl;obtain⟨w,er⟩:=uT (L:=L) (M:= .lst (made.map T.tup)) hll made [] z (λa ha=>aq (hk a ha) (by omega)) (by rw[bY];omega)
  rw[bn]at er;have es:WN [.vl L,.vl (.lst (made.map T.tup)),.vl (.lst l),y,z]= .nx [.vl L,.vl (.lst ((made.flatMap λa=>l.map λx=>a++[x]).map T.tup)),.vl (.lst l),.vl (.lst ((made.flatMap λa=>l.map λx=>a++[x]).map T.tup)),w]:=by
   have e0:UQ 3 (zd) [.vl L,.vl (.lst (made.map T.tup)),.vl (.lst l),y,z]= .nx [.vl L,.vl (.lst (made.map T.tup)),.vl (.lst l),.ow [],z]:=rfl;have e1:jp (Zs (vE 1)) (zl 4) vR [.vl L,.vl (.lst (made.map T.tup)),.vl (.lst l),.ow [],z]= .nx [.vl L,.vl (.lst (made.map T.tup)),.vl (.lst l),.ow ((made.flatMap λa=>l.map λx=>a++[x]).map T.tup),w]:=er;unfold WN;rw[zR,e0];dsimp only;rw[zR,e1];rfl
  obtain⟨x',y',z',ih⟩:=WO (L:=L) m ls (made.flatMap λa=>l.map λx=>a++[x]) (k+1) (.vl (.lst l)) (.vl (.lst ((made.flatMap λa=>l.map λx=>a++[x]).map T.tup))) w (λa ha=>by
   obtain⟨b,hb,hx⟩:=bT.mp ha;obtain⟨u,_,rfl⟩:=au.mp hx;have:=hk b hb;rw[aB,aJ];omega) (by omega) (λl' hl' =>hpos l' (a8 _ hl')) (by
    rw[Js _ l.length made λa _=>xqz ..];exact hb) (by
    rw[Js _ l.length made λa _=>xqz ..];exact eB hm (hpos l aa))
  refine⟨x',y',z', ?_⟩;have e:ZD (zl 2) WN ((l :: ls).map T.lst) [.vl L,.vl (.lst (made.map T.tup)),x,y,z]=match WN [.vl L,.vl (.lst (made.map T.tup)),.vl (.lst l),y,z] with
   | .nx ρ2=>ZD (zl 2) WN (ls.map T.lst) ρ2
   | .ct ρ2=>ZD (zl 2) WN (ls.map T.lst) ρ2
   | .bk ρ2=> .nx ρ2
   | r=>r:=rfl
  rw[e,es];exact ih
theorem Yr (ls:List (List T))(hl:ls.length<=1000)(hpos:∀l∈ls,1<=l.length)(hb:prd (ls.map (·.length))<=bnd):f_g [.lst (ls.map T.lst)]= .ok (.lst (W7 ls)):=by
 obtain⟨x',y',z',er⟩:=WO (L:= .lst (ls.map T.lst)) 0 ls [[]] 0 .un .un .un (λa ha=>by rw[aA.mp ha];exact ai _) (by omega) hpos (by rw[aJ,bR];exact hb) (ai _)
 have e:f_g [.lst (ls.map T.lst)]=zi (b_g [.vl (.lst (ls.map T.lst)),.un,.un,.un,.un]):=rfl;have e0:zz 1 (Zt (z9 (zW (zd)) (zd))) [.vl (.lst (ls.map T.lst)),.un,.un,.un,.un]= .nx [.vl (.lst (ls.map T.lst)),.vl (.lst [.tup []]),.un,.un,.un]:=rfl;have e1:jp (Zs (vE 0)) (zl 2) WN [.vl (.lst (ls.map T.lst)),.vl (.lst [.tup []]),.un,.un,.un]= .nx [.vl (.lst (ls.map T.lst)),.vl (.lst (W7 ls)),x',y',z']:=er;rw[e,b_g,zR,e0];dsimp only;rw[zR,e1];rfl
theorem j3 (n:Nat):∀m:Nat,prd (ab m n)=n ^ m
 | 0=>rfl
 | m+1=>by rw[aV,prd,j3 n m,dm,cy]
theorem Jt (ls:List (List T)):(W7 ls).length=prd (ls.map (·.length)):=by
 unfold W7;rw[xqz,JP,aJ,bR]
noncomputable def pw (n lo hi:Nat):Nat:=((aQ (hi+1 - lo)).map λi=>n ^ (lo+i)).sum
theorem jd (k:Kd)(lo hi:Nat):(Kd.many k lo hi).all.length=pw k.all.length lo hi:=by
 rw[Kd.all,List.length_flatMap,pw];congr 1
 refine cW λi _=> ?_;rw[Jt,aM,j3]
theorem jV (ks:List Kd):(Kd.row ks).all.length=prd (ks.map λk=>k.all.length):=by
 rw[Kd.all,Jt,Kd.alls_map,aX];rfl
theorem j4 (lo hi:Int):(Kd.whole lo hi).all.length=(hi+1 - lo).toNat:=by
 rw[Kd.all,xqz,bp]
theorem W8 (cs:List (Str×Int)):(Kd.pick cs).all.length=cs.length:=by
 rw[Kd.all,xqz]
theorem xA {lo hi:Nat}(h:lo<=hi)(h3:hi<=3):(lo=0/\hi=0)\/(lo=0/\hi=1)\/(lo=0/\hi=2)\/(lo=0/\hi=3)\/(lo=1/\hi=1)\/(lo=1/\hi=2)\/(lo=1/\hi=3)\/(lo=2/\hi=2)\/(lo=2/\hi=3)\/(lo=3/\hi=3):=(by decide:∀hi lo:Fin 4,lo.1<=hi.1->(lo.1=0/\hi.1=0)\/(lo.1=0/\hi.1=1)\/(lo.1=0/\hi.1=2)\/(lo.1=0/\hi.1=3)\/(lo.1=1/\hi.1=1)\/(lo.1=1/\hi.1=2)\/(lo.1=1/\hi.1=3)\/(lo.1=2/\hi.1=2)\/(lo.1=2/\hi.1=3)\/(lo.1=3/\hi.1=3)) ⟨hi,f_ h3⟩ ⟨lo,f_ (aq h h3)⟩ h
noncomputable def iv (b:Bool):Nat:=if b then 1 else 0
theorem xB (n:Nat){lo hi:Nat}(h:lo<=hi)(h3:hi<=3):pw n lo hi=iv (lo == 0)+n*iv (decide (lo<=1) && decide (1<=hi))+n*n*iv (decide (lo<=2) && decide (2<=hi))+n*n*n*iv (hi == 3):=by
 rcases xA h h3 with ⟨rfl,rfl⟩ | ⟨rfl,rfl⟩ | ⟨rfl,rfl⟩ | ⟨rfl,rfl⟩ | ⟨rfl,rfl⟩ | ⟨rfl,rfl⟩ | ⟨rfl,rfl⟩ | ⟨rfl,rfl⟩ | ⟨rfl,rfl⟩ | ⟨rfl,rfl⟩ <;>
  simp[pw,ij,iv,dm]
 all_goals omega
theorem Kv {n:Nat}(hn:1<=n){lo hi:Nat}(h:lo<=hi)(h3:hi<=3):1<=pw n lo hi:=by
 have h2:1<=n*n:=eB hn hn;have h1:1<=n*n*n:=eB h2 hn;rw[xB n h h3];rcases xA h h3 with ⟨rfl,rfl⟩ | ⟨rfl,rfl⟩ | ⟨rfl,rfl⟩ | ⟨rfl,rfl⟩ | ⟨rfl,rfl⟩ | ⟨rfl,rfl⟩ | ⟨rfl,rfl⟩ | ⟨rfl,rfl⟩ | ⟨rfl,rfl⟩ | ⟨rfl,rfl⟩ <;>
  simp[iv] <;> omega
theorem z0t {n N:Nat}(hn:n<=N){lo hi:Nat}(h:lo<=hi)(h3:hi<=3):pw n lo hi<=1+N+N*N+N*N*N:=by
 have h2:n*n<=N*N:=cq hn hn;have h1:n*n*n<=N*N*N:=cq h2 hn;rw[xB n h h3];rcases xA h h3 with ⟨rfl,rfl⟩ | ⟨rfl,rfl⟩ | ⟨rfl,rfl⟩ | ⟨rfl,rfl⟩ | ⟨rfl,rfl⟩ | ⟨rfl,rfl⟩ | ⟨rfl,rfl⟩ | ⟨rfl,rfl⟩ | ⟨rfl,rfl⟩ | ⟨rfl,rfl⟩ <;>
  simp[iv] <;> omega
theorem vS {N:Nat}(hN:1<=N):∀(ns:List Nat),(∀n∈ns,n<=N)->prd ns<=N ^ ns.length
 | [],_=>ai _
 | n :: ns,h=>by
  rw[prd,ar,dm,cy];exact cq (vS hN ns λm hm=>h m (a8 _ hm)) (h n aa)
theorem Zq:∀(d:Nat) (k:Kd),k.Ok d->1<=k.all.length
 | 0,_,h=>h.elim
 | d+1,.whole lo hi,h=>by
  obtain⟨_,h2,_⟩:=h;rw[j4];omega
 | d+1,.pick cs,h=>by
  rw[W8];exact h.1
 | d+1,.row ks,h=>by
  rw[jV];refine JO λn hn=> ?_;obtain⟨k,hk,rfl⟩:=au.mp hn;exact Zq d k (h.2.2 k hk)
 | d+1,.many k lo hi,h=>by
  rw[jd];exact Kv (Zq d k h.2.2) h.1 h.2.1
noncomputable def mx:Nat->Nat
 | 0=>0
 | 1=>41
 | d+1=>1+mx d+mx d*mx d+mx d*mx d*mx d
theorem vT (d:Nat):41<=mx (d+1):=by
 induction d with
 | zero=>exact ai _
 | succ d ih=>
  show 41<=1+mx (d+1)+mx (d+1)*mx (d+1)+mx (d+1)*mx (d+1)*mx (d+1);omega
theorem Ys (d:Nat)(n:Nat)(h:n<=41):n<=mx (d+1):=aq h (vT d)
theorem xC {N m:Nat}(hN:1<=N)(h:m<=3):N ^ m<=1+N+N*N+N*N*N:=by
 have:m=0\/m=1\/m=2\/m=3:=by omega
 rcases this with rfl | rfl | rfl | rfl <;> simp[dm] <;> omega
theorem jm:∀(d:Nat) (k:Kd),k.Ok d->k.all.length<=mx d
 | 0,_,h=>h.elim
 | d+1,.whole lo hi,h=>by
  obtain⟨h1,h2,h3⟩:=h;rw[j4];exact Ys d _ (by omega)
 | d+1,.pick cs,h=>by
  rw[W8];exact Ys d _ (aq h.2.1 (by omega))
 | 1,.row ks,h=>by
  obtain⟨h1,h2,h3⟩:=h
  match ks,h1,h3 with
  | k :: _,_,h3=>exact(h3 k aa).elim
 | d+2,.row ks,h=>by
  obtain⟨h1,h2,h3⟩:=h;rw[jV];have hp:=aq (by omega:1<=41) (vT d)
  have:=vS hp (ks.map λk=>k.all.length) λn hn=>by
   obtain⟨k,hk,rfl⟩:=au.mp hn;exact jm (d+1) k (h3 k hk)
  rw[xqz]at this;exact aq this (xC hp h2)
 | 1,.many k lo hi,h=>h.2.2.elim
 | d+2,.many k lo hi,h=>by
  rw[jd];exact z0t (jm (d+1) k h.2.2) h.1 h.2.1
theorem zb {f g:En->RS}{ρ ρ' :En}(h:f ρ= .nx ρ'):zj f g ρ=g ρ' :=by rw[zR,h]
theorem cs0 {x w:Str}{r:List T}{ρ:En}:zh eqC (zc ixT (vE 0) (cE (.int 0))) (cE (.str w)) (.vl (.tup (.str x :: r)) :: ρ)= .ok (x == w):=by
 rw[zu,zf,v0,bOk,zI,bOk,at0,bOk,zI,bOk,eqS];rfl
theorem ZK {a b:T}{r:List T}{ρ:En}:zc ixT (vE 0) (cE (.int 1)) (.vl (.tup (a :: b :: r)) :: ρ)= .ok b:=by
 rw[zf,v0,bOk,zI,bOk,at1]
theorem wa {a b c:T}{r:List T}{ρ:En}:zc ixT (vE 0) (cE (.int 2)) (.vl (.tup (a :: b :: c :: r)) :: ρ)= .ok c:=by
 rw[zf,v0,bOk,zI,bOk,at2]
theorem vU {a b c d:T}{r:List T}{ρ:En}:zc ixT (vE 0) (cE (.int 3)) (.vl (.tup (a :: b :: c :: d :: r)) :: ρ)= .ok d:=by
 rw[zf,v0,bOk,zI,bOk,at3]
theorem Yt {f:En->R T}{ρ:En}{i:Int}(h:f ρ= .ok (.int i)):zc zv f (cE (.int 1)) ρ= .ok (.int (i+1)):=by
 rw[zf,h,bOk,zI,bOk,zT]
theorem uo {f g:En->R T}{ρ:En}{i j:Int}(hf:f ρ= .ok (.int i))(hg:g ρ= .ok (.int j))(h: -1000000 < i/\i < 1000000/\ -1000000 < j/\j < 1000000):Jl f g ρ= .ok (rng i (j - i).toNat):=by
 unfold Jl;rw[hf,bOk,hg,bOk];exact if_pos h
theorem Yu:∀(cs:List (Str×Int)) (x y:Sl),zr (zK 0 1) zN (vE 0) (cs.map ZF) [x,y]= .ok (cs.map λc=>T.str c.1)
 | [],_,_=>rfl
 | c :: cs,x,y=>by
  have e:zr (zK 0 1) zN (vE 0) ((c :: cs).map ZF) [x,y]=(zr (zK 0 1) zN (vE 0) (cs.map ZF) [.vl (.str c.1),.vl (.int c.2)]).bind λvs=> .ok (.str c.1 :: vs):=rfl;rw[e,Yu cs];rfl
theorem WP {x:T}{m:Nat}(h:m<=3):zP (.lst [x]) (.int (m:Int))= .ok (.lst (ab m [x]).flatten):=by
 unfold zP;dsimp only;have c:0<=(m:Int)/\(m:Int) < 1000000/\[x].length*(m:Int).toNat<=bnd:=by
  have hb:3<=bnd:=by decide
  refine⟨by omega,by omega, ?_⟩
  rw[aJ,aT,bR];exact aq h hb
 rw[if_pos c,aT]
theorem ZL {α:Type}(x:α):∀m:Nat,(ab m [x]).flatten=ab m x
 | 0=>rfl
 | m+1=>by rw[aV,aV,dX,ZL x m];rfl
noncomputable abbrev wf (ca cr:List T->R T):En->RS:=qK 1 (za 1 cr (z9 (zc zP (Zt (z9 (za 1 ca (z9 (zc ixT (vE 0) (cE (.int 1))) (zd))) (zd))) (vE 2)) (zd)))
theorem QH {f:En->R T}{ρ:En}{x:T}(hf:f ρ= .ok x):Zt (z9 f zd) ρ= .ok (.lst [x]):=by
 unfold Zt z9 zd;rw[hf];rfl
theorem WQ {ca:List T->R T}{k:Kd}{t:T}{lo:Nat}{ws:List T}(hw:ca [t]= .ok (.lst ws))(hpos:1<=ws.length){a b c:T}:∀(js:List Nat) (acc:List T) (x:Sl),(∀j∈js,lo+j<=3)->acc.length+(js.map λj=>ws.length ^ (lo+j)).sum<=bnd->
  ∃y,ZD (zl 2) (wf ca f_g) (js.map λ(j:Nat)=>T.int ((lo:Int)+(j:Int))) [.vl (.tup [a,t,b,c]),.ow acc,x]= .nx [.vl (.tup [a,t,b,c]),.ow (acc++js.flatMap λj=>W7 (ab (lo+j) ws)),y]
 | [],acc,x,_,_=>⟨x,by simp[ZD]⟩
 | j :: js,acc,x,hj,hb=>by
  have hj1:=hj j aa;have hb1:bnd=16777216:=rfl;rw[az,d3]at hb;have er:f_g [.lst ((ab (lo+j) ws).map T.lst)]= .ok (.lst (W7 (ab (lo+j) ws))):=Yr _ (by rw[aI];omega) (λl hl=>by rw[bc hl];exact hpos) (by rw[aM,j3];omega)
  have hlen:(W7 (ab (lo+j) ws)).length=ws.length ^ (lo+j):=by rw[Jt,aM,j3]
  have em:zP (.lst [.lst ws]) (.int ((lo:Int)+(j:Int)))= .ok (.lst ((ab (lo+j) ws).map T.lst)):=by
   have e1:(lo:Int)+(j:Int)=((lo+j:Nat):Int):=by omega
   rw[e1,WP (by omega),ZL,aM]
  have eb:wf ca f_g [.vl (.tup [a,t,b,c]),.ow acc,.vl (.int ((lo:Int)+(j:Int)))]= .nx [.vl (.tup [a,t,b,c]),.ow (acc++W7 (ab (lo+j) ws)),.vl (.int ((lo:Int)+(j:Int)))]:=by
   have e1:za 1 f_g (z9 (zc zP (Zt (z9 (za 1 ca (z9 (zc ixT (vE 0) (cE (.int 1))) (zd))) (zd))) (vE 2)) (zd)) [.vl (.tup [a,t,b,c]),.ow acc,.vl (.int ((lo:Int)+(j:Int)))]= .ok (.lst (W7 (ab (lo+j) ws))):=by
    have e0:za 1 ca (z9 (zc ixT (vE 0) (cE (.int 1))) (zd)) [.vl (.tup [a,t,b,c]),.ow acc,.vl (.int ((lo:Int)+(j:Int)))]= .ok (.lst ws):=by
     rw[zG,ZK,bOk,hw]
    rw[zG,zf,QH e0,bOk,v2,bOk,em,bOk,er]
   show ((za 1 f_g _ _).s λt=>match t with | .lst us=>if acc.length+us.length<=bnd then RS.nx _ else .bad | _=> .bad)=_
   rw[e1,Zv];show (if _ then _ else _)=_
   rw[if_pos (by rw[hlen];omega)]
   rfl
  obtain⟨y,ih⟩:=WQ (k:=k) hw hpos (a:=a) (b:=b) (c:=c) js (acc++W7 (ab (lo+j) ws)) (.vl (.int ((lo:Int)+(j:Int)))) (λi hi=>hj i (a8 _ hi)) (by rw[aB,hlen];omega)
  refine⟨y, ?_⟩;have e:ZD (zl 2) (wf ca f_g) ((j :: js).map λ(j:Nat)=>T.int ((lo:Int)+(j:Int))) [.vl (.tup [a,t,b,c]),.ow acc,x]=match wf ca f_g [.vl (.tup [a,t,b,c]),.ow acc,.vl (.int ((lo:Int)+(j:Int)))] with
   | .nx ρ2=>ZD (zl 2) (wf ca f_g) (js.map λ(j:Nat)=>T.int ((lo:Int)+(j:Int))) ρ2
   | .ct ρ2=>ZD (zl 2) (wf ca f_g) (js.map λ(j:Nat)=>T.int ((lo:Int)+(j:Int))) ρ2
   | .bk ρ2=> .nx ρ2
   | r=>r:=rfl
  rw[e,eb];dsimp only;rw[ih,bI,bx]
theorem QI {ca:List T->R T}{a t:T}{lo hi:Nat}(h1:lo<=hi)(h2:hi<=3){x:Sl}{acc:List T}{r:RS}
  (el:ZD (zl 2) (wf ca f_g) ((aQ (hi+1 - lo)).map λ(j:Nat)=>T.int ((lo:Int)+(j:Int))) [.vl (.tup [a,t,.int (lo:Int),.int (hi:Int)]),.ow acc,x]=r):
  jp (Jl (zc ixT (vE 0) (cE (.int 2))) (zc zv (zc ixT (vE 0) (cE (.int 3))) (cE (.int 1)))) (zl 2) (wf ca f_g) [.vl (.tup [a,t,.int (lo:Int),.int (hi:Int)]),.ow acc,x]=r:=by
 have hn:((hi:Int)+1 - (lo:Int)).toNat=hi+1 - lo:=by omega
 have hc: -1000000 < (lo:Int)/\(lo:Int) < 1000000/\ -1000000 < (hi:Int)+1/\(hi:Int)+1 < 1000000:=by omega
 have e:jp (Jl (zc ixT (vE 0) (cE (.int 2))) (zc zv (zc ixT (vE 0) (cE (.int 3))) (cE (.int 1)))) (zl 2) (wf ca f_g) [.vl (.tup [a,t,.int (lo:Int),.int (hi:Int)]),.ow acc,x]=(Jl (zc ixT (vE 0) (cE (.int 2))) (zc zv (zc ixT (vE 0) (cE (.int 3))) (cE (.int 1))) [.vl (.tup [a,t,.int (lo:Int),.int (hi:Int)]),.ow acc,x]).s λts=>ZD (zl 2) (wf ca f_g) ts [.vl (.tup [a,t,.int (lo:Int),.int (hi:Int)]),.ow acc,x]:=rfl;rw[e,uo wa (Yt vU) hc,Zv,hn];exact el
theorem Kw {n L lo hi:Nat}(e:L=pw n lo hi)(h:L<=1000000):([]:List T).length+((aQ (hi+1 - lo)).map λj=>n ^ (lo+j)).sum<=bnd:=by
 have h' :pw n lo hi<=bnd:=aq (e ▸ h) (by decide)
 unfold pw at h';rw[bY,f8];exact h'
theorem Yv {ca:List T->R T}(d:Nat)(lo hi:Int)(h:(Kd.whole lo hi).Ok (d+1))(hl:(Kd.whole lo hi).all.length<=1000000)(H:∀k' :Kd,k'.Ok d->ca [k'.t]= .ok (.lst k'.all)):zi (b_6 ca f_g (en0 3 [(Kd.whole lo hi).t]))= .ok (.lst (Kd.whole lo hi).all):=by
 have hb1:bnd=16777216:=rfl;have e:zi (b_6 ca f_g (en0 3 [(Kd.whole lo hi).t]))=zi (b_6 ca f_g [.vl (Kd.whole lo hi).t,.un,.un]):=rfl;rw[e,b_6,zR,ZU];obtain⟨h1,h2,h3⟩:=h;simp only[Kd.t];rw[cs0,Zv,show (("whole":Str) == "whole")=true from rfl,if_pos rfl,Z9,j0,we,we,jh];unfold gr;rw[uo ZK (Yt wa) ⟨by omega,by omega,by omega,by omega⟩]
 rw[Kd.all];rfl
theorem QJ {ca:List T->R T}(d:Nat)(cs:List (Str×Int))(h:(Kd.pick cs).Ok (d+1))(hl:(Kd.pick cs).all.length<=1000000)(H:∀k' :Kd,k'.Ok d->ca [k'.t]= .ok (.lst k'.all)):zi (b_6 ca f_g (en0 3 [(Kd.pick cs).t]))= .ok (.lst (Kd.pick cs).all):=by
 have hb1:bnd=16777216:=rfl;have e:zi (b_6 ca f_g (en0 3 [(Kd.pick cs).t]))=zi (b_6 ca f_g [.vl (Kd.pick cs).t,.un,.un]):=rfl;rw[e,b_6,zR,ZU];simp only[Kd.t];rw[cs0,Zv,show (("pick":Str) == "whole")=false from rfl,if_neg ax,ww];dsimp only;rw[zR,ZU,cs0,Zv,show (("pick":Str) == "pick")=true from rfl,if_pos rfl,Z9,j0,we,we,jh,zC,Zi,ZK,bOk];have hc:cs.length<=4:=h.2.1;have ec:zp (zK 0 1) zN (vE 0) 2 [] [.vl (.tup [.str "pick",.tup (cs.map ZF)]),.un,.un] (cs.map ZF)= .ok (cs.map λc=>T.str c.1):=by
  unfold zp;rw[if_pos (by rw[xqz];omega)]
  show quiet (zr (zK 0 1) zN (vE 0) (cs.map ZF) [.un,.un])=_;rw[Yu];rfl
 show zi (match ((((R.ok (cs.map ZF)).bind λts=>(zp (zK 0 1) zN (vE 0) 2 [] [.vl (.tup [.str "pick",.tup (cs.map ZF)]),.un,.un] ts).bind λvs=> .ok (.lst vs))).s λt=> .rt t) with | .nx ρ' =>_ | r=>r)=_
 rw[bOk,ec];rw[Kd.all];rfl
theorem xD {ca:List T->R T}(d:Nat)(ks:List Kd)(h:(Kd.row ks).Ok (d+1))(hl:(Kd.row ks).all.length<=1000000)(H:∀k' :Kd,k'.Ok d->ca [k'.t]= .ok (.lst k'.all)):zi (b_6 ca f_g (en0 3 [(Kd.row ks).t]))= .ok (.lst (Kd.row ks).all):=by
 have hb1:bnd=16777216:=rfl;have e:zi (b_6 ca f_g (en0 3 [(Kd.row ks).t]))=zi (b_6 ca f_g [.vl (Kd.row ks).t,.un,.un]):=rfl;rw[e,b_6,zR,ZU];obtain⟨h1,h2,h3⟩:=h;simp only[Kd.t];rw[cs0,Zv,show (("row":Str) == "whole")=false from rfl,if_neg ax,ww];dsimp only;rw[zR,ZU,cs0,Zv,show (("row":Str) == "pick")=false from rfl,if_neg ax,ww];dsimp only;rw[zR,ZU,cs0,Zv,show (("row":Str) == "row")=true from rfl,if_pos rfl,Z9,j0,we,we,jh,zG,zC,Zi,ZK,bOk,Kd.ts_map];have ec:zp (zl 0) zN (za 1 ca (z9 (vE 0) (zd))) 1 [] [.vl (.tup [.str "row",.tup (ks.map Kd.t)]),.un,.un] (ks.map Kd.t)= .ok ((ks.map Kd.all).map T.lst):=by
  unfold zp;rw[if_pos (by rw[xqz];omega)]
  show quiet (zr (zl 0) zN _ (ks.map Kd.t) [.un])=_;have:∀(ks:List Kd) (x:Sl),(∀k∈ks,k.Ok d)->zr (zl 0) zN (za 1 ca (z9 (vE 0) (zd))) (ks.map Kd.t) [x]= .ok ((ks.map Kd.all).map T.lst):=by
   intro ks
   induction ks with
   | nil=>intro _ _;rfl
   | cons k ks ih=>
    intro x hk;have e1:zr (zl 0) zN (za 1 ca (z9 (vE 0) (zd))) ((k :: ks).map Kd.t) [x]=(za 1 ca (z9 (vE 0) (zd)) [.vl k.t]).bind λv=>(zr (zl 0) zN (za 1 ca (z9 (vE 0) (zd))) (ks.map Kd.t) [.vl k.t]).bind λvs=> .ok (v :: vs):=rfl;rw[e1,zG,v0,bOk,H k (hk k aa),bOk,ih _ λk' hk' =>hk k' (a8 _ hk')];rfl
  rw[this ks .un h3];rfl
 have hrow:=jV ks;have er:f_g [.lst ((ks.map Kd.all).map T.lst)]= .ok (.lst (W7 (ks.map Kd.all))):=Yr _ (by rw[xqz];omega) (λl hl=>by
  obtain⟨k,hk,rfl⟩:=au.mp hl;exact Zq d k (h3 k hk)) (by
  rw[aX];show prd (ks.map λk=>k.all.length)<=bnd;omega)
 show zi (match ((((R.ok (ks.map Kd.t)).bind λts=>(zp (zl 0) zN (za 1 ca (z9 (vE 0) (zd))) 1 [] [.vl (.tup [.str "row",.tup (ks.map Kd.t)]),.un,.un] ts).bind λvs=> .ok (.lst vs)).bind λx=>f_g [x]).s λt=> .rt t) with | .nx ρ' =>_ | r=>r)=_
 rw[bOk,ec,bOk,bOk,er,Kd.all,Kd.alls_map];rfl
theorem QK {ca:List T->R T}(d:Nat)(k:Kd)(lo hi:Nat)(h:(Kd.many k lo hi).Ok (d+1))(hl:(Kd.many k lo hi).all.length<=1000000)(H:∀k' :Kd,k'.Ok d->ca [k'.t]= .ok (.lst k'.all)):zi (b_6 ca f_g (en0 3 [(Kd.many k lo hi).t]))= .ok (.lst (Kd.many k lo hi).all):=by
 have hb1:bnd=16777216:=rfl;have e:zi (b_6 ca f_g (en0 3 [(Kd.many k lo hi).t]))=zi (b_6 ca f_g [.vl (Kd.many k lo hi).t,.un,.un]):=rfl;rw[e,b_6,zR,ZU];obtain⟨h1,h2,h3⟩:=h;have hml:=jd k lo hi;simp only[Kd.t];rw[cs0,Zv,show (("many":Str) == "whole")=false from rfl,if_neg ax,ww];dsimp only;rw[zR,ZU,cs0,Zv,show (("many":Str) == "pick")=false from rfl,if_neg ax,ww];dsimp only;rw[zR,ZU,cs0,Zv,show (("many":Str) == "row")=false from rfl,if_neg ax,ww];dsimp only;have e0:UQ 1 (zd) [.vl (.tup [.str "many",k.t,.int (lo:Int),.int (hi:Int)]),.un,.un]= .nx [.vl (.tup [.str "many",k.t,.int (lo:Int),.int (hi:Int)]),.ow [],.un]:=rfl;rw[zR,e0];dsimp only;obtain⟨y,el⟩:=WQ (k:=k) (lo:=lo) (H k h3) (Zq d k h3) (a:= .str "many") (b:= .int (lo:Int)) (c:= .int (hi:Int)) (aQ (hi+1 - lo)) [] .un (λj hj=>by have:=aR.mp hj;omega) (Kw hml hl)
 have e1:=QI (ca:=ca) (t:=k.t) h1 h2 el;rw[bn]at e1;rw[zb e1,Kd.all];rfl
theorem QL {ca:List T->R T}(d:Nat)(k:Kd)(h:k.Ok (d+1))(hl:k.all.length<=1000000)(H:∀k' :Kd,k'.Ok d->ca [k'.t]= .ok (.lst k'.all)):zi (b_6 ca f_g (en0 3 [k.t]))= .ok (.lst k.all):=by
 cases k with
 | whole lo hi=>exact Yv d lo hi h hl H
 | pick cs=>exact QJ d cs h hl H
 | row ks=>exact xD d ks h hl H
 | many k lo hi=>exact QK d k lo hi h hl H
theorem uU:∀(d n:Nat),d<=n->d<=3->∀k:Kd,k.Ok d->k.all.length<=1000000->S_6 n 0 [k.t]= .ok (.lst k.all)
 | 0,_,_,_,_,h,_=>h.elim
 | d+1,0,hn,_,_,_,_=>by omega
 | d+1,n+1,hn,hd,k,h,hl=>by
  have e:S_6 (n+1) 0 [k.t]=zi (b_6 (S_6 n 0) f_g (en0 3 [k.t])):=rfl;rw[e];refine QL d k h hl λk' hk' =>uU d n (by omega) (by omega) k' hk' ?_
  have h1:=jm d k' hk';have:mx d<=1000000:=by
   have:d=0\/d=1\/d=2:=by omega
   rcases this with rfl | rfl | rfl <;> decide
  omega
theorem in2 {x a b:Str}{r:List T}{ρ:En}:zh inC (zc ixT (vE 0) (cE (.int 0))) (zW (z9 (cE (.str a)) (z9 (cE (.str b)) (zd)))) (.vl (.tup (.str x :: r)) :: ρ)=inC (.str x) (.tup [.str a,.str b]):=by
 rw[zu,zf,v0,bOk,zI,bOk,at0,bOk,uR zI zI,bOk]
theorem ZI {g:En->R Bool}{f1 f2:En->RS}{ρ:En}(h:g ρ= .ok true):ifS g f1 f2 ρ=f1 ρ:=by rw[ZU,h,Zv,if_pos rfl]
theorem if_f {g:En->R Bool}{f1 f2:En->RS}{ρ:En}(h:g ρ= .ok false):ifS g f1 f2 ρ=f2 ρ:=by rw[ZU,h,Zv,if_neg ax]
theorem ze {g:En->R Bool}{f1:En->RS}{ρ:En}(h:g ρ= .ok false):ifS g f1 nxS ρ= .nx ρ:=by rw[if_f h];rfl
theorem zw {i:Nat}{f:En->R T}{ρ:En}{t:T}(h:f ρ= .ok t):zz i f ρ= .nx (ρ.set i (.vl t)):=by rw[Jf,h,Zv]
theorem zg {f:En->R T}{ρ:En}{t:T}(h:f (frz ρ)= .ok t):zo f ρ= .rt t:=by rw[Z9,h,Zv]
theorem JQ {g:T->En->R En}{fb:En->RS}{t:T}{ts:List T}{ρ ρ1 ρ2:En}(hg:g t ρ= .ok ρ1)(hb:fb ρ1= .nx ρ2):ZD g fb (t :: ts) ρ=ZD g fb ts ρ2:=by
 rw[ZD,hg];dsimp only;rw[hb]
theorem zq {f g:En->RS}{ρ:En}{t:T}(h:f ρ= .rt t):zj f g ρ= .rt t:=by rw[zR,h]
theorem Yw {i j:Nat}(h:i < 2 ^ 60):zP (.int (i:Int)) (.int (j:Int))= .ok (.int ((i*j:Nat):Int)):=by
 rw[Yo _ _ (.inl ⟨by omega,by omega⟩),ib]
theorem Kx {d n:Nat}(h:n<=mx d)(hd:d<=3):n < 2 ^ 60:=by
 have:d=0\/d=1\/d=2\/d=3:=by omega
 have h3:mx 3 < 2 ^ 60:=by decide
 have h2:mx 2 < 2 ^ 60:=by decide
 have h1:mx 1 < 2 ^ 60:=by decide
 have h0:mx 0 < 2 ^ 60:=by decide
 rcases this with rfl | rfl | rfl | rfl <;> omega
theorem uV {a b:Sl}:∀(ns:List Nat) (m:Nat) (x y:Sl),(∀n∈ns,1<=n)->m*prd ns < 2 ^ 60->∃x',ZD (zl 3) (zz 2 (zc zP (vE 2) (vE 3))) (ns.map λ(n:Nat)=>T.int (n:Int)) [a,b,.vl (.int (m:Int)),x,y]= .nx [a,b,.vl (.int ((m*prd ns:Nat):Int)),x',y]
 | [],m,x,y,_,_=>⟨x,by simp[ZD,prd]⟩
 | n :: ns,m,x,y,hp,hb=>by
  have hpr:=JO (ns:=ns) λk hk=>hp k (a8 _ hk);have hn:=hp n aa;have hmm:m<=m*prd (n :: ns):=cn _ (eB hn hpr);have hb2:m < 2 ^ 60:=bV hmm hb;rw[prd,← cD]at hb;obtain⟨x',ih⟩:=uV (a:=a) (b:=b) ns (m*n) (.vl (.int (n:Int))) y (λk hk=>hp k (a8 _ hk)) hb;refine⟨x', ?_⟩;have es:zz 2 (zc zP (vE 2) (vE 3)) [a,b,.vl (.int (m:Int)),.vl (.int (n:Int)),y]= .nx [a,b,.vl (.int ((m*n:Nat):Int)),.vl (.int (n:Int)),y]:=by
   rw[Jf,zf,v2,bOk,v3,bOk,Yw hb2,Zv];rfl
  have s3:zl 3 (T.int (n:Int)) [a,b,.vl (.int (m:Int)),x,y]= .ok [a,b,.vl (.int (m:Int)),.vl (.int (n:Int)),y]:=rfl;rw[az,JQ s3 es,prd,← cD];exact ih
theorem QM:∀(d:Nat) (lo hi:Int),(Kd.whole lo hi).Ok (d+1)->(Kd.whole lo hi).Ok 1
 | _,_,_,h=>h
theorem QN:∀(d:Nat) (cs:List (Str×Int)),(Kd.pick cs).Ok (d+1)->(Kd.pick cs).Ok 1
 | _,_,h=>h
theorem WR {cs:List T->R T}(k:Kd)(h:k.Ok 1){x:Str}{r:List T}(ht:k.t= .tup (.str x :: r))(hx:inC (.str x) (.tup [.str "whole",.str "pick"])= .ok true):zi (b_f (f_6 8) cs (en0 5 [k.t]))= .ok (.int (k.all.length:Int)):=by
 have ha:f_6 8 [k.t]= .ok (.lst k.all):=uU 1 8 (by omega) (by omega) k h (aq (jm 1 k h) (by decide))
 have e:zi (b_f (f_6 8) cs (en0 5 [k.t]))=zi (b_f (f_6 8) cs [.vl k.t,.un,.un,.un,.un]):=rfl;have e1:zh inC (zc ixT (vE 0) (cE (.int 0))) (zW (z9 (cE (.str "whole")) (z9 (cE (.str "pick")) (zd)))) [.vl k.t,.un,.un,.un,.un]= .ok true:=by
  rw[ht,in2,hx]
 have e2:zo (ap1 zY (za 1 (f_6 8) (z9 (vE 0) (zd)))) [.vl k.t,.un,.un,.un,.un]= .rt (.int (k.all.length:Int)):=by
  refine zg ?_;rw[j0,Zf,zG,v0,bOk,ha,bOk,Kl]
 rw[e,b_f,zq (by rw[ZI e1,e2])]
 rfl
theorem z0u (b:Bool):b2 b=(iv b:Int):=by cases b <;> rfl
theorem QO {cs:List T->R T}{d:Nat}(hd:d+1<=3)(ks:List Kd)(h:(Kd.row ks).Ok (d+1))(H:∀k:Kd,k.Ok d->cs [k.t]= .ok (.int (k.all.length:Int))):zi (b_f (f_6 8) cs (en0 5 [(Kd.row ks).t]))= .ok (.int ((Kd.row ks).all.length:Int)):=by
 have hlt:=Kx (jm (d+1) (.row ks) h) hd;rw[jV]at hlt ⊢;obtain⟨h1,h2,h3⟩:=h;simp only[Kd.t,Kd.ts_map];have e:zi (b_f (f_6 8) cs (en0 5 [.tup [.str "row",.tup (ks.map Kd.t)]]))=zi (b_f (f_6 8) cs [.vl (.tup [.str "row",.tup (ks.map Kd.t)]),.un,.un,.un,.un]):=rfl;have e1:zh inC (zc ixT (vE 0) (cE (.int 0))) (zW (z9 (cE (.str "whole")) (z9 (cE (.str "pick")) (zd)))) [.vl (.tup [.str "row",.tup (ks.map Kd.t)]),.un,.un,.un,.un]= .ok false:=by
  rw[in2];rfl
 have ec:zp (zl 0) zN (za 1 cs (z9 (vE 0) (zd))) 1 [] [.vl (.tup [.str "row",.tup (ks.map Kd.t)]),.un,.un,.un,.un] (ks.map Kd.t)= .ok ((ks.map λk=>k.all.length).map λ(n:Nat)=>T.int (n:Int)):=by
  unfold zp;rw[if_pos (by rw[xqz];exact aq h2 (by decide))]
  have:∀(ks:List Kd) (x:Sl),(∀k∈ks,k.Ok d)->zr (zl 0) zN (za 1 cs (z9 (vE 0) (zd))) (ks.map Kd.t) [x]= .ok ((ks.map λk=>k.all.length).map λ(n:Nat)=>T.int (n:Int)):=by
   intro ks
   induction ks with
   | nil=>intro _ _;rfl
   | cons k ks ih=>
    intro x hk;have e1:zr (zl 0) zN (za 1 cs (z9 (vE 0) (zd))) ((k :: ks).map Kd.t) [x]=(za 1 cs (z9 (vE 0) (zd)) [.vl k.t]).bind λv=>(zr (zl 0) zN (za 1 cs (z9 (vE 0) (zd))) (ks.map Kd.t) [.vl k.t]).bind λvs=> .ok (v :: vs):=rfl;rw[e1,zG,v0,bOk,H k (hk k aa),bOk,ih _ λk' hk' =>hk k' (a8 _ hk')];rfl
  show quiet (zr (zl 0) zN _ (ks.map Kd.t) [.un])=_;rw[this ks .un h3];rfl
 have e2:ifE (zh eqC (zc ixT (vE 0) (cE (.int 0))) (cE (.str "row"))) (zF (Zs (zc ixT (vE 0) (cE (.int 1)))) (zl 0) (zN) (za 1 cs (z9 (vE 0) (zd))) 1 []) (Zt (zd)) [.vl (.tup [.str "row",.tup (ks.map Kd.t)]),.un,.un,.un,.un]= .ok (.lst ((ks.map λk=>k.all.length).map λ(n:Nat)=>T.int (n:Int))):=by
  unfold ifE;rw[cs0,bOk,show (("row":Str) == "row")=true from rfl,if_pos rfl,zC,Zi,ZK,bOk];show ((R.ok (ks.map Kd.t)).bind _)=_;rw[bOk,ec,bOk]
 obtain⟨x',el⟩:=uV (a:= .vl (.tup [.str "row",.tup (ks.map Kd.t)])) (b:= .vl (.lst ((ks.map λk=>k.all.length).map λ(n:Nat)=>T.int (n:Int)))) (ks.map λk=>k.all.length) 1 .un .un (λn hn=>by
  obtain⟨k,hk,rfl⟩:=au.mp hn;exact Zq d k (h3 k hk)) (by rw[bR];exact hlt)
 rw[bR]at el;have e3:jp (Zs (vE 1)) (zl 3) (zz 2 (zc zP (vE 2) (vE 3))) [.vl (.tup [.str "row",.tup (ks.map Kd.t)]),.vl (.lst ((ks.map λk=>k.all.length).map λ(n:Nat)=>T.int (n:Int))),.vl (.int 1),.un,.un]=_:=el;have e4:zh eqC (zc ixT (vE 0) (cE (.int 0))) (cE (.str "many")) [.vl (.tup [.str "row",.tup (ks.map Kd.t)]),.vl (.lst ((ks.map λk=>k.all.length).map λ(n:Nat)=>T.int (n:Int))),.vl (.int ((prd (ks.map λk=>k.all.length):Nat):Int)),x',.un]= .ok false:=by
  rw[cs0];rfl
 rw[e,b_f,zb (ze e1),zb (zw e2)];have s1:([.vl (.tup [.str "row",.tup (ks.map Kd.t)]),.un,.un,.un,.un]:En).set 1 (.vl (.lst ((ks.map λk=>k.all.length).map λ(n:Nat)=>T.int (n:Int))))=[.vl (.tup [.str "row",.tup (ks.map Kd.t)]),.vl (.lst ((ks.map λk=>k.all.length).map λ(n:Nat)=>T.int (n:Int))),.un,.un,.un]:=rfl;rw[s1,zb (zw zI)];have s2:([.vl (.tup [.str "row",.tup (ks.map Kd.t)]),.vl (.lst ((ks.map λk=>k.all.length).map λ(n:Nat)=>T.int (n:Int))),.un,.un,.un]:En).set 2 (.vl (.int 1))=[.vl (.tup [.str "row",.tup (ks.map Kd.t)]),.vl (.lst ((ks.map λk=>k.all.length).map λ(n:Nat)=>T.int (n:Int))),.vl (.int 1),.un,.un]:=rfl;rw[s2,zb e3,zb (ze e4)];rfl
theorem Ky {f g:En->R T}{ρ:En}{i j c:Int}(hf:f ρ= .ok (.int i))(hg:g ρ= .ok (.int j)):chE leC leC f (cE (.int c)) g ρ= .ok (.bl (decide (i<=c) && decide (c<=j))):=by
 rw[Yg,hf,bOk,zI,bOk,Jm,bOk,hg];cases decide (i<=c) <;> rfl
theorem Jh (a b:Nat):decide ((a:Int)<=(b:Int))=decide (a<=b):=by
 by_cases h:a<=b
 ·rw[decide_eq_true h];exact decide_eq_true (by omega)
 ·rw[decide_eq_false h];exact decide_eq_false (by omega)
theorem uW (a b:Nat):((a:Int) == (b:Int))=(a == b):=by
 by_cases h:a=b
 ·subst h;simp
 ·rw[beq_eq_false_iff_ne.mpr h,beq_eq_false_iff_ne];omega
theorem G4 {f:En->R T}{ρ:En}{b:Bool}(h:f ρ= .ok (.bl b)):ap1 Wk f ρ= .ok (.int ((iv b:Nat):Int)):=by
 rw[Zf,h,bOk];show R.ok (T.int (b2 b))=_;rw[z0u]
theorem Yx {f g:En->R T}{ρ:En}{i j:Nat}(hf:f ρ= .ok (.int (i:Int)))(hg:g ρ= .ok (.int (j:Int))):zc zv f g ρ= .ok (.int ((i+j:Nat):Int)):=by
 rw[zf,hf,bOk,hg,bOk,zT,Int.natCast_add]
theorem jW {f g:En->R T}{ρ:En}{i j:Nat}(h:i < 2 ^ 60)(hf:f ρ= .ok (.int (i:Int)))(hg:g ρ= .ok (.int (j:Int))):zc zP f g ρ= .ok (.int ((i*j:Nat):Int)):=by
 rw[zf,hf,bOk,hg,bOk,Yw h]
theorem xE {d n:Nat}(h:n<=mx d)(hd:d+1<=3)(h0:1<=d):n*n*n < 2 ^ 60/\n*n < 2 ^ 60/\n < 2 ^ 60:=by
 have h1:n<=70644:=by
  have:d=1\/d=2:=by omega
  have h2:mx 2=70644:=by decide
  have h1:mx 1=41:=by decide
  rcases this with rfl | rfl <;> omega
 have h2:n*n<=70644*70644:=cq h1 h1;have h3:n*n*n<=70644*70644*70644:=cq h2 h1;have h4:70644*70644*70644 < 2 ^ 60:=by decide
 have h5:70644*70644 < 2 ^ 60:=by decide
 have h6:70644 < 2 ^ 60:=by decide
 exact⟨bV h3 h4,bV h2 h5,bV h1 h6⟩
noncomputable abbrev mt (t:T)(lo hi:Nat):T:= .tup [.str "many",t,.int (lo:Int),.int (hi:Int)]
theorem v4' {t:T}{a b c d:Sl}{ρ:En}:vE 4 (a :: b :: c :: d :: .vl t :: ρ)= .ok t:=rfl
theorem Yy {t:T}{a x:Sl}{lo hi n:Nat}(h3:n*n*n < 2 ^ 60)(h2:n*n < 2 ^ 60)(h1:n < 2 ^ 60):
  zj (zz 2 (zc zv (ap1 Wk (Zh eqC (zc ixT (vE 0) (cE (.int 2))) (cE (.int 0)))) (zc zP (vE 4) (ap1 Wk (chE leC leC (zc ixT (vE 0) (cE (.int 2))) (cE (.int 1)) (zc ixT (vE 0) (cE (.int 3))))))))
  (zj (zz 2 (zc zv (vE 2) (zc zP (zc zP (vE 4) (vE 4)) (ap1 Wk (chE leC leC (zc ixT (vE 0) (cE (.int 2))) (cE (.int 2)) (zc ixT (vE 0) (cE (.int 3))))))))
  (zz 2 (zc zv (vE 2) (zc zP (zc zP (zc zP (vE 4) (vE 4)) (vE 4)) (ap1 Wk (Zh eqC (zc ixT (vE 0) (cE (.int 3))) (cE (.int 3))))))))
  [.vl (mt t lo hi),a,.vl (.int 1),x,.vl (.int (n:Int))]= .nx [.vl (mt t lo hi),a,.vl (.int ((iv (lo == 0)+n*iv (decide (lo<=1) && decide (1<=hi))+n*n*iv (decide (lo<=2) && decide (2<=hi))+n*n*n*iv (hi == 3):Nat):Int)),x,.vl (.int (n:Int))]:=by
 have le1:∀{p q r s:Sl},ap1 Wk (chE leC leC (zc ixT (vE 0) (cE (.int 2))) (cE (.int 1)) (zc ixT (vE 0) (cE (.int 3)))) [.vl (mt t lo hi),p,q,r,s]= .ok (.int ((iv (decide (lo<=1) && decide (1<=hi)):Nat):Int)):=λ{p q r s}=>G4 (by
  rw[Ky (c:=1) wa vU];rw[show decide ((lo:Int)<=1)=decide (lo<=1) from Jh lo 1,show decide ((1:Int)<=(hi:Int))=decide (1<=hi) from Jh 1 hi])
 have le2:∀{p q r s:Sl},ap1 Wk (chE leC leC (zc ixT (vE 0) (cE (.int 2))) (cE (.int 2)) (zc ixT (vE 0) (cE (.int 3)))) [.vl (mt t lo hi),p,q,r,s]= .ok (.int ((iv (decide (lo<=2) && decide (2<=hi)):Nat):Int)):=λ{p q r s}=>G4 (by
  rw[Ky (c:=2) wa vU];rw[show decide ((lo:Int)<=2)=decide (lo<=2) from Jh lo 2,show decide ((2:Int)<=(hi:Int))=decide (2<=hi) from Jh 2 hi])
 have eq0:∀{p q r s:Sl},ap1 Wk (Zh eqC (zc ixT (vE 0) (cE (.int 2))) (cE (.int 0))) [.vl (mt t lo hi),p,q,r,s]= .ok (.int ((iv (lo == 0):Nat):Int)):=λ{p q r s}=>G4 (by
  rw[Z4,wa,bOk,zI,bOk,eqI,bOk,show ((lo:Int) == 0)=(lo == 0) from uW lo 0])
 have eq3:∀{p q r s:Sl},ap1 Wk (Zh eqC (zc ixT (vE 0) (cE (.int 3))) (cE (.int 3))) [.vl (mt t lo hi),p,q,r,s]= .ok (.int ((iv (hi == 3):Nat):Int)):=λ{p q r s}=>G4 (by
  rw[Z4,vU,bOk,zI,bOk,eqI,bOk,show ((hi:Int) == 3)=(hi == 3) from uW hi 3])
 have a1:=zw (i:=2) (Yx (eq0 (p:=a) (q:= .vl (.int 1)) (r:=x) (s:= .vl (.int (n:Int)))) (jW h1 v4' le1));have a1:zz 2 (zc zv (ap1 Wk (Zh eqC (zc ixT (vE 0) (cE (.int 2))) (cE (.int 0)))) (zc zP (vE 4) (ap1 Wk (chE leC leC (zc ixT (vE 0) (cE (.int 2))) (cE (.int 1)) (zc ixT (vE 0) (cE (.int 3))))))) [.vl (mt t lo hi),a,.vl (.int 1),x,.vl (.int (n:Int))]= .nx [.vl (mt t lo hi),a,.vl (.int ((iv (lo == 0)+n*iv (decide (lo<=1) && decide (1<=hi)):Nat):Int)),x,.vl (.int (n:Int))]:=a1;rw[zb a1];generalize iv (lo == 0)+n*iv (decide (lo<=1) && decide (1<=hi))=m1;have a2:=zw (i:=2) (Yx (v2 (t:= .int (m1:Int)) (a:= .vl (mt t lo hi)) (b:=a) (ρ:=[x,.vl (.int (n:Int))])) (jW h2 (jW h1 v4' v4') le2));have a2:zz 2 (zc zv (vE 2) (zc zP (zc zP (vE 4) (vE 4)) (ap1 Wk (chE leC leC (zc ixT (vE 0) (cE (.int 2))) (cE (.int 2)) (zc ixT (vE 0) (cE (.int 3))))))) [.vl (mt t lo hi),a,.vl (.int (m1:Int)),x,.vl (.int (n:Int))]= .nx [.vl (mt t lo hi),a,.vl (.int ((m1+n*n*iv (decide (lo<=2) && decide (2<=hi)):Nat):Int)),x,.vl (.int (n:Int))]:=a2;rw[zb a2];generalize m1+n*n*iv (decide (lo<=2) && decide (2<=hi))=m2;have a3:=zw (i:=2) (Yx (v2 (t:= .int (m2:Int)) (a:= .vl (mt t lo hi)) (b:=a) (ρ:=[x,.vl (.int (n:Int))])) (jW h3 (jW h2 (jW h1 v4' v4') v4') eq3));exact a3
theorem Yz {cs:List T->R T}{d:Nat}(hd:d+1<=3)(k:Kd)(lo hi:Nat)(h:(Kd.many k lo hi).Ok (d+1))(H:∀k:Kd,k.Ok d->cs [k.t]= .ok (.int (k.all.length:Int))):zi (b_f (f_6 8) cs (en0 5 [(Kd.many k lo hi).t]))= .ok (.int ((Kd.many k lo hi).all.length:Int)):=by
 obtain⟨h1,h2,h3⟩:=h;have hd0:1<=d:=by
  cases d with
  | zero=>exact h3.elim
  | succ d=>omega
 obtain⟨c3,c2,c1⟩:=xE (jm d k h3) hd hd0;rw[jd,xB _ h1 h2];simp only[Kd.t];have hk:=H k h3;generalize k.all.length=n at*;generalize k.t=t at*;have e:zi (b_f (f_6 8) cs (en0 5 [mt t lo hi]))=zi (b_f (f_6 8) cs [.vl (mt t lo hi),.un,.un,.un,.un]):=rfl;have e1:zh inC (zc ixT (vE 0) (cE (.int 0))) (zW (z9 (cE (.str "whole")) (z9 (cE (.str "pick")) (zd)))) [.vl (mt t lo hi),.un,.un,.un,.un]= .ok false:=by
  rw[in2];rfl
 have e2:ifE (zh eqC (zc ixT (vE 0) (cE (.int 0))) (cE (.str "row"))) (zF (Zs (zc ixT (vE 0) (cE (.int 1)))) (zl 0) (zN) (za 1 cs (z9 (vE 0) (zd))) 1 []) (Zt (zd)) [.vl (mt t lo hi),.un,.un,.un,.un]= .ok (.lst []):=by
  unfold ifE;rw[cs0,bOk,show (("many":Str) == "row")=false from rfl,if_neg ax];rfl
 have s1:([.vl (mt t lo hi),.un,.un,.un,.un]:En).set 1 (.vl (.lst []))=[.vl (mt t lo hi),.vl (.lst []),.un,.un,.un]:=rfl;have s2:([.vl (mt t lo hi),.vl (.lst []),.un,.un,.un]:En).set 2 (.vl (.int 1))=[.vl (mt t lo hi),.vl (.lst []),.vl (.int 1),.un,.un]:=rfl;have e3:jp (Zs (vE 1)) (zl 3) (zz 2 (zc zP (vE 2) (vE 3))) [.vl (mt t lo hi),.vl (.lst []),.vl (.int 1),.un,.un]= .nx [.vl (mt t lo hi),.vl (.lst []),.vl (.int 1),.un,.un]:=rfl;have e4:zh eqC (zc ixT (vE 0) (cE (.int 0))) (cE (.str "many")) [.vl (mt t lo hi),.vl (.lst []),.vl (.int 1),.un,.un]= .ok true:=by
  rw[cs0];rfl
 have e5:za 1 cs (z9 (zc ixT (vE 0) (cE (.int 1))) (zd)) [.vl (mt t lo hi),.vl (.lst []),.vl (.int 1),.un,.un]= .ok (.int (n:Int)):=by
  rw[zG,ZK,bOk,hk]
 have s5:([.vl (mt t lo hi),.vl (.lst []),.vl (.int 1),.un,.un]:En).set 4 (.vl (.int (n:Int)))=[.vl (mt t lo hi),.vl (.lst []),.vl (.int 1),.un,.vl (.int (n:Int))]:=rfl;have e6:=Yy (t:=t) (a:= .vl (.lst [])) (x:= .un) (lo:=lo) (hi:=hi) c3 c2 c1;rw[e,b_f,zb (ze e1),zb (zw e2),s1,zb (zw zI),s2,zb e3];have e7:∀(P:En->RS),ifS (zh eqC (zc ixT (vE 0) (cE (.int 0))) (cE (.str "many"))) (zj (zz 4 (za 1 cs (z9 (zc ixT (vE 0) (cE (.int 1))) (zd)))) P) nxS [.vl (mt t lo hi),.vl (.lst []),.vl (.int 1),.un,.un]=P [.vl (mt t lo hi),.vl (.lst []),.vl (.int 1),.un,.vl (.int (n:Int))]:=λP=>by
  rw[ZI e4,zb (zw e5),s5]
 rw[zb (Eq.trans (e7 _) e6)];rfl
theorem YA:∀(d n:Nat),d<=n->d<=3->∀k:Kd,k.Ok d->S_f n 0 [k.t]= .ok (.int (k.all.length:Int))
 | 0,_,_,_,_,h=>h.elim
 | d+1,0,hn,_,_,_=>by omega
 | d+1,n+1,hn,hd,k,h=>by
  have e:S_f (n+1) 0 [k.t]=zi (b_f (f_6 8) (S_f n 0) (en0 5 [k.t])):=rfl;rw[e];have H:∀k:Kd,k.Ok d->S_f n 0 [k.t]= .ok (.int (k.all.length:Int)):=λk' hk' =>YA d n (by omega) (by omega) k' hk'
  cases k with
  | whole lo hi=>exact WR (.whole lo hi) (QM d lo hi h) (x:="whole") (r:=[.int lo,.int hi]) (by simp only[Kd.t]) rfl
  | pick cs=>exact WR (.pick cs) (QN d cs h) (x:="pick") (r:=[.tup (cs.map ZF)]) (by simp only[Kd.t]) rfl
  | row ks=>exact QO (by omega) ks h H
  | many k lo hi=>exact Yz (by omega) k lo hi h H
theorem Ok.mono:∀(d:Nat) (k:Kd),k.Ok d->k.Ok (d+1)
 | 0,_,h=>h.elim
 | d+1,.whole _ _,h=>h
 | d+1,.pick _,h=>h
 | d+1,.row ks,h=>⟨h.1,h.2.1,λk hk=>Ok.mono d k (h.2.2 k hk)⟩
 | d+1,.many k _ _,h=>⟨h.1,h.2.1,Ok.mono d k h.2.2⟩
theorem xF (j:Int):zP (.int 700) (.int j)= .ok (.int (700*j)):=Yo _ _ (.inl ⟨by decide,by decide⟩)
theorem Kz (ns:List Int)(d:Nat)(h1:1<=d)(h8:d<=8)(k:Int)(h0:0<=k):∃q:Kd,f_j 8 [scr ns,.int k,.int (d:Int)]= .ok q.t/\q.Ok d:=by
 obtain⟨t,ht,hi⟩:=uk ns d 8 h8 h1 k h0;obtain⟨q,rfl,hq⟩:=um d t hi;exact⟨q,ht,hq⟩
noncomputable abbrev smB:En->RS:=zj (ifS (zh leC (za 1 (f_f 8) (z9 (vE 3) (zd))) (vB 2)) (zo (vE 3)) (nxS))
  (zz 3 (za 3 (f_j 8) (z9 (vE 0) (z9 (zc zv (zc zv (vE 1) (cE (.int 500))) (zc zP (cE (.int 700)) (vE 4))) (z9 (cE (.int 2)) (zd))))))
noncomputable abbrev en5 (ns:List Int)(a:Int)(m:Nat)(k:Kd)(x:Sl):En:=[.vl (scr ns),.vl (.int a),.vl (.int (m:Int)),.vl k.t,x]
theorem YB {ns:List Int}{a:Int}{m:Nat}{k:Kd}{x:Sl}(hk:k.Ok 3):zh leC (za 1 (f_f 8) (z9 (vE 3) (zd))) (vB 2) (en5 ns a m k x)= .ok (decide (k.all.length<=m)):=by
 have e:f_f 8 [k.t]= .ok (.int (k.all.length:Int)):=YA 3 8 (by omega) (by omega) k hk
 rw[zu,zG,v3,bOk,e,bOk,w2,bOk,Jm,Jh]
theorem xG (ns:List Int){a:Int}{m:Nat}(ha:0<=a){k:Kd}(hk:k.Ok 3)(j:Nat):(k.all.length<=m/\smB (en5 ns a m k (.vl (.int (0+(j:Int)))))= .rt k.t)\/∃k' :Kd,k'.Ok 3/\smB (en5 ns a m k (.vl (.int (0+(j:Int)))))= .nx (en5 ns a m k' (.vl (.int (0+(j:Int))))):=by
 by_cases h:k.all.length<=m
 ·refine .inl ⟨h, ?_⟩;unfold smB;refine zq ?_;rw[ZI (by rw[YB hk,decide_eq_true h])]
  exact zg rfl
 ·obtain⟨q,hq,ho⟩:=Kz ns 2 (by omega) (by omega) (a+500+700*(0+(j:Int))) (by omega)
  refine .inr ⟨q,Ok.mono 2 q ho, ?_⟩;unfold smB;rw[zb (ze (by rw[YB hk,decide_eq_false h]))]
  have hq:f_j 8 [scr ns,.int (a+500+700*(0+(j:Int))),.int 2]= .ok q.t:=hq;have e:za 3 (f_j 8) (z9 (vE 0) (z9 (zc zv (zc zv (vE 1) (cE (.int 500))) (zc zP (cE (.int 700)) (vE 4))) (z9 (cE (.int 2)) (zd)))) (en5 ns a m k (.vl (.int (0+(j:Int)))))= .ok q.t:=by
   rw[Z2,v0,bOk,zf,zf,v1,bOk,zI,bOk,zT,bOk,zf,zI,bOk,v4,bOk,xF,bOk,zT,bOk,zI,bOk,hq]
  rw[zw e];rfl
theorem KA {g:T->En->R En}{fb:En->RS}{t:T}{ts:List T}{ρ ρ1:En}{r:T}(hg:g t ρ= .ok ρ1)(hb:fb ρ1= .rt r):ZD g fb (t :: ts) ρ= .rt r:=by
 rw[ZD,hg];dsimp only;rw[hb]
theorem YC (ns:List Int){a:Int}{m:Nat}(ha:0<=a):∀(js:List Nat) (k:Kd) (x:Sl),k.Ok 3->(∃k' :Kd,k'.Ok 3/\k'.all.length<=m/\ZD (zl 4) smB (js.map λ(j:Nat)=>T.int (0+(j:Int))) (en5 ns a m k x)= .rt k'.t)\/
  ∃(k' :Kd) (x' :Sl),k'.Ok 3/\ZD (zl 4) smB (js.map λ(j:Nat)=>T.int (0+(j:Int))) (en5 ns a m k x)= .nx (en5 ns a m k' x')
 | [],k,x,hk=> .inr ⟨k,x,hk,rfl⟩
 | j :: js,k,x,hk=>by
  have s3:zl 4 (T.int (0+(j:Int))) (en5 ns a m k x)= .ok (en5 ns a m k (.vl (.int (0+(j:Int))))):=rfl;rw[az];rcases xG ns ha (m:=m) hk j with ⟨h1,h2⟩ | ⟨k',h1,h2⟩
  ·exact .inl ⟨k,hk,h1,KA s3 h2⟩
  ·rw[JQ s3 h2];exact YC ns ha js k' _ h1
theorem uX (ns:List Int)(a:Int)(ha:0<=a)(m:Nat)(hm:4<=m):∃k:Kd,k.Ok 3/\k.all.length<=m/\Xa [scr ns,.int a,.int (m:Int)]= .ok k.t:=by
 obtain⟨q,hq,ho⟩:=Kz ns 3 (by omega) (by omega) a ha
 have hq:f_j 8 [scr ns,.int a,.int 3]= .ok q.t:=hq;have e:Xa [scr ns,.int a,.int (m:Int)]=zi (gy (f_j 8) (f_f 8) [.vl (scr ns),.vl (.int a),.vl (.int (m:Int)),.un,.un]):=rfl;have e1:za 3 (f_j 8) (z9 (vE 0) (z9 (vE 1) (z9 (cE (.int 3)) (zd)))) [.vl (scr ns),.vl (.int a),.vl (.int (m:Int)),.un,.un]= .ok q.t:=by
  rw[Z2,v0,bOk,v1,bOk,zI,bOk,hq]
 have s1:([.vl (scr ns),.vl (.int a),.vl (.int (m:Int)),.un,.un]:En).set 3 (.vl q.t)=en5 ns a m q .un:=rfl;rw[e,gy,zb (zw e1),s1];rcases YC ns ha (m:=m) (aQ 3) q .un ho with ⟨k,h1,h2,h3⟩ | ⟨k,x,h1,h3⟩
 ·refine⟨k,h1,h2, ?_⟩;have e2:jp (Zy (cE (.int 3))) (zl 4) smB (en5 ns a m q .un)= .rt k.t:=h3;rw[zq e2];rfl
 ·have e2:jp (Zy (cE (.int 3))) (zl 4) smB (en5 ns a m q .un)= .nx (en5 ns a m k x):=h3;rw[zb e2];have ec:zh leC (za 1 (f_f 8) (z9 (vE 3) (zd))) (vB 2) (frz (en5 ns a m k x))= .ok (decide (k.all.length<=m)):=YB (x:=GY x) h1
  by_cases h:k.all.length<=m
  ·refine⟨k,h1,h, ?_⟩;rw[zg (t:=k.t)]
   ·rfl
   ·unfold ifE;rw[ec,bOk,decide_eq_true h,if_pos rfl];rfl
  ·refine⟨.whole (-1) 2,⟨by omega,by omega,by omega⟩,by rw[j4];exact hm, ?_⟩
   rw[zg (t:=(Kd.whole (-1) 2).t)]
   ·rfl
   ·unfold ifE;rw[ec,bOk,decide_eq_false h,if_neg ax,Kd.t];rfl
mutual
noncomputable def Kd.has:Kd->T->Bool
 | .whole lo hi=>λt=>inR lo hi t
 | .pick cs=>λt=>match t with | .str x=>cs.any λc=>c.1 == x | _=>false
 | .row ks=>λt=>match t with | .tup xs=>xs.length == ks.length && Kd.hass ks xs | _=>false
 | .many k lo hi=>λt=>match t with | .tup xs=>decide (lo<=xs.length) && decide (xs.length<=hi) && xs.all k.has | _=>false
noncomputable def Kd.hass:List Kd->List T->Bool
 | []=>λ_=>true
 | k :: ks=>λxs=>match xs with | []=>true | x :: xs=>k.has x && Kd.hass ks xs
end
theorem Ju:∀(ks:List Kd) (xs:List T),Kd.hass ks xs=(ks.zip xs).all λq=>q.1.has q.2
 | [],_=>by simp[Kd.hass]
 | k :: ks,[]=>by simp[Kd.hass]
 | k :: ks,x :: xs=>by simp[Kd.hass,Ju ks xs]
noncomputable def UK:List (List T)->List T->Prop
 | [],[]=>True
 | l :: ls,x :: xs=>x∈l/\UK ls xs
 | _,_=>False
theorem JR:∀(ls made:List (List T)) (xs:List T),xs∈Zk made ls↔∃a∈made,∃b,UK ls b/\xs=a++b
 | [],made,xs=>by
  rw[Zk];constructor
  ·exact λh=>⟨xs,h,[],trivial,by simp⟩
  ·rintro⟨a,ha,b,hb,rfl⟩
   cases b with
   | nil=>simpa using ha
   | cons=>exact hb.elim
 | l :: ls,made,xs=>by
  rw[Zk,JR ls];constructor
  ·rintro⟨a',ha',b,hb,rfl⟩
   obtain⟨a,ha,hx⟩:=bT.mp ha';obtain⟨x,hl,e⟩:=au.mp hx;exact⟨a,ha,x :: b,⟨hl,hb⟩,by rw[← e];simp⟩
  ·rintro⟨a,ha,b,hb,rfl⟩
   cases b with
   | nil=>exact hb.elim
   | cons x b=>exact⟨a++[x],bT.mpr ⟨a,ha,au.mpr ⟨x,hb.1,rfl⟩⟩,b,hb.2,by simp⟩
theorem jJ (ls:List (List T))(t:T):t∈W7 ls↔∃xs,UK ls xs/\t= .tup xs:=by
 unfold W7;rw[au];constructor
 ·rintro⟨xs,h,rfl⟩
  obtain⟨a,ha,b,hb,rfl⟩:=(JR ls [[]] xs).mp h;rw[aA.mp ha];exact⟨b,hb,rfl⟩
 ·rintro⟨xs,h,rfl⟩
  exact⟨xs,(JR ls [[]] xs).mpr ⟨[],aA.mpr rfl,xs,h,rfl⟩,rfl⟩
theorem jK (l:List T):∀(m:Nat) (xs:List T),UK (ab m l) xs↔xs.length=m/\∀x∈xs,x∈l
 | 0,[]=>by simp[UK]
 | 0,x :: xs=>by simp[UK]
 | m+1,[]=>by simp[UK,aV]
 | m+1,x :: xs=>by
  rw[aV];show x∈l/\UK _ xs↔_;rw[jK l m xs];simp;constructor
  ·rintro⟨a,b,c⟩;exact⟨b,a,c⟩
  ·rintro⟨a,b,c⟩;exact⟨b,a,c⟩
theorem WS:∀(ks:List Kd),(∀k∈ks,∀x,x∈k.all↔k.has x=true)->∀xs,UK (ks.map Kd.all) xs↔(xs.length == ks.length && Kd.hass ks xs)=true
 | [],_,[]=>by simp[UK,Kd.hass]
 | [],_,x :: xs=>by simp[UK]
 | k :: ks,h,[]=>by simp[UK]
 | k :: ks,h,x :: xs=>by
  show x∈k.all/\UK (ks.map Kd.all) xs↔_;rw[WS ks (λk' hk' =>h k' (a8 _ hk')) xs,h k aa x];simp[Kd.hass];constructor
  ·rintro⟨a,b,c⟩;exact⟨b,a,c⟩
  ·rintro⟨a,b,c⟩;exact⟨b,a,c⟩
mutual
theorem Zl:∀(k:Kd) (x:T),x∈k.all↔k.has x=true
 | .whole lo hi,x=>by
  rw[Kd.all,Kd.has,au];constructor
  ·rintro⟨i,hi',rfl⟩
   rw[aR]at hi';simp[inR];omega
  ·intro h;obtain⟨i,rfl⟩:=Yp h;simp[inR]at h;exact⟨(i - lo).toNat,by rw[aR];omega,by congr 1;omega⟩
 | .pick cs,x=>by
  rw[Kd.all,Kd.has,au];constructor
  ·rintro⟨c,hc,rfl⟩
   simp only[cP];exact⟨c,hc,by simp⟩
  ·intro h;dsimp only at h;split at h
   ·rw[cP]at h;obtain⟨c,hc,e⟩:=h;exact⟨c,hc,by rw[eq_of_beq e]⟩
   ·cases h
 | .row ks,x=>by
  rw[Kd.all,Kd.has,jJ,Kd.alls_map];have:=WS ks (uY ks);constructor
  ·rintro⟨xs,h,rfl⟩
   exact(this xs).mp h
  ·intro h;dsimp only at h;split at h
   ·rename_i xs;exact⟨xs,(this xs).mpr h,rfl⟩
   ·cases h
 | .many k lo hi,x=>by
  rw[Kd.all,Kd.has,bT];constructor
  ·rintro⟨i,hi',h⟩
   rw[jJ]at h;obtain⟨xs,h,rfl⟩:=h;rw[jK]at h;rw[aR]at hi';simp only[ac,decide_eq_true_eq,aG];exact⟨⟨by omega,by omega⟩,λy hy=>(Zl k y).mp (h.2 y hy)⟩
  ·intro h;dsimp only at h;split at h
   ·rename_i xs;simp only[ac,decide_eq_true_eq,aG]at h;refine⟨xs.length - lo,by rw[aR];omega, ?_⟩
    rw[jJ];exact⟨xs,(jK _ _ _).mpr ⟨by omega,λy hy=>(Zl k y).mpr (h.2 y hy)⟩,rfl⟩
   ·cases h
theorem uY:∀(ks:List Kd),∀k∈ks,∀x,x∈k.all↔k.has x=true
 | [],_,h=>nomatch h
 | k :: ks,k',h=>by
  rcases ah.mp h with e | h
  ·intro x;rw[e];exact Zl k x
  ·exact uY ks k' h
end
theorem wx {c:List T->R T}:∀(qs:List (Kd×T)) (x y:Sl),(∀q∈qs,c [q.1.t,q.2]= .ok (.bl (q.1.has q.2)))->zr (zK 0 1) zN (za 2 c (z9 (vE 0) (z9 (vE 1) (zd)))) (qs.map λq=>T.tup [q.1.t,q.2]) [x,y]= .ok (qs.map λq=>T.bl (q.1.has q.2))
 | [],_,_,_=>rfl
 | q :: qs,x,y,h=>by
  have e:za 2 c (z9 (vE 0) (z9 (vE 1) (zd))) [.vl q.1.t,.vl q.2]= .ok (.bl (q.1.has q.2)):=by
   rw[zt,v0,bOk,v1,bOk,h q aa]
  have ih:=wx qs (.vl q.1.t) (.vl q.2) λr hr=>h r (a8 _ hr);have e0:zr (zK 0 1) zN (za 2 c (z9 (vE 0) (z9 (vE 1) (zd)))) ((q :: qs).map λq=>T.tup [q.1.t,q.2]) [x,y]=
   (za 2 c (z9 (vE 0) (z9 (vE 1) (zd))) [.vl q.1.t,.vl q.2]).bind λv=>(zr (zK 0 1) zN (za 2 c (z9 (vE 0) (z9 (vE 1) (zd)))) (qs.map λq=>T.tup [q.1.t,q.2]) [.vl q.1.t,.vl q.2]).bind λvs=> .ok (v :: vs):=rfl
  rw[e0,e,bOk,ih,bOk,az]
theorem W9 {α:Type}(p:α->Bool):∀qs:List α,Wz (qs.map λq=>T.bl (p q))=some (qs.all p)
 | []=>rfl
 | q :: qs=>by
  have e:Wz ((q :: qs).map λq=>T.bl (p q))=match Wz (qs.map λq=>T.bl (p q)) with | some j=>some (p q && j) | none=>none:=rfl
  rw[e,W9 p qs];rfl
theorem KC (ks:List Kd)(xs:List T):yN (ks.map Kd.t) xs=(ks.zip xs).map λq=>T.tup [q.1.t,q.2]:=by
 unfold yN;rw[List.zip_map_left,aX];rfl
theorem uZ {c:List T->R T}{s:T}(ks:List Kd)(xs:List T)(hs:ZT s= .ok (ks.map Kd.t))(hl:ks.length<=3)(H:∀q∈ks.zip xs,c [q.1.t,q.2]= .ok (.bl (q.1.has q.2))):
  zi (Ki c (en0 2 [s,.tup xs]))= .ok (.bl ((ks.zip xs).all λq=>q.1.has q.2)):=by
 have e:en0 2 [s,.tup xs]=[.vl s,.vl (.tup xs)]:=rfl;have ez:yO (vE 0) (vE 1) [.vl s,.vl (.tup xs)]= .ok ((ks.zip xs).map λq=>T.tup [q.1.t,q.2]):=by
  show (ZT s).bind _=_;rw[hs,bOk,← KC];rfl
 have hb:((ks.zip xs).map λq=>T.tup [q.1.t,q.2]).length<=bnd:=by
  rw[xqz,d5];exact aq (fo _ _) (aq hl (by decide))
 have ec:zp (zK 0 1) zN (za 2 c (z9 (vE 0) (z9 (vE 1) (zd)))) 2 [] [.vl s,.vl (.tup xs)] ((ks.zip xs).map λq=>T.tup [q.1.t,q.2])= .ok ((ks.zip xs).map λq=>T.bl (q.1.has q.2)):=by
  unfold zp;rw[if_pos hb];show quiet (zr _ _ _ _ [.un,.un])=_;rw[wx _ _ _ H];rfl
 rw[e,Ki,zg (t:= .bl ((ks.zip xs).all λq=>q.1.has q.2))]
 ·rfl
 ·show ap1 _ _ [.vl s,.vl (.tup xs)]=_;rw[Zf,zC,ez,bOk,ec,bOk,bOk];show (match Wz ((ks.zip xs).map λq=>T.bl (q.1.has q.2)) with | some k=>_ | none=>_)=_
  rw[W9]
theorem Jv (cs:List (Str×Int))(h:cs.length<=4):f_e [(Kd.pick cs).t]= .ok (.lst (cs.map λc=>T.str c.1)):=by
 have e:f_e [(Kd.pick cs).t]=zi (b_e [.vl (.tup [.str "pick",.tup (cs.map ZF)])]):=by rw[Kd.t];rfl
 have hb:(cs.map ZF).length<=bnd:=by rw[xqz];exact aq h (by decide)
 have ec:zp (zl 0) zN (zc ixT (vE 0) (cE (.int 0))) 1 [] [.vl (.tup [.str "pick",.tup (cs.map ZF)])] (cs.map ZF)= .ok ((cs.map ZF).map λc=>match c with | .tup (w :: _)=>w | _=>c):=
  Z0 _ hb λt ht=>by
   obtain⟨c,_,rfl⟩:=au.mp ht;rfl
 rw[e,b_e,zg (t:= .lst (cs.map λc=>T.str c.1))]
 ·rfl
 ·show zF _ _ _ _ _ _ [.vl (.tup [.str "pick",.tup (cs.map ZF)])]=_;rw[zC,Zi,ZK,bOk];show ((zp _ _ _ _ _ _ (cs.map ZF)).bind _)=_;rw[ec,bOk,aX];rfl
theorem U0 (t:T):∀cs:List (Str×Int),jo (λy=>eqF 30 y t) (cs.map λc=>T.str c.1)=some ((Kd.pick cs).has t)
 | []=>by rw[Kd.has];cases t <;> rfl
 | c :: cs=>by
  have ih:=U0 t cs;rw[Kd.has]at ih ⊢;have e:jo (λy=>eqF 30 y t) ((c :: cs).map λc=>T.str c.1)=match eqF 30 (.str c.1) t with
   | none=>none
   | some b=>match jo (λy=>eqF 30 y t) (cs.map λc=>T.str c.1) with
    | none=>none
    | some d=>some (b || d):=rfl
  rw[e,ih];cases t <;> rfl
noncomputable abbrev en2 (a b:T):En:=[.vl a,.vl b]
theorem Wl {x w:Str}{r:List T}{b:T}(h:(x == w)=false){f:En->RS}:ifS (zh eqC (zc ixT (vE 0) (cE (.int 0))) (cE (.str w))) f nxS (en2 (.tup (.str x :: r)) b)= .nx (en2 (.tup (.str x :: r)) b):=
 ze (by rw[cs0,h])
theorem QP {x:Str}{r:List T}{b:T}{f:En->RS}:ifS (zh eqC (zc ixT (vE 0) (cE (.int 0))) (cE (.str x))) f nxS (en2 (.tup (.str x :: r)) b)=f (en2 (.tup (.str x :: r)) b):=
 ZI (by rw[cs0,beq_self_eq_true])
theorem YD {cp:List T->R T}(lo hi:Int)(x:T):zi (b_h f_b f_i f_e cp (en0 2 [(Kd.whole lo hi).t,x]))= .ok (.bl ((Kd.whole lo hi).has x)):=by
 have e:en0 2 [(Kd.whole lo hi).t,x]=en2 (.tup [.str "whole",.int lo,.int hi]) x:=by rw[Kd.t];rfl
 rw[e,b_h,zq (t:= .bl (inR lo hi x))]
 ·rw[Kd.has];rfl
 ·rw[QP,zg];show ZS _ _ (en2 _ x)=_;rw[jH,zG,v1,bOk,Jq,Z3];cases x with
  | int i=>
   rw[show isW (T.int i)=true from rfl,if_pos rfl,Yg,ZK,bOk,w1,bOk,Jm,bOk,wa,bOk,Jm,bOk];show _=R.ok (T.bl (decide (lo<=i) && decide (i<=hi)));cases decide (lo<=i) <;> rfl
  | _=>rfl
theorem QR {cp:List T->R T}(cs:List (Str×Int))(h4:cs.length<=4)(x:T):zi (b_h f_b f_i f_e cp (en0 2 [(Kd.pick cs).t,x]))= .ok (.bl ((Kd.pick cs).has x)):=by
 have e:en0 2 [(Kd.pick cs).t,x]=en2 (.tup [.str "pick",.tup (cs.map ZF)]) x:=by rw[Kd.t];rfl
 have hw:=Jv cs h4;rw[Kd.t]at hw;rw[e,b_h,zb (Wl (by decide)),zq (t:= .bl ((Kd.pick cs).has x))]
 ·rfl
 ·rw[QP,zg];show Zh _ _ _ (en2 _ x)=_;rw[Z4,w1,bOk,zG,v0,bOk,hw,bOk];show ((match jo (λy=>eqF 30 y x) (cs.map λ(c:Str×Int)=>T.str c.1) with | some b=>R.ok b | none=> .bad).bind _)=_
  rw[U0];rfl
theorem xH {cp:List T->R T}(ks:List Kd)(h3:ks.length<=3)(x:T)(H:∀xs,x= .tup xs->cp [.tup (ks.map Kd.t),x]= .ok (.bl ((ks.zip xs).all λq=>q.1.has q.2))):zi (b_h f_b f_i f_e cp (en0 2 [(Kd.row ks).t,x]))= .ok (.bl ((Kd.row ks).has x)):=by
 have e:en0 2 [(Kd.row ks).t,x]=en2 (.tup [.str "row",.tup (ks.map Kd.t)]) x:=by rw[Kd.t,Kd.ts_map];rfl
 rw[e,b_h,zb (Wl (by decide)),zb (Wl (by decide)),zq (t:= .bl ((Kd.row ks).has x))]
 ·rfl
 ·rw[QP,zg];show ZS _ _ (en2 _ x)=_;have el:ap1 zY (zc ixT (vE 0) (cE (.int 1))) (en2 (.tup [.str "row",.tup (ks.map Kd.t)]) x)= .ok (.int (ks.length:Nat)):=by
   rw[Zf,ZK,bOk,j1,xqz]
  rw[jH,Z2,v1,bOk,el,bOk,bOk,Zu,Z3,zt,ZK,bOk,v1,bOk,Kd.has];cases x with
  | tup xs=>
   rw[H xs rfl];show (if (decide (ks.length<=xs.length) && decide (xs.length<=ks.length))=true then _ else _)=R.ok (T.bl (xs.length == ks.length && Kd.hass ks xs))
   rw[Ju]
   by_cases h:xs.length=ks.length
   ·rw[if_pos (by simp[h])]
    simp[h]
   ·rw[if_neg (by simp;omega)]
    simp[h]
  | _=>rfl
theorem uq (k:Kd):∀xs:List T,((ab xs.length k).zip xs).all (λq=>q.1.has q.2)=xs.all k.has
 | []=>rfl
 | x :: xs=>by
  rw[ar,aV,dR,bq,bq,uq k xs]
theorem QS {cp:List T->R T}(k:Kd)(lo hi:Nat)(h3:hi<=3)(x:T)(H:∀xs,x= .tup xs->xs.length<=3->cp [.lst ((ab xs.length k).map Kd.t),x]= .ok (.bl (((ab xs.length k).zip xs).all λq=>q.1.has q.2))):zi (b_h f_b f_i f_e cp (en0 2 [(Kd.many k lo hi).t,x]))= .ok (.bl ((Kd.many k lo hi).has x)):=by
 have e:en0 2 [(Kd.many k lo hi).t,x]=en2 (.tup [.str "many",k.t,.int (lo:Int),.int (hi:Int)]) x:=by rw[Kd.t];rfl
 rw[e,b_h,zb (Wl (by decide)),zb (Wl (by decide)),zb (Wl (by decide)),zg (t:= .bl ((Kd.many k lo hi).has x))]
 ·rfl
 ·show ZS _ _ (en2 _ x)=_;rw[jH,Z2,v1,bOk,wa,bOk,vU,bOk,Zu,Z3,Kd.has];cases x with
  | tup xs=>
   show (if (decide (lo<=xs.length) && decide (xs.length<=hi))=true then _ else _)=R.ok (T.bl (decide (lo<=xs.length) && decide (xs.length<=hi) && xs.all k.has))
   cases hh:(decide (lo<=xs.length) && decide (xs.length<=hi)) with
   | false=>rfl
   | true=>
    rw[ac,decide_eq_true_eq,decide_eq_true_eq]at hh;have hx:xs.length<=3:=by omega
    have em:zc zP (Zt (z9 (zc ixT (vE 0) (cE (.int 1))) (zd))) (ap1 zY (vB 1)) (en2 (.tup [.str "many",k.t,.int (lo:Int),.int (hi:Int)]) (.tup xs))= .ok (.lst ((ab xs.length k).map Kd.t)):=by
     rw[zf,QH ZK,bOk,Zf,w1,bOk,j1,bOk,WP hx,ZL,aM]
    rw[if_pos rfl,zt,em,bOk,v1,bOk,H xs rfl hx,uq];rfl
  | _=>rfl
theorem vV:∀(d n:Nat),2*d<=n->∀(k:Kd) (x:T),k.Ok d->S_h n 0 [k.t,x]= .ok (.bl (k.has x))
 | 0,_,_,_,_,h=>h.elim
 | d+1,n+2,hn,k,x,h=>by
  have ih:=vV d n (by omega)
  have e:S_h (n+2) 0 [k.t,x]=zi (b_h f_b f_i f_e (S_h (n+1) 1) (en0 2 [k.t,x])):=by rw[S_h]
  have e1:∀s y,S_h (n+1) 1 [s,y]=zi (Ki (S_h n 0) (en0 2 [s,y])):=λs y=>by rw[S_h];intro h;cases h
  rw[e];cases k with
  | whole lo hi=>exact YD lo hi x
  | pick cs=>exact QR cs h.2.1 x
  | row ks=>
   refine xH ks h.2.1 x λxs hx=> ?_;rw[e1,hx,uZ ks xs rfl h.2.1 λq hq=>ih q.1 q.2 (h.2.2 q.1 (bB hq).1)]
  | many k lo hi=>
   refine QS k lo hi h.2.1 x λxs hx h3=> ?_;rw[e1,hx,uZ (ab xs.length k) xs rfl (by rw[aI];exact h3) λq hq=>ih q.1 q.2 (by
    rw[bc (bB hq).1];exact h.2.2)]
theorem YE:∀(d:Nat) (k:Kd),k.Ok d->isK d k.t=true
 | 0,_,h=>h.elim
 | d+1,.whole lo hi,h=>by
  have e:isK (d+1) (Kd.whole lo hi).t=(decide (-20<=lo) && decide (lo<=hi) && decide (hi<=20)):=by rw[Kd.t];rfl
  obtain⟨h1,h2,h3⟩:=h;rw[e];simp;omega
 | d+1,.pick cs,h=>by
  have e:isK (d+1) (Kd.pick cs).t=(decide (1<=(cs.map ZF).length) && decide ((cs.map ZF).length<=4) && (cs.map ZF).all zH && decide ((dd [] ((cs.map ZF).map zZ)).length=(cs.map ZF).length)):=by rw[Kd.t];rfl
  obtain⟨h1,h2,h3,h4⟩:=h;have e1:(cs.map ZF).map zZ=cs.map (·.1):=by rw[aX];rfl
  have e2:=(W3 (cs.map (·.1)) []).mpr λk w hw=>by simpa using h4 k w hw
  rw[e,e1,e2,xqz,xqz];simp only[ac,decide_eq_true_eq,aG];refine⟨⟨⟨h1,h2⟩,λc hc=> ?_⟩,by simp⟩
  obtain⟨p,hp,rfl⟩:=au.mp hc;obtain⟨a,b,c⟩:=h3 p hp;show (Ze (.str p.1) && decide (1<=p.2) && decide (p.2<=20))=true;rw[a];simp;omega
 | d+1,.row ks,h=>by
  have e:isK (d+1) (Kd.row ks).t=(decide (1<=(ks.map Kd.t).length) && decide ((ks.map Kd.t).length<=3) && (ks.map Kd.t).all (isK d)):=by rw[Kd.t,Kd.ts_map];rfl
  obtain⟨h1,h2,h3⟩:=h;rw[e,xqz];simp only[ac,decide_eq_true_eq,aG];refine⟨⟨h1,h2⟩,λc hc=> ?_⟩;obtain⟨k,hk,rfl⟩:=au.mp hc;exact YE d k (h3 k hk)
 | d+1,.many k lo hi,h=>by
  have e:isK (d+1) (Kd.many k lo hi).t=((decide ((0:Int)<=(lo:Int)) && decide ((lo:Int)<=(hi:Int)) && decide ((hi:Int)<=3)) && isK d k.t):=by rw[Kd.t];rfl
  obtain⟨h1,h2,h3⟩:=h;rw[e,YE d k h3];simp;omega
theorem U1:∀(ks:List Kd) (xs:List T),xs.length=ks.length->Kd.hass ks xs=true->∀x∈xs,∃k∈ks,k.has x=true
 | [],[],_,_,_,h=>nomatch h
 | k :: ks,[],h,_,_,_=>by cases h
 | [],x :: xs,h,_,_,_=>by cases h
 | k :: ks,x :: xs,hl,h,y,hy=>by
  rw[Kd.hass]at h;have h:(k.has x && Kd.hass ks xs)=true:=h;rw[ac]at h;rcases ah.mp hy with rfl | hy
  ·exact⟨k,aa,h.1⟩
  ·obtain⟨k',hk,hh⟩:=U1 ks xs (by simpa using hl) h.2 y hy
   exact⟨k',a8 _ hk,hh⟩
theorem U2 {α β:Type}(f:α->List β)(m:Nat):∀(as:List α) (i j:Nat),(∀a∈as,(f a).length=m)->j < m->(as.flatMap f)[i*m+j]? =(as[i]?).bind λa=>(f a)[j]?
 | [],i,j,_,_=>by simp
 | a :: as,0,j,h,hj=>by
  have ha:=h a aa;rw[bI,Nat.zero_mul,f8,aN (by omega)]
  rfl
 | a :: as,i+1,j,h,hj=>by
  have ha:=h a aa;have e:(i+1)*m=i*m+m:=by rw[i9,bR]
  rw[bI,aK (by omega),ha,e,show i*m+m+j - m=i*m+j by omega,U2 f m as i j (λb hb=>h b (a8 _ hb)) hj]
  rfl
theorem WT {α β:Type}(f:α->List β):∀(as:List α) (q j:Nat) (a:α),as[q]? =some a->j < (f a).length->(as.flatMap f)[((as.take q).map λb=>(f b).length).sum+j]? =(f a)[j]?
 | [],q,j,a,h,_=>by simp at h
 | b :: as,0,j,a,h,hj=>by
  have e:b=a:=by simpa using h
  subst e;rw[bI,List.take_zero,bP,List.sum_nil,f8,aN hj]
 | b :: as,q+1,j,a,h,hj=>by
  rw[bI,fL,az,d3,Nat.add_assoc,aK (by omega),Nat.add_sub_cancel_left]
  exact WT f as q j a (by simpa using h) hj
theorem wA:∀(ls made:List (List T)) (l:List T),Zk made (ls++[l])=(Zk made ls).flatMap λa=>l.map λx=>a++[x]
 | [],made,l=>rfl
 | _ :: ls,made,l=>by
  rw[dB,Zk,Zk,wA ls]
theorem QT {ls:List (List T)}{l:List T}{i j:Nat}{xs:List T}{x:T}(h:(Zk [[]] ls)[i]? =some xs)(hx:l[j]? =some x):(Zk [[]] (ls++[l]))[i*l.length+j]? =some (xs++[x]):=by
 have hj:j < l.length:=(ak.mp hx).1;rw[wA,U2 _ l.length _ i j (λa _=>xqz ..) hj,h];show (l.map λx=>xs++[x])[j]? =_;rw[aj,hx];rfl
theorem U3:∀(ns:List Nat) (n:Nat),prd (ns++[n])=prd ns*n
 | [],n=>by simp[prd]
 | m :: ns,n=>by rw[dB,prd,prd,U3 ns n,cD]
theorem wB (ls:List (List T)):(Zk [[]] ls).length=prd (ls.map (·.length)):=by rw[JP,aJ,bR]
theorem JS {α:Type}{xs:List α}{i:Nat}(h:i < xs.length):∃x,xs[i]? =some x:=⟨_,a9 h⟩
theorem KD {xs:List T}{j:Nat}{v:T}(h:xs[j]? =some v):atT xs (j:Int)= .ok v:=by unfold atT;rw[ZV h]
noncomputable def shr (c lo q:Nat):Nat:=((aQ q).map λi=>c ^ (lo+i)).sum
theorem QU (c lo q:Nat):shr c lo (q+1)=shr c lo q+c ^ (lo+q):=by
 unfold shr;rw[ij,dE,List.sum_append];simp
theorem vW (c lo hi:Nat):pw c lo hi=shr c lo (hi+1 - lo):=rfl
theorem xI {k:Kd}{lo hi q j:Nat}{xs:List T}(hq:q < hi+1 - lo)(h:(Zk [[]] (ab (lo+q) k.all))[j]? =some xs):(Kd.many k lo hi).all[shr k.all.length lo q+j]? =some (.tup xs):=by
 have hj:=(ak.mp h).1;have e:=WT (λi=>W7 (ab (lo+i) k.all)) (aQ (hi+1 - lo)) q j q (by rw[cV hq]) (by rw[xqz];exact hj)
 have e2:(((aQ (hi+1 - lo)).take q).map λb=>(W7 (ab (lo+b) k.all)).length).sum=shr k.all.length lo q:=by
  rw[List.take_range,ik (eW hq),shr];congr 1
  refine cW λi _=> ?_;rw[Jt,aM,j3]
 rw[e2]at e;rw[Kd.all,e];show (List.map T.tup _)[j]? =_;rw[aj,h];rfl
noncomputable abbrev cpB (c:List T->R T):En->RS:=zz 1 (zc zP (vE 1) (za 1 c (z9 (vE 2) (zd))))
theorem YF {c:List T->R T}{S:Sl}:∀(ks:List Kd) (m:Nat) (x:Sl),(∀k∈ks,c [k.t]= .ok (.int (k.all.length:Int))/\1<=k.all.length)->m*prd (ks.map λk=>k.all.length) < 2 ^ 60->
  ∃y,ZD (zl 2) (cpB c) (ks.map Kd.t) [S,.vl (.int (m:Int)),x]= .nx [S,.vl (.int ((m*prd (ks.map λk=>k.all.length):Nat):Int)),y]
 | [],m,x,_,_=>⟨x,by simp[ZD,prd]⟩
 | k :: ks,m,x,H,hb=>by
  obtain⟨hc,h1⟩:=H k aa;have hp:1<=prd (ks.map λk=>k.all.length):=JO λn hn=>by
   obtain⟨k',hk',rfl⟩:=au.mp hn;exact(H k' (a8 _ hk')).2
  rw[az,prd,← cD]at hb;have hm:m < 2 ^ 60:=by
   have h2:m<=m*k.all.length:=cn _ h1;have h3:m*k.all.length<=m*k.all.length*prd (ks.map λk=>k.all.length):=cn _ hp;omega
  have eb:cpB c [S,.vl (.int (m:Int)),.vl k.t]= .nx [S,.vl (.int ((m*k.all.length:Nat):Int)),.vl k.t]:=by
   rw[cpB,zw (t:= .int ((m*k.all.length:Nat):Int))]
   ·rfl
   ·rw[zf,v1,bOk,zG,v2,bOk,hc,bOk,Yw hm]
  obtain⟨y,ih⟩:=YF (c:=c) (S:=S) ks (m*k.all.length) (.vl k.t) (λk' hk' =>H k' (a8 _ hk')) hb;refine⟨y, ?_⟩;rw[az,JQ (ρ1:=[S,.vl (.int (m:Int)),.vl k.t]) rfl eb,ih,az,prd,cD]
theorem JT {c:List T->R T}{s:T}(ks:List Kd)(hs:Jb s= .ok (ks.map Kd.t))(H:∀k∈ks,c [k.t]= .ok (.int (k.all.length:Int))/\1<=k.all.length)(hb:prd (ks.map λk=>k.all.length) < 2 ^ 60):
  zi (b_v c (en0 3 [s]))= .ok (.int ((prd (ks.map λk=>k.all.length):Nat):Int)):=by
 obtain⟨y,e⟩:=YF (c:=c) (S:= .vl s) ks 1 .un H (by rw[bR];exact hb)
 rw[bR]at e;have e0:zz 1 (cE (.int 1)) [.vl s,.un,.un]= .nx [.vl s,.vl (.int 1),.un]:=rfl;have e1:jp (Zs (vE 0)) (zl 2) (cpB c) [.vl s,.vl (.int 1),.un]= .nx [.vl s,.vl (.int ((prd (ks.map λk=>k.all.length):Nat):Int)),y]:=by
  show ((Jb s).s λts=>ZD (zl 2) (cpB c) ts [.vl s,.vl (.int 1),.un])=_;rw[hs,Zv];exact e
 show zi (b_v c [.vl s,.un,.un])=_;rw[b_v,zb e0,zb e1];rfl
theorem YG {α:Type}(g:α->Nat):∀l:List α,zV (l.map λa=>T.int ((g a:Nat):Int))=some (l.map λa=>((g a:Nat):Int))
 | []=>rfl
 | a :: l=>by
  show (match zV (l.map λa=>T.int ((g a:Nat):Int)) with | some l=>some (_ :: l) | none=>none)=_
  rw[YG g l];rfl
theorem U4 {α:Type}(g:α->Nat):∀l:List α,(l.map λa=>((g a:Nat):Int)).sum=(((l.map g).sum:Nat):Int)
 | []=>rfl
 | a :: l=>by rw[az,d3,az,d3,U4 g l];omega
theorem KF {α:Type}(g:α->Nat)(l:List α):Qq (.lst (l.map λa=>T.int ((g a:Nat):Int)))= .ok (.int (((l.map g).sum:Nat):Int)):=by
 unfold Qq;dsimp only;rw[YG,← U4]
theorem jR (k:Kd)(m:Nat):((ab m k).map λk=>k.all.length)=ab m k.all.length:=by rw[aM]
theorem YH {c:List T->R T}{t:T}{n lo hi q:Nat}(h4:lo+q<=4)(H:∀m,m<=3->c [.lst (ab m t)]= .ok (.int ((n ^ m:Nat):Int))):
  zi (b_q c (en0 2 [mt t lo hi,.int ((lo+q:Nat):Int)]))= .ok (.int ((shr n lo q:Nat):Int)):=by
 show zi (b_q c [.vl (mt t lo hi),.vl (.int ((lo+q:Nat):Int))])=_;have er:Jl (zc ixT (vE 0) (cE (.int 2))) (vE 1) [.vl (mt t lo hi),.vl (.int ((lo+q:Nat):Int))]= .ok (rng (lo:Int) q):=by
  rw[uo (i:=(lo:Int)) (j:=((lo+q:Nat):Int)) rfl rfl ⟨by omega,by omega,by omega,by omega⟩]
  congr 2;omega
 have ec:zp (zl 0) zN (za 1 c (z9 (zc zP (Zt (z9 (zc ixT (vE 1) (cE (.int 1))) (zd))) (vE 0)) (zd))) 1 [0] [.vl (mt t lo hi),.vl (.int ((lo+q:Nat):Int))] (rng (lo:Int) q)= .ok ((rng (lo:Int) q).map λx=>match x with | .int i=>T.int ((n ^ i.toNat:Nat):Int) | y=>y):=
  Z0 _ (by unfold rng;rw[xqz,bp];have:bnd=16777216:=rfl;omega) λx hx=>by
   unfold rng at hx;obtain⟨i,hi',rfl⟩:=au.mp hx;have hi2:=aR.mp hi';show za 1 c _ [.vl (.int ((lo:Int)+(i:Int))),.vl (mt t lo hi)]=_;have e1:zc zP (Zt (z9 (zc ixT (vE 1) (cE (.int 1))) (zd))) (vE 0) [.vl (.int ((lo:Int)+(i:Int))),.vl (mt t lo hi)]= .ok (.lst (ab (lo+i) t)):=by
    have e0:zc ixT (vE 1) (cE (.int 1)) [.vl (.int ((lo:Int)+(i:Int))),.vl (mt t lo hi)]= .ok t:=rfl;rw[zf,QH e0,bOk,v0,bOk,show (lo:Int)+(i:Int)=((lo+i:Nat):Int) by omega,WP (by omega),ZL]
   rw[zG,e1,bOk,H (lo+i) (by omega)]
   show _=R.ok (T.int ((n ^ ((lo:Int)+(i:Int)).toNat:Nat):Int));rw[show ((lo:Int)+(i:Int)).toNat=lo+i by omega]
 rw[b_q,zg (t:= .int ((shr n lo q:Nat):Int))]
 ·rfl
 ·show ap1 _ _ [.vl (mt t lo hi),.vl (.int ((lo+q:Nat):Int))]=_;rw[Zf,zC,er,bOk,ec,bOk,bOk];have e2:((rng (lo:Int) q).map λx=>match x with | .int i=>T.int ((n ^ i.toNat:Nat):Int) | y=>y)=(aQ q).map λi=>T.int ((n ^ (lo+i):Nat):Int):=by
   unfold rng;rw[aX];refine cW λi _=> ?_;show T.int ((n ^ ((lo:Int)+(i:Int)).toNat:Nat):Int)=_;rw[show ((lo:Int)+(i:Int)).toNat=lo+i by omega]
  rw[e2,KF (λi=>n ^ (lo+i))];rfl
theorem vX {d n m:Nat}(h:n<=mx d)(hd:d<=2)(hm:m<=3):n ^ m < 2 ^ 60:=by
 have h2:mx d<=70644:=by
  have:d=0\/d=1\/d=2:=by omega
  rcases this with rfl | rfl | rfl <;> decide
 have h3:n ^ m<=70644 ^ 3:=aq (Nat.pow_le_pow_left (aq h h2) m) (cN (by omega) hm)
 have:70644 ^ 3 < 2 ^ 60:=by decide
 omega
theorem U5:∀(d n:Nat),3*d<=n->d<=3->∀k:Kd,k.Ok d->S_2 n 0 [k.t]= .ok (.int (k.all.length:Int))
 | 0,_,_,_,_,h=>h.elim
 | d+1,n+3,hn,hd,k,h=>by
  have ih:=U5 d n (by omega) (by omega)
  have ih1:=U5 d (n+1) (by omega) (by omega)
  have e:S_2 (n+3) 0 [k.t]=zi (b_2 (S_2 (n+2) 1) (S_2 (n+2) 2) [.vl k.t]):=rfl;have e1:∀s,S_2 (n+2) 1 [s]=zi (b_v (S_2 (n+1) 0) (en0 3 [s])):=λs=>rfl;have e1' :∀s,S_2 (n+1) 1 [s]=zi (b_v (S_2 n 0) (en0 3 [s])):=λs=>rfl;have e2:∀s u,S_2 (n+2) 2 [s,u]=zi (b_q (S_2 (n+1) 1) (en0 2 [s,u])):=λs u=>rfl;rw[e,b_2];cases k with
  | whole lo hi=>
   obtain⟨h1,h2,h3⟩:=h;rw[j4];simp only[Kd.t];rw[zq (t:= .int ((hi+1 - lo).toNat:Int))]
   ·rfl
   ·rw[ZI (by rw[cs0,beq_self_eq_true]),zg]
    show R.ok (T.int (hi - lo+1))=_;congr 2;omega
  | pick cs=>
   rw[W8];simp only[Kd.t];rw[zb (ze (by rw[cs0];rfl)),zq (t:= .int (cs.length:Int))]
   ·rfl
   ·rw[ZI (by rw[cs0,beq_self_eq_true]),zg]
    show R.ok (T.int ((cs.map ZF).length:Int))=_;rw[xqz]
  | row ks=>
   obtain⟨h1,h2,h3⟩:=h;rw[jV];simp only[Kd.t];rw[Kd.ts_map,zb (ze (by rw[cs0];rfl)),zb (ze (by rw[cs0];rfl)),zq (t:= .int ((prd (ks.map λk=>k.all.length):Nat):Int))]
   ·rfl
   ·rw[ZI (by rw[cs0,beq_self_eq_true]),zg]
    show za 1 _ _ [.vl (.tup [.str "row",.tup (ks.map Kd.t)])]=_;rw[zG,ZK,bOk,e1];have hl:=jm (d+1) (.row ks) ⟨h1,h2,h3⟩;rw[jV]at hl;exact JT ks rfl (λk hk=>⟨ih1 k (h3 k hk),Zq d k (h3 k hk)⟩) (Kx hl hd)
  | many k lo hi=>
   obtain⟨h1,h2,h3⟩:=h;rw[jd,vW];simp only[Kd.t];rw[zb (ze (by rw[cs0];rfl)),zb (ze (by rw[cs0];rfl)),zb (ze (by rw[cs0];rfl)),zg (t:= .int ((shr k.all.length lo (hi+1 - lo):Nat):Int))]
   ·rfl
   ·show za 2 _ _ [.vl (mt k.t lo hi)]=_;rw[zt,v0,bOk,Yt vU,bOk,e2,show (hi:Int)+1=((lo+(hi+1 - lo):Nat):Int) by omega]
    refine YH (by omega) λm hm=> ?_
    have hp:prd ((ab m k).map λk=>k.all.length)=k.all.length ^ m:=by rw[jR,j3]
    rw[e1',← hp];have hd1:1<=d:=by
     cases d with
     | zero=>exact h3.elim
     | succ d=>omega
    refine JT (ab m k) (by rw[aM];rfl) (λk' hk' => ?_) (by rw[hp];exact vX (jm d k h3) (by omega) hm)
    rw[bc hk'];exact⟨ih k h3,Zq d k h3⟩
theorem jF {d:Nat}(hd:d<=3){k:Kd}(h:k.Ok d):f_2 20 [k.t]= .ok (.int (k.all.length:Int)):=U5 d 20 (by omega) hd k h
theorem U6 {d:Nat}(hd:d<=2){k:Kd}(h:k.Ok d){lo hi q:Nat}(h4:lo+q<=4):f_q 20 [mt k.t lo hi,.int ((lo+q:Nat):Int)]= .ok (.int ((shr k.all.length lo q:Nat):Int)):=by
 have e:f_q 20 [mt k.t lo hi,.int ((lo+q:Nat):Int)]=zi (b_q (S_2 19 1) (en0 2 [mt k.t lo hi,.int ((lo+q:Nat):Int)])):=rfl;rw[e];refine YH h4 λm hm=> ?_;have hp:prd ((ab m k).map λk=>k.all.length)=k.all.length ^ m:=by rw[jR,j3]
 have e1:∀s,S_2 19 1 [s]=zi (b_v (S_2 18 0) (en0 3 [s])):=λs=>rfl;rw[e1,← hp];refine JT (ab m k) (by rw[aM];rfl) (λk' hk' => ?_) (by rw[hp];exact vX (jm d k h) hd hm)
 rw[bc hk'];exact⟨U5 d 18 (by omega) (by omega) k h,Zq d k h⟩
noncomputable abbrev paB (cc cw:List T->R T):En->RS:=zj (zz 5 (za 1 cc (z9 (vE 4) (zd))))
  (zj (Qd 2 (za 2 cw (z9 (vE 4) (z9 (zc jj (vE 3) (vE 5)) (zd)))))
  (zz 3 (zc JD (vE 3) (vE 5))))
structure AtOk (cc cw:List T->R T) (k:Kd):Prop where
 cnt:cc [k.t]= .ok (.int (k.all.length:Int))
 at_:∀(i:Nat) x,k.all[i]? =some x->cw [k.t,.int (i:Int)]= .ok x
 pos:1<=k.all.length
 le:k.all.length < 1000000
theorem v5' {t:T}{a b c d e:Sl}{ρ:En}:vE 5 (a :: b :: c :: d :: e :: .vl t :: ρ)= .ok t:=rfl
theorem vY {n c:Nat}(h:1<=c):jj (.int (n:Int)) (.int (c:Int))= .ok (.int ((n % c:Nat):Int)):=by
 unfold jj;dsimp only;rw[if_pos (by omega)];rfl
theorem xJ {n c:Nat}(h:1<=c)(h' :c < 1000000):JD (.int (n:Int)) (.int (c:Int))= .ok (.int ((n / c:Nat):Int)):=by
 unfold JD;dsimp only;rw[if_pos (by omega)];rfl
theorem KG {i:Nat}{f:En->R T}{ρ:En}{ts:List T}{t:T}(hi:ρ[i]? =some (.ow ts))(hl:ts.length < bnd)(h:f ρ= .ok t):Qd i f ρ= .nx (ρ.set i (.ow (ts++[t]))):=by
 unfold Qd;rw[hi];dsimp only;rw[h,Zv,if_pos hl]
theorem YI {cc cw:List T->R T}{S N:Sl}:∀(rs:List Kd) (acc:List T) (n:Nat) (x y:Sl),(∀k∈rs,AtOk cc cw k)->n < prd (rs.map λk=>k.all.length)->acc.length+rs.length<=1000->
  ∃xs r x' y',(Zk [[]] (rs.reverse.map Kd.all))[n]? =some xs/\ZD (zl 4) (paB cc cw) (rs.map Kd.t) [S,N,.ow acc,.vl (.int (n:Int)),x,y]= .nx [S,N,.ow (acc++xs.reverse),r,x',y']
 | [],acc,n,x,y,_,hn,_=>⟨[],.vl (.int (n:Int)),x,y,by
   have:n=0:=by simp[prd]at hn;exact hn
   subst this;rfl,by simp[ZD]⟩
 | k :: rs,acc,n,x,y,H,hn,hl=>by
  obtain⟨hc,hw,h1,hle⟩:=H k aa;rw[az,prd]at hn;rw[ar]at hl;have hb:bnd=16777216:=rfl;have hmod:n % k.all.length < k.all.length:=Nat.mod_lt _ h1;obtain⟨v,hv⟩:=JS hmod;have hdiv:n / k.all.length < prd (rs.map λk=>k.all.length):=Nat.div_lt_of_lt_mul hn;obtain⟨xs,r,x',y',e1,e2⟩:=YI (cc:=cc) (cw:=cw) (S:=S) (N:=N) rs (acc++[v]) (n / k.all.length) (.vl k.t) (.vl (.int (k.all.length:Int))) (λk' hk' =>H k' (a8 _ hk')) hdiv (by rw[aB,aJ];omega)
  have b1:zz 5 (za 1 cc (z9 (vE 4) (zd))) [S,N,.ow acc,.vl (.int (n:Int)),.vl k.t,y]= .nx [S,N,.ow acc,.vl (.int (n:Int)),.vl k.t,.vl (.int (k.all.length:Int))]:=by
   rw[zw (t:= .int (k.all.length:Int))]
   ·rfl
   ·rw[zG,v4,bOk,hc]
  have b2:Qd 2 (za 2 cw (z9 (vE 4) (z9 (zc jj (vE 3) (vE 5)) (zd)))) [S,N,.ow acc,.vl (.int (n:Int)),.vl k.t,.vl (.int (k.all.length:Int))]= .nx [S,N,.ow (acc++[v]),.vl (.int (n:Int)),.vl k.t,.vl (.int (k.all.length:Int))]:=by
   rw[KG (ts:=acc) (t:=v) rfl (by omega)]
   ·rfl
   ·rw[zt,v4,bOk,zf,v3,bOk,v5',bOk,vY h1,bOk,hw _ v hv]
  have b3:zz 3 (zc JD (vE 3) (vE 5)) [S,N,.ow (acc++[v]),.vl (.int (n:Int)),.vl k.t,.vl (.int (k.all.length:Int))]= .nx [S,N,.ow (acc++[v]),.vl (.int ((n / k.all.length:Nat):Int)),.vl k.t,.vl (.int (k.all.length:Int))]:=by
   rw[zw (t:= .int ((n / k.all.length:Nat):Int))]
   ·rfl
   ·rw[zf,v3,bOk,v5',bOk,xJ h1 hle]
  have eb:paB cc cw [S,N,.ow acc,.vl (.int (n:Int)),.vl k.t,y]= .nx [S,N,.ow (acc++[v]),.vl (.int ((n / k.all.length:Nat):Int)),.vl k.t,.vl (.int (k.all.length:Int))]:=by
   rw[paB,zb b1,zb b2,b3]
  refine⟨xs++[v],r,x',y', ?_, ?_⟩
  ·have:=QT e1 hv;rw[cy,Nat.div_add_mod]at this;rw[c7,dE];exact this
  ·rw[az,JQ (ρ1:=[S,N,.ow acc,.vl (.int (n:Int)),.vl k.t,y]) rfl eb,e2,List.reverse_append];simp
theorem YJ:∀ns:List Nat,prd ns.reverse=prd ns
 | []=>rfl
 | n :: ns=>by rw[c7,U3,YJ ns,prd,cy]
theorem JU {cc cw:List T->R T}{s:T}(ks:List Kd)(hs:ZT s= .ok (ks.map Kd.t))(hl:ks.length<=3)(H:∀k∈ks,AtOk cc cw k){n:Nat}{xs:List T}(hx:(Zk [[]] (ks.map Kd.all))[n]? =some xs):
  zi (b_w cc cw (en0 6 [s,.int (n:Int)]))= .ok (.tup xs):=by
 have hn:=(ak.mp hx).1;rw[wB,aX]at hn;have hr:(ks.reverse.map λk=>k.all.length)=(ks.map λk=>k.all.length).reverse:=by rw[i4]
 obtain⟨ys,r,x',y',e1,e2⟩:=YI (cc:=cc) (cw:=cw) (S:= .vl s) (N:= .vl (.int (n:Int))) ks.reverse [] n .un .un (λk hk=>H k (List.mem_reverse.mp hk)) (by rw[hr,YJ];exact hn) (by rw[bN,bY];omega)
 rw[fG,hx]at e1;cases e1;rw[bn]at e2;have e0:UQ 2 (zd) [.vl s,.vl (.int (n:Int)),.un,.un,.un,.un]= .nx [.vl s,.vl (.int (n:Int)),.ow [],.un,.un,.un]:=rfl;have e3:zz 3 (vE 1) [.vl s,.vl (.int (n:Int)),.ow [],.un,.un,.un]= .nx [.vl s,.vl (.int (n:Int)),.ow [],.vl (.int (n:Int)),.un,.un]:=rfl;have e4:jp (z0h (vE 0)) (zl 4) (paB cc cw) [.vl s,.vl (.int (n:Int)),.ow [],.vl (.int (n:Int)),.un,.un]= .nx [.vl s,.vl (.int (n:Int)),.ow xs.reverse,r,x',y']:=by
  show (((ZT s).bind λxs=>R.ok xs.reverse).s λts=>ZD (zl 4) (paB cc cw) ts [.vl s,.vl (.int (n:Int)),.ow [],.vl (.int (n:Int)),.un,.un])=_;rw[hs,bOk,Zv,← i4];exact e2
 have hlen:xs.reverse.length<=bnd:=by
  have:∀(ls made:List (List T)) (m:Nat),(∀a∈made,a.length<=m)->∀a∈Zk made ls,a.length<=m+ls.length:=by
   intro ls
   induction ls with
   | nil=>intro made m h a ha;exact h a ha
   | cons l ls ih=>
    intro made m h a ha;have:=ih (made.flatMap λa=>l.map λx=>a++[x]) (m+1) (λb hb=>by
     obtain⟨c,hc,hb⟩:=bT.mp hb;obtain⟨z,_,rfl⟩:=au.mp hb;have:=h c hc;rw[aB,aJ];omega) a ha
    rw[ar];omega
  have h1:=this (ks.map Kd.all) [[]] 0 (λa ha=>by rw[aA.mp ha];exact ai _) xs (b9 hx)
  rw[xqz]at h1;rw[bN];have hb:bnd=16777216:=rfl;omega
 show zi (b_w cc cw [.vl s,.vl (.int (n:Int)),.un,.un,.un,.un])=_;rw[b_w,zb e0,zb e3,zb e4,zg (t:= .tup xs)]
 ·rfl
 ·show Qx (.lst xs.reverse)=_;unfold Qx;dsimp only;rw[if_pos hlen,fG]
noncomputable abbrev mtT:En->R Bool:=zh leC (za 2 (f_q 20) (z9 (vE 0) (z9 (zc zv (vE 2) (cE (.int 1))) (zd)))) (vB 1)
noncomputable abbrev mtB:En->RS:=zz 2 (zc zv (vE 2) (cE (.int 1)))
theorem w1n {t:T}{a:Sl}{ρ:En}:vB 1 (a :: .vl t :: ρ)= .ok t:=rfl
theorem YK {d:Nat}(hd:d<=2){k:Kd}(h:k.Ok d){lo hi n:Nat}(h1:lo<=hi)(h3:hi<=3)(hn:n < shr k.all.length lo (hi+1 - lo)):∀(f q:Nat),q<=hi - lo->hi - lo - q < f->shr k.all.length lo q<=n->
  ∃q',q' <=hi - lo/\shr k.all.length lo q' <=n/\n < shr k.all.length lo (q' +1)/\jl mtT mtB f [.vl (mt k.t lo hi),.vl (.int (n:Int)),.vl (.int ((lo+q:Nat):Int))]= .nx [.vl (mt k.t lo hi),.vl (.int (n:Int)),.vl (.int ((lo+q' :Nat):Int))]
 | 0,q,_,hf,_=>by omega
 | f+1,q,hq,hf,hs=>by
  have et:mtT [.vl (mt k.t lo hi),.vl (.int (n:Int)),.vl (.int ((lo+q:Nat):Int))]= .ok (decide (shr k.all.length lo (q+1)<=n)):=by
   rw[mtT,zu,zt,v0,bOk,Yt v2,bOk,show ((lo+q:Nat):Int)+1=((lo+(q+1):Nat):Int) by omega,U6 hd h (by omega),bOk,w1n,bOk,Jm,Jh]
  have eu:jl mtT mtB (f+1) [.vl (mt k.t lo hi),.vl (.int (n:Int)),.vl (.int ((lo+q:Nat):Int))]=(mtT [.vl (mt k.t lo hi),.vl (.int (n:Int)),.vl (.int ((lo+q:Nat):Int))]).s λk' =>if k' =true then match mtB [.vl (mt k.t lo hi),.vl (.int (n:Int)),.vl (.int ((lo+q:Nat):Int))] with
    | .nx ρ2=>jl mtT mtB f ρ2
    | .ct ρ2=>jl mtT mtB f ρ2
    | .bk ρ2=> .nx ρ2
    | r=>r
   else .nx [.vl (mt k.t lo hi),.vl (.int (n:Int)),.vl (.int ((lo+q:Nat):Int))]:=rfl
  rw[eu,et,Zv]
  by_cases hc:shr k.all.length lo (q+1)<=n
  ·rw[if_pos (decide_eq_true hc)];have hq2:q+1<=hi - lo:=by
    rcases Nat.lt_or_ge q (hi - lo) with z | z
    ·exact z
    ·have:q=hi - lo:=by omega
     rw[this,show hi - lo+1=hi+1 - lo by omega]at hc
     omega
   have eb:mtB [.vl (mt k.t lo hi),.vl (.int (n:Int)),.vl (.int ((lo+q:Nat):Int))]= .nx [.vl (mt k.t lo hi),.vl (.int (n:Int)),.vl (.int ((lo+(q+1):Nat):Int))]:=by
    rw[mtB,zw (t:= .int ((lo+(q+1):Nat):Int))]
    ·rfl
    ·rw[Yt v2,show ((lo+q:Nat):Int)+1=((lo+(q+1):Nat):Int) by omega]
   rw[eb];exact YK hd h h1 h3 hn f (q+1) hq2 (by omega) hc
  ·rw[if_neg (by simpa using hc)]
   exact⟨q,hq,hs,by omega,rfl⟩
theorem KH {i j:Nat}(h:j<=i):jP (.int (i:Int)) (.int (j:Int))= .ok (.int ((i - j:Nat):Int)):=by
 rw[Zg];congr 2;omega
theorem UL {d:Nat}(hd:d<=2){k:Kd}(h:k.Ok d){cp:List T->R T}{lo hi n:Nat}(h1:lo<=hi)(h3:hi<=3)(hn:n < shr k.all.length lo (hi+1 - lo))
  (H:∀(m:Nat),m<=3->∀(j:Nat) (xs:List T),(Zk [[]] (ab m k.all))[j]? =some xs->cp [.lst (ab m k.t),.int (j:Int)]= .ok (.tup xs)):
  ∃x,(Kd.many k lo hi).all[n]? =some x/\zi (Xb (f_q 20) cp (en0 3 [mt k.t lo hi,.int (n:Int)]))= .ok x:=by
 obtain⟨q,hq,hs,hs',e⟩:=YK hd h h1 h3 hn 8 0 (by omega) (by omega) (by unfold shr;simp)
 rw[QU]at hs';have hj:n - shr k.all.length lo q < (Zk [[]] (ab (lo+q) k.all)).length:=by
  rw[wB,aM,j3];omega
 obtain⟨xs,hx⟩:=JS hj;have ha:=xI (k:=k) (lo:=lo) (hi:=hi) (by omega) hx
 rw[show shr k.all.length lo q+(n - shr k.all.length lo q)=n by omega]at ha
 refine⟨_,ha, ?_⟩;have e0:zz 2 (zc ixT (vE 0) (cE (.int 2))) [.vl (mt k.t lo hi),.vl (.int (n:Int)),.un]= .nx [.vl (mt k.t lo hi),.vl (.int (n:Int)),.vl (.int ((lo+0:Nat):Int))]:=rfl;show zi (Xb (f_q 20) cp [.vl (mt k.t lo hi),.vl (.int (n:Int)),.un])=_;rw[Xb,zb e0,zb e,zg (t:= .tup xs)]
 ·rfl
 ·show za 2 cp _ [.vl (mt k.t lo hi),.vl (.int (n:Int)),.vl (.int ((lo+q:Nat):Int))]=_;have em:zc zP (Zt (z9 (zc ixT (vE 0) (cE (.int 1))) (zd))) (vE 2) [.vl (mt k.t lo hi),.vl (.int (n:Int)),.vl (.int ((lo+q:Nat):Int))]= .ok (.lst (ab (lo+q) k.t)):=by
   rw[zf,QH ZK,bOk,v2,bOk,WP (by omega),ZL]
  rw[zt,em,bOk,zf,v1,bOk,zt,v0,bOk,v2,bOk,U6 hd h (by omega),bOk,KH hs,bOk,H (lo+q) (by omega) _ xs hx]
theorem YL {d:Nat}(hd:d<=2){k:Kd}(h:k.Ok d):k.all.length < 1000000:=by
 have h1:=jm d k h;have h2:mx d<=70644:=by
  have:d=0\/d=1\/d=2:=by omega
  rcases this with rfl | rfl | rfl <;> decide
 omega
theorem ju:∀(d n:Nat),3*d<=n->d<=3->∀k:Kd,k.Ok d->∀(i:Nat) (x:T),k.all[i]? =some x->S_8 n 0 [k.t,.int (i:Int)]= .ok x
 | 0,_,_,_,_,h=>h.elim
 | d+1,n+3,hn,hd,k,h=>by
  intro i x hx;have ih:=ju d n (by omega) (by omega)
  have ih1:=ju d (n+1) (by omega) (by omega)
  have e:S_8 (n+3) 0 [k.t,.int (i:Int)]=zi (b_8 f_e (S_8 (n+2) 1) (S_8 (n+2) 2) (en2 k.t (.int (i:Int)))):=rfl;have e2:∀s u,S_8 (n+2) 2 [s,u]=zi (b_w (f_2 20) (S_8 (n+1) 0) (en0 6 [s,u])):=λs u=>rfl;have e2' :∀s u,S_8 (n+1) 2 [s,u]=zi (b_w (f_2 20) (S_8 n 0) (en0 6 [s,u])):=λs u=>rfl;have e1:∀s u,S_8 (n+2) 1 [s,u]=zi (Xb (f_q 20) (S_8 (n+1) 2) (en0 3 [s,u])):=λs u=>rfl;have hi' :=(ak.mp hx).1;rw[e,b_8];cases k with
  | whole lo hi=>
   rw[Kd.all,aj]at hx;rw[j4]at hi';rw[cV hi']at hx;cases hx;simp only[Kd.t];rw[zq (t:= .int (lo+(i:Int)))]
   ·rfl
   ·rw[QP,zg];rfl
  | pick cs=>
   have hw:=Jv cs h.2.1;rw[Kd.all]at hx;simp only[Kd.t]at hw ⊢;rw[zb (Wl (by decide)),zq (t:=x)]
   ·rfl
   ·rw[QP,zg];show zc ixT _ _ (en2 _ _)=_;rw[zf,zG,v0,bOk,hw,bOk,v1,bOk];exact KD hx
  | row ks=>
   obtain⟨h1,h2,h3⟩:=h;rw[Kd.all,Kd.alls_map,aj]at hx;cases hr:(Zk [[]] (ks.map Kd.all))[i]? with
   | none=>rw[hr]at hx;cases hx
   | some xs=>
    rw[hr]at hx;cases hx;simp only[Kd.t];rw[Kd.ts_map,zb (Wl (by decide)),zb (Wl (by decide)),zq (t:= .tup xs)]
    ·rfl
    ·rw[QP,zg];show za 2 _ _ (en2 _ _)=_;rw[zt,ZK,bOk,v1,bOk,e2];refine JU ks rfl h2 (λk hk=>⟨jF (by omega) (h3 k hk),ih1 k (h3 k hk),Zq d k (h3 k hk),YL (by omega) (h3 k hk)⟩) hr
  | many k lo hi=>
   obtain⟨h1,h2,h3⟩:=h;rw[jd,vW]at hi';obtain⟨x',hx',hv⟩:=UL (cp:=S_8 (n+1) 2) (by omega:d<=2) h3 h1 h2 hi' (λm hm j xs hr=>by
    rw[e2'];refine JU (ab m k) (by rw[aM];rfl) (by rw[aI];exact hm) (λk' hk' => ?_) (by rw[aM];exact hr)
    rw[bc hk'];exact⟨jF (by omega) h3,ih k h3,Zq d k h3,YL (by omega) h3⟩)
   rw[hx]at hx';cases hx';simp only[Kd.t];rw[zb (Wl (by decide)),zb (Wl (by decide)),zb (Wl (by decide)),zg (t:=x)]
   ·rfl
   ·show za 2 _ _ (en2 _ _)=_;rw[zt,v0,bOk,v1,bOk,e1];exact hv
theorem KI {k:Kd}(h:k.Ok 3){i:Nat}{x:T}(hx:k.all[i]? =some x):f_8 20 [k.t,.int (i:Int)]= .ok x:=ju 3 20 (by omega) (by omega) k h i x hx
theorem YM (x:Str):∀cs:List (Str×Int),eqs (.str x) (cs.map λc=>T.str c.1)=some (cs.map λc=>c.1 == x)
 | []=>rfl
 | c :: cs=>by
  show (match eqF 30 (.str c.1) (.str x) with
   | none=>none
   | some b=>match eqs (.str x) (cs.map λ(c:Str×Int)=>T.str c.1) with
    | none=>none
    | some bs=>some (b :: bs))=_
  rw[YM x cs];rfl
theorem WU:∀(bs:List Bool) (i:Nat),bs[i]? =some true->(∀j,j < i->bs[j]? =some false)->bs.idxOf true=i
 | [],i,h,_=>by simp at h
 | b :: bs,0,h,_=>by
  have:b=true:=by simpa using h
  subst this;rfl
 | b :: bs,i+1,h,hj=>by
  have h0:b=false:=by simpa using hj 0 (by omega)
  subst h0;have:=WU bs i (by simpa using h) λj h' =>by simpa using hj (j+1) (by omega)
  rw[List.idxOf_cons,this];rfl
theorem QV {cs:List (Str×Int)}(hd:Dst (cs.map (·.1))){i:Nat}{c:Str×Int}(h:cs[i]? =some c):X7 (.str c.1) (cs.map λc=>T.str c.1)= .ok (.int (i:Int)):=by
 unfold X7;rw[YM];dsimp only;have hi:=(ak.mp h).1;have h1:(cs.map λd=>d.1 == c.1)[i]? =some true:=by rw[aj,h];simp
 rw[if_pos (b9 h1),WU _ i h1 λj hj=> ?_];rw[aj];cases hc:cs[j]? with
 | none=>rw[List.getElem?_eq_none_iff]at hc;omega
 | some d=>
  have hw:=hd i c.1 (by rw[aj,h];rfl)
  have:d.1 ≠ c.1:=λe=>hw (by
   rw[← e];refine b9 (i:=j) ?_;rw[cY hj,aj,hc];rfl)
  show some (d.1 == c.1)=some false;rw[beq_eq_false_iff_ne.mpr this]
noncomputable def Pl:Nat->T->Prop
 | 0,_=>False
 | n+1,.tup xs=>∀x∈xs,Pl n x
 | n+1,.lst xs=>∀x∈xs,Pl n x
 | _+1,.fz _=>False
 | _+1,_=>True
theorem Jw {f:T->T->Option Bool}:∀(xs ys:List T),(∀x∈xs,∀y,∃b,f x y=some b)->∃b,eqL f xs ys=some b
 | [],[],_=>⟨_,rfl⟩
 | [],_ :: _,_=>⟨_,rfl⟩
 | _ :: _,[],_=>⟨_,rfl⟩
 | x :: xs,y :: ys,h=>by
  obtain⟨b,hb⟩:=h x aa y;obtain⟨c,hc⟩:=Jw xs ys λz hz=>h z (a8 _ hz);exact⟨b && c,by unfold eqL;rw[hb,hc]⟩
theorem Zn {f:T->T->Option Bool}:∀(xs:List T),(∀x∈xs,f x x=some true)->eqL f xs xs=some true
 | [],_=>rfl
 | x :: xs,h=>by
  unfold eqL;rw[h x aa,Zn xs λz hz=>h z (a8 _ hz)];rfl
theorem Jx:∀(n:Nat) (y x:T),Pl n y->∃b,eqF n y x=some b
 | 0,_,_,h=>h.elim
 | n+1,y,x,h=>by
  cases y with
  | tup xs=>
   have h:∀x∈xs,Pl n x:=h;cases x with
   | tup ys=>rw[eqF];exact Jw xs ys λz hz u=>Jx n z u (h z hz)
   | _=>exact⟨false,by rw[eqF] <;> intros <;> first | rfl | contradiction | (intro z;cases z)⟩
  | lst xs=>
   have h:∀x∈xs,Pl n x:=h;cases x with
   | lst ys=>rw[eqF];exact Jw xs ys λz hz u=>Jx n z u (h z hz)
   | fz ys=>rw[eqF];exact Jw xs ys λz hz u=>Jx n z u (h z hz)
   | _=>exact⟨false,by rw[eqF] <;> intros <;> first | rfl | contradiction | (intro z;cases z)⟩
  | fz xs=>exact h.elim
  | non=>cases x <;> exact⟨_,rfl⟩
  | bl b=>cases x <;> exact⟨_,rfl⟩
  | int i=>cases x <;> exact⟨_,rfl⟩
  | str i=>cases x <;> exact⟨_,rfl⟩
theorem Zd:∀(n:Nat) (y:T),Pl n y->eqF n y y=some true
 | 0,_,h=>h.elim
 | n+1,y,h=>by
  cases y with
  | tup xs=>rw[eqF];exact Zn xs λz hz=>Zd n z ((show ∀x∈xs,Pl n x from h) z hz)
  | lst xs=>rw[eqF];exact Zn xs λz hz=>Zd n z ((show ∀x∈xs,Pl n x from h) z hz)
  | fz xs=>exact h.elim
  | non=>rfl
  | bl b=>show some (b == b)=_;simp
  | int i=>show some (i == i)=_;simp
  | str i=>show some (i == i)=_;simp
theorem Pl.up:∀(n:Nat) (y:T),Pl n y->Pl (n+1) y
 | 0,_,h=>h.elim
 | n+1,y,h=>by
  cases y with
  | tup xs=>exact λz hz=>Pl.up n z ((show ∀x∈xs,Pl n x from h) z hz)
  | lst xs=>exact λz hz=>Pl.up n z ((show ∀x∈xs,Pl n x from h) z hz)
  | fz xs=>exact h.elim
  | _=>exact trivial
theorem Pl.le {n m:Nat}{y:T}(hm:n<=m)(h:Pl n y):Pl m y:=by
 obtain⟨j,rfl⟩:∃j,m=n+j:=⟨m - n,by omega⟩
 clear hm
 induction j with
 | zero=>exact h
 | succ j ih=>exact Pl.up _ _ ih
theorem WV {f:T->Option Bool}:∀(ts:List T),(∀t∈ts,∃b,f t=some b)->∃b,jo f ts=some b/\(b=false->∀t∈ts,f t=some false)
 | [],_=>⟨false,rfl,λ_ _ h=>nomatch h⟩
 | t :: ts,h=>by
  obtain⟨b,hb⟩:=h t aa;obtain⟨c,hc,h'⟩:=WV ts λu hu=>h u (a8 _ hu);refine⟨b || c,by unfold jo;rw[hb,hc],λe u hu=> ?_⟩
  rw[dD]at e;rcases ah.mp hu with rfl | hu
  ·rw[hb,e.1]
  ·exact h' e.2 u hu
theorem jv {f:En->R T}{ρ:En}{t:T}(h:f ρ= .ok t):JE f ρ= .nx ρ:=by unfold JE;rw[h,Zv]
theorem all_map (k:Kd):((rng 0 k.all.length).map λt=>match t with | .int i=>(k.all[i.toNat]?).getD .non | y=>y)=k.all:=by
 unfold rng;rw[aX];refine d_ λi=> ?_;rw[aj]
 by_cases hi:i < k.all.length
 ·rw[cV hi];show some ((k.all[((0:Int)+(i:Int)).toNat]?).getD .non)=_;rw[show ((0:Int)+(i:Int)).toNat=i by omega]
  obtain⟨x,hx⟩:=JS hi;rw[hx];rfl
 ·rw[aU (by simpa using hi),aU (by omega)];rfl
theorem YN {f:En->R T}{ρ:En}{j:Int}(hf:f ρ= .ok (.int j))(h: -1000000 < j/\j < 1000000):Zy f ρ= .ok (rng 0 j.toNat):=by
 unfold Zy;rw[hf,bOk];exact if_pos h
theorem xK {i j:Int}:gtC (.int i) (.int j)= .ok (decide (j < i)):=rfl
noncomputable abbrev en6 (w t x:T)(a:T):En:=[.vl w,.vl t,.vl x,.vl .non,.vl a,.un]
theorem eq_lit {i j:Int}{t x a:T}(b:Bool)(h:(i == j)=b):zh eqC (vB 0) (cE (.int j)) (en6 (.int i) t x a)= .ok b:=by
 rw[zu,w0,bOk,zI,bOk];show R.ok (i == j)=_;rw[h]
theorem set_ex {i:Nat}{f:En->R T}{ρ:En}{c:Nat}(h:f ρ= .ex c):zz i f ρ= .ex c:=by rw[Jf,h];rfl
theorem set4 {w t x v:T}{f:En->R T}(h:f (en6 w t x .non)= .ok v):zz 4 f (en6 w t x .non)= .nx (en6 w t x v):=by rw[zw h];rfl
theorem QW {g:En->R Bool}{f f' :En->R T}{ρ:En}(h:g ρ= .ok true):ifE g f f' ρ=f ρ:=by unfold ifE;rw[h];rfl
theorem QX {g:En->R Bool}{f f' :En->R T}{ρ:En}(h:g ρ= .ok false):ifE g f f' ρ=f' ρ:=by unfold ifE;rw[h];rfl
noncomputable abbrev enL (ns:List Int)(k:Kd)(c d e f g h i:Sl):En:=[.vl (scr ns),.vl k.t,.vl (.lst k.all),c,d,e,f,g,h,i]
theorem len2 {ns:List Int}{k:Kd}{c d e f g h i:Sl}:ap1 zY (vB 2) (enL ns k c d e f g h i)= .ok (.int (k.all.length:Int)):=rfl
theorem QY {i:Int}:neC (.int i) (.int i)= .ok false:=by show R.ok (!(i == i))=_;simp
theorem ns_ii {i:Str}:neC (.str i) (.str i)= .ok false:=by show R.ok (!(i == i))=_;simp
noncomputable abbrev nmE:En->R T:=zc ixT (Zt (z9 (cE (.int 0)) (z9 (zc jP (ap1 zY (vB 2)) (cE (.int 1))) (z9 (za 3 f_4 (z9 (vE 0) (z9 (zc zv (cE (.int 4000)) (vE 4)) (z9 (ap1 zY (vB 2)) (zd))))) (zd))))) (zc jB (vE 4) (cE (.int 2)))
theorem lst3 {f g h:En->R T}{ρ:En}{x y z:T}(hf:f ρ= .ok x)(hg:g ρ= .ok y)(hh:h ρ= .ok z):Zt (z9 f (z9 g (z9 h zd))) ρ= .ok (.lst [x,y,z]):=by
 unfold Zt z9 zd;rw[hf,hg,hh];rfl
theorem nm_ok (ns:List Int){k:Kd}(hk:k.Ok 3)(j:Nat)(c e f g h i:Sl):∃n:Nat,n < k.all.length/\nmE (enL ns k c (.vl (.int (0+(j:Int)))) e f g h i)= .ok (.int (n:Int)):=by
 have hpos:=Zq 3 k hk;obtain⟨q,hq,q0,q1⟩:=zM ns (4000+(0+(j:Int))) (k.all.length:Int) (by omega) (by omega)
 have e1:zc jP (ap1 zY (vB 2)) (cE (.int 1)) (enL ns k c (.vl (.int (0+(j:Int)))) e f g h i)= .ok (.int ((k.all.length:Int) - 1)):=rfl;have e2:za 3 f_4 (z9 (vE 0) (z9 (zc zv (cE (.int 4000)) (vE 4)) (z9 (ap1 zY (vB 2)) (zd)))) (enL ns k c (.vl (.int (0+(j:Int)))) e f g h i)= .ok (.int q):=by
  rw[Z2,v0,bOk,zf,zI,bOk,v4,bOk,zT,bOk,len2,bOk,hq]
 have e0:cE (.int 0) (enL ns k c (.vl (.int (0+(j:Int)))) e f g h i)= .ok (.int 0):=rfl;have e3:zc jB (vE 4) (cE (.int 2)) (enL ns k c (.vl (.int (0+(j:Int)))) e f g h i)= .ok (.int ((min j 2:Nat):Int)):=by
  rw[zf,v4,bOk,zI,bOk];unfold jB;dsimp only;congr 2
  by_cases hj:j<=2
  ·rw[if_neg (by omega)];omega
  ·rw[if_pos (by omega)];omega
 rw[nmE,zf,lst3 e0 e1 e2,bOk,e3,bOk];have hm:min j 2=0\/min j 2=1\/min j 2=2:=by omega
 rcases hm with hm | hm | hm
 ·exact⟨0,by omega,by rw[hm];rfl⟩
 ·refine⟨k.all.length - 1,by omega, ?_⟩
  rw[hm];show R.ok (T.int ((k.all.length:Int) - 1))=_;congr 2;omega
 ·refine⟨q.toNat,by omega, ?_⟩
  rw[hm];show R.ok (T.int q)=_;congr 2;omega
theorem v2L {ns:List Int}{k:Kd}{c d e f g h i:Sl}:vE 2 (enL ns k c d e f g h i)= .ok (.lst k.all):=rfl
theorem v1L {ns:List Int}{k:Kd}{c d e f g h i:Sl}:vE 1 (enL ns k c d e f g h i)= .ok k.t:=rfl
theorem v5L {ns:List Int}{k:Kd}{c d f g h i:Sl}{t:T}:vE 5 (enL ns k c d (.vl t) f g h i)= .ok t:=rfl
theorem w5L {ns:List Int}{k:Kd}{c d f g h i:Sl}{t:T}:vB 5 (enL ns k c d (.vl t) f g h i)= .ok t:=rfl
inductive W:Nat->T->Prop where
 | int (d:Nat) (i:Int):W d (.int i)
 | str (d:Nat) (s:Str):W d (.str s)
 | tup {d:Nat} {xs:List T} (h:xs.length<=3) (r:∀x∈xs,W d x):W (d+1) (.tup xs)
theorem Xd:∀(d:Nat) (k:Kd) (x:T),k.Ok (d+1)->k.has x=true->W d x
 | d,.whole lo hi,x,_,h=>by
  cases x <;> first | exact .int _ _ | (simp[Kd.has,inR]at h)
 | d,.pick cs,x,_,h=>by
  cases x <;> first | exact .str _ _ | (simp[Kd.has]at h)
 | 0,.row ks,x,hk,h=>by
  obtain⟨h1,h3,hk⟩:=hk
  match ks,h1,hk with
  | k :: _,_,hk=>exact(hk k aa).elim
 | 0,.many k lo hi,x,hk,h=>hk.2.2.elim
 | d+1,.row ks,x,hk,h=>by
  obtain⟨h1,h3,hk⟩:=hk;cases x with
  | tup xs=>
   rw[Kd.has]at h;simp only[ac,beq_iff_eq]at h;obtain⟨hl,hh⟩:=h;refine .tup (by omega) λx hx=> ?_
   obtain⟨k,hm,hx'⟩:=U1 ks xs hl hh x hx;exact Xd d k x (hk k hm) hx'
  | _=>simp[Kd.has]at h
 | d+1,.many k lo hi,x,hk,h=>by
  obtain⟨h1,h3,hk⟩:=hk;cases x with
  | tup xs=>
   rw[Kd.has]at h;simp only[ac,decide_eq_true_eq,aG]at h;obtain⟨⟨hl,hl'⟩,hh⟩:=h;refine .tup (by omega) λx hx=> ?_
   exact Xd d k x hk (hh x hx)
  | _=>simp[Kd.has]at h
mutual
noncomputable def lv:T->List T
 | .tup xs=>lvs xs
 | .non=>[.non]
 | .bl b=>[.bl b]
 | .int b=>[.int b]
 | .str b=>[.str b]
 | .lst b=>[.lst b]
 | .fz b=>[.fz b]
noncomputable def lvs:List T->List T
 | []=>[]
 | x :: xs=>lv x++lvs xs
end
theorem U7 (xs:List T):lv (.tup xs)=lvs xs:=by rw[lv]
theorem U8 (i:Int):lv (.int i)=[.int i]:=by rw[lv]
theorem U9 (i:Str):lv (.str i)=[.str i]:=by rw[lv]
theorem Jy (x:T)(xs:List T):lvs (x :: xs)=lv x++lvs xs:=by rw[lvs]
theorem Wa:lvs []=[]:=by rw[lvs]
theorem YO {n:Nat}:∀xs:List T,(∀x∈xs,(lv x).length<=n)->(lvs xs).length<=xs.length*n
 | [],_=>by rw[Wa];exact ba _
 | x :: xs,h=>by
  rw[Jy,aB,ar,eY];have h1:=h x aa;have h2:=YO xs λy hy=>h y (a8 _ hy);omega
theorem pow3 (d:Nat):1<=3 ^ d:=Nat.one_le_pow _ _ (by omega)
theorem YQ {d:Nat}{x:T}(h:W d x):(lv x).length<=3 ^ d:=by
 induction h with
 | int d i=>rw[U8];exact pow3 d
 | str d i=>rw[U9];exact pow3 d
 | @tup d xs h r ih=>
  rw[U7];have:=YO (n:=3 ^ d) xs ih;have h3:=Nat.mul_le_mul_right (3 ^ d) h;rw[dm];omega
inductive Lf:T->Prop where
 | int (i:Int):Lf (.int i)
 | str (i:Str):Lf (.str i)
theorem vZ:∀(xs:List T),(∀x∈xs,∀y∈lv x,Lf y)->∀y∈lvs xs,Lf y
 | [],_,y,hy=>by rw[Wa]at hy;cases hy
 | x :: xs,h,y,hy=>by
  rw[Jy]at hy;rcases aZ.mp hy with hy | hy
  ·exact h x aa y hy
  ·exact vZ xs (λz hz=>h z (a8 _ hz)) y hy
theorem z0v {d:Nat}{x:T}(h:W d x):∀y∈lv x,Lf y:=by
 induction h with
 | int d i=>intro y hy;rw[U8]at hy;rw[aA.mp hy];exact .int _
 | str d i=>intro y hy;rw[U9]at hy;rw[aA.mp hy];exact .str _
 | @tup d xs h r ih=>intro y hy;rw[U7]at hy;exact vZ xs ih y hy
theorem KJ {i:Nat}{f:En->R T}{ρ:En}{ts us:List T}(hi:ρ[i]? =some (.ow ts))(h:f ρ= .ok (.lst us))(hl:ts.length+us.length<=bnd):qK i f ρ= .nx (ρ.set i (.ow (ts++us))):=by
 unfold qK;rw[hi];dsimp only;rw[h,Zv];dsimp only;rw[if_pos hl]
noncomputable abbrev loB (c:List T->R T):En->RS:=qK 1 (za 1 c (z9 (vE 2) (zd)))
theorem YR {c:List T->R T}{n:Nat}(hn:n<=1000){a:Sl}:∀(xs:List T) (acc:List T) (x:Sl),(∀x∈xs,c [x]= .ok (.lst (lv x))/\(lv x).length<=n)->acc.length+xs.length*n<=1000000->
  ∃x',ZD (zl 2) (loB c) xs [a,.ow acc,x]= .nx [a,.ow (acc++lvs xs),x']
 | [],acc,x,_,_=>⟨x,by rw[Wa,bA];rfl⟩
 | y :: xs,acc,x,H,hb=>by
  obtain⟨e,hl⟩:=H y aa;rw[ar,eY]at hb;have hB:bnd=16777216:=rfl;obtain⟨x',h⟩:=YR hn (a:=a) xs (acc++lv y) (.vl y) (λz hz=>H z (a8 _ hz)) (by rw[aB];omega)
  refine⟨x', ?_⟩;have s2:zl 2 y [a,.ow acc,x]= .ok [a,.ow acc,.vl y]:=rfl;have b2:loB c [a,.ow acc,.vl y]= .nx [a,.ow (acc++lv y),.vl y]:=by
   have z:za 1 c (z9 (vE 2) (zd)) [a,.ow acc,.vl y]= .ok (.lst (lv y)):=by rw[zG,v2,bOk,e]
   exact KJ (i:=1) (ts:=acc) (us:=lv y) rfl z (by omega)
  rw[JQ s2 b2,h,Jy,bx]
theorem wC {x:T}{r:En}:Jj (ZJ (ap1 (wO "tuple") (vB 0))) (.vl x :: r)= .ok (!(match x with | .tup _=>true | _=>false)):=by
 rw[Je,j2,Zf,w0,bOk,Yn,bOk,JL,bOk]
 all_goals (cases x <;> rfl)
theorem JV:∀(n d:Nat),d < n->d<=3->∀x:T,W d x->S_k n 0 [x]= .ok (.lst (lv x))
 | 0,d,h,_,_,_=>absurd h (fj _)
 | n+1,d,h,h3,x,hx=>by
  show zi (b_k (S_k n 0) [.vl x,.un,.un])=_;rw[b_k];cases hx with
  | int d i=>
   rw[zq (by rw[ZI wC];exact zg (QH v0)),U8]
   rfl
  | str d i=>
   rw[zq (by rw[ZI wC];exact zg (QH v0)),U9]
   rfl
  | @tup d xs hl r=>
   have hp:3 ^ d<=27:=cN (n:=3) (by omega) (show d<=3 by omega)
   obtain⟨x',el⟩:=YR (c:=S_k n 0) (n:=3 ^ d) (by omega) (a:= .vl (.tup xs)) xs [] .un (λy hy=>⟨JV n d (by omega) (by omega) y (r y hy),YQ (r y hy)⟩) (by have:=cq hl hp;simp;omega)
   have e1:UQ 1 zd [.vl (.tup xs),.un,.un]= .nx [.vl (.tup xs),.ow [],.un]:=rfl;have e2:jp (Zs (vE 0)) (zl 2) (loB (S_k n 0)) [.vl (.tup xs),.ow [],.un]= .nx [.vl (.tup xs),.ow ([]++lvs xs),x']:=by
    unfold jp;rw[Zi,v0,bOk];exact el
   rw[zb (ze wC),zb e1,zb e2,bn,U7];rfl
noncomputable abbrev llB (c:List T->R T):En->RS:=zz 1 (zc zv (vE 1) (za 1 c (z9 (vE 2) (zd))))
theorem KK {xs ys:List T}(h:xs.length+ys.length<=1000000):zv (.lst xs) (.lst ys)= .ok (.lst (xs++ys)):=by
 unfold zv;dsimp only;rw[if_pos (by have hB:bnd=16777216:=rfl;omega)]
theorem YS {c:List T->R T}{n:Nat}(hn:n<=1000){a:Sl}:∀(xs:List T) (acc:List T) (x:Sl),(∀x∈xs,c [x]= .ok (.lst (lv x))/\(lv x).length<=n)->acc.length+xs.length*n<=1000000->
  ∃x',ZD (zl 2) (llB c) xs [a,.vl (.lst acc),x]= .nx [a,.vl (.lst (acc++lvs xs)),x']
 | [],acc,x,_,_=>⟨x,by rw[Wa,bA];rfl⟩
 | y :: xs,acc,x,H,hb=>by
  obtain⟨e,hl⟩:=H y aa;rw[ar,eY]at hb;obtain⟨x',h⟩:=YS hn (a:=a) xs (acc++lv y) (.vl y) (λz hz=>H z (a8 _ hz)) (by rw[aB];omega)
  refine⟨x', ?_⟩;have s2:zl 2 y [a,.vl (.lst acc),x]= .ok [a,.vl (.lst acc),.vl y]:=rfl;have b2:llB c [a,.vl (.lst acc),.vl y]= .nx [a,.vl (.lst (acc++lv y)),.vl y]:=by
   have z:zc zv (vE 1) (za 1 c (z9 (vE 2) (zd))) [a,.vl (.lst acc),.vl y]= .ok (.lst (acc++lv y)):=by rw[zf,v1,bOk,zG,v2,bOk,e,bOk,KK (by omega)]
   exact zw (i:=1) z
  rw[JQ s2 b2,h,Jy,bx]
theorem Ua:∀(n d:Nat),d < n->d<=3->∀x:T,W d x->S_m n 0 [x]= .ok (.lst (lv x))
 | 0,d,h,_,_,_=>absurd h (fj _)
 | n+1,d,h,h3,x,hx=>by
  show zi (b_m (S_m n 0) [.vl x,.un,.un])=_;rw[b_m];cases hx with
  | int d i=>
   rw[zq (by rw[ZI wC];exact zg (QH v0)),U8]
   rfl
  | str d i=>
   rw[zq (by rw[ZI wC];exact zg (QH v0)),U9]
   rfl
  | @tup d xs hl r=>
   have hp:3 ^ d<=27:=cN (n:=3) (by omega) (show d<=3 by omega)
   obtain⟨x',el⟩:=YS (c:=S_m n 0) (n:=3 ^ d) (by omega) (a:= .vl (.tup xs)) xs [] .un (λy hy=>⟨Ua n d (by omega) (by omega) y (r y hy),YQ (r y hy)⟩) (by have:=cq hl hp;simp;omega)
   have e1:zz 1 (Zt zd) [.vl (.tup xs),.un,.un]= .nx [.vl (.tup xs),.vl (.lst []),.un]:=rfl;have e2:jp (Zs (vE 0)) (zl 2) (llB (S_m n 0)) [.vl (.tup xs),.vl (.lst []),.un]= .nx [.vl (.tup xs),.vl (.lst ([]++lvs xs)),x']:=by
    unfold jp;rw[Zi,v0,bOk];exact el
   rw[zb (ze wC),zb e1,zb e2,bn,U7];rfl
theorem Zm {ft:En->R Bool}{p:T->Bool}{k:Nat}{js:List Nat}{ρ:En}{fe:En->R T}(ts:List T)(hl:ts.length<=bnd)(H:∀t∈ts,ft ((w8 k js ρ).set 0 (.vl t))= .ok (p t)/\fe ((w8 k js ρ).set 0 (.vl t))= .ok t):zp (zl 0) ft fe k js ρ ts= .ok (ts.filter p):=by
 unfold zp;rw[if_pos hl,ZE (p:=p) (h:=id) ts _ λt ht=>⟨(H t ht).1,λ_=>(H t ht).2⟩,List.map_id];rfl
noncomputable def ZA:List T->List Int
 | []=>[]
 | .int i :: r=>i :: ZA r
 | .non :: r=>ZA r
 | .bl _ :: r=>ZA r
 | .str _ :: r=>ZA r
 | .tup _ :: r=>ZA r
 | .lst _ :: r=>ZA r
 | .fz _ :: r=>ZA r
theorem JW:∀ts:List T,ts.filter isW=(ZA ts).map T.int
 | []=>rfl
 | t :: ts=>by
  have ih:=JW ts;rw[i5,ih];cases t <;> rfl
theorem ur:∀is:List Int,zV (is.map T.int)=some is
 | []=>rfl
 | i :: is=>by
  have e:zV ((i :: is).map T.int)=match zV (is.map T.int) with | some l=>some (i :: l) | none=>none:=rfl
  rw[e,ur is]
theorem Wb:∀ts:List T,(ZA ts).length<=ts.length
 | []=>ai _
 | t :: ts=>by
  have ih:=Wb ts;cases t <;> simp only[ZA,ar] <;> omega
theorem w9 {d:Nat}{x:T}(hd:d<=2)(h:W d x):(lv x).length<=9:=aq (YQ h) (cN (n:=3) (by omega) hd)
theorem UM {d:Nat}(hd:d<=2){x:T}(h:W d x):gH [x]= .ok (.lst ((ZA (lv x)).map T.int)):=by
 show zi (gG f_b (f_k 8) [.vl x])=_;have hl:=w9 hd h;have ec:zp (zl 0) (ZJ (za 1 f_b (z9 (vE 0) (zd)))) (vE 0) 1 [] [.vl x] (lv x)= .ok ((lv x).filter isW):=
  Zm _ (by have hB:bnd=16777216:=rfl;omega) λt _=>⟨by
   show ZJ _ [.vl t]=_;rw[j2,zG,v0,bOk,Jq,bOk,JL],rfl⟩
 rw[gG,zg (t:= .lst ((ZA (lv x)).map T.int))]
 ·rfl
 ·show zF _ _ _ _ _ _ [.vl x]=_;have hv:f_k 8 [x]= .ok (.lst (lv x)):=JV 8 d (by omega) (by omega) x h
  rw[zC,Zi,zG,v0,bOk,hv,bOk];show ((zp _ _ _ _ _ _ (lv x)).bind _)=_;rw[ec,bOk,JW]
noncomputable def asc (is:List Int):Bool:=(is.zip (is.drop 1)).all λq=>decide (q.1<=q.2)
theorem YT:∀(qs:List (Int×Int)) (x y:Sl),zr (zK 0 1) zN (Zh leC (vB 0) (vB 1)) (qs.map λq=>T.tup [.int q.1,.int q.2]) [x,y]= .ok (qs.map λq=>T.bl (decide (q.1<=q.2)))
 | [],_,_=>rfl
 | q :: qs,x,y=>by
  have ih:=YT qs (.vl (.int q.1)) (.vl (.int q.2));have e0:zr (zK 0 1) zN (Zh leC (vB 0) (vB 1)) ((q :: qs).map λq=>T.tup [.int q.1,.int q.2]) [x,y]=
   (R.ok (T.bl (decide (q.1<=q.2)))).bind λv=>(zr (zK 0 1) zN (Zh leC (vB 0) (vB 1)) (qs.map λq=>T.tup [.int q.1,.int q.2]) [.vl (.int q.1),.vl (.int q.2)]).bind λvs=> .ok (v :: vs):=rfl
  rw[e0,bOk,ih,bOk,az]
theorem xL (xs:List T):cut xs (some ((1:Nat):Int)) none=xs.drop 1:=by
 unfold cut;rw[HT.sIx_nat,HT.sIx_none]
 by_cases h:1<=xs.length
 ·rw[ik h,f6 (by rw[dy];omega)]
 ·have:xs=[]:=d7.mp (by omega)
  subst this;rfl
theorem YU (is:List Int)(hl:is.length<=100):gL [.lst (is.map T.int)]= .ok (.bl (asc is)):=by
 show zi (gK [.vl (.lst (is.map T.int))])=_;have hz:yO (vE 0) (slE (vE 0) (jT (cE (.int 1))) (noO)) [.vl (.lst (is.map T.int))]= .ok ((is.zip (is.drop 1)).map λq=>T.tup [.int q.1,.int q.2]):=by
  show R.ok (yN (is.map T.int) (cut (is.map T.int) (some ((1:Nat):Int)) none))=_;rw[xL,← List.map_drop];unfold yN;rw[List.zip_map,aX];rfl
 have ec:zp (zK 0 1) zN (Zh leC (vB 0) (vB 1)) 2 [] [.vl (.lst (is.map T.int))] ((is.zip (is.drop 1)).map λq=>T.tup [.int q.1,.int q.2])= .ok ((is.zip (is.drop 1)).map λq=>T.bl (decide (q.1<=q.2))):=by
  unfold zp;rw[if_pos (by rw[xqz,d5];have hB:bnd=16777216:=rfl;omega)]
  show quiet (zr _ _ _ _ [.un,.un])=_;rw[YT];rfl
 rw[gK,zg (t:= .bl (asc is))]
 ·rfl
 ·show ap1 qJ _ [.vl (.lst (is.map T.int))]=_;rw[Zf,zC,hz,bOk,ec,bOk,bOk];show (match Wz _ with | some k=>R.ok (T.bl k) | none=> .bad)=_
  rw[W9 (λq:Int×Int=>decide (q.1<=q.2))];rfl
theorem Zp (x y:Int)(r:List Int):asc (x :: y :: r)=(decide (x<=y) && asc (y :: r)):=by
 unfold asc;rw[cX,dh,dR,bq,cX,dh]
theorem YV (x:Int):∀l:List Int,asc l=true->asc (uh x l)=true/\∀y,(∀z∈l,y<=z)->y<=x->∀z∈uh x l,y<=z
 | [],_=>⟨rfl,λy _ h z hz=>by rw[uh]at hz;rw[aA.mp hz];exact h⟩
 | [a],_=>by
  rw[uh];split
  ·rename_i h;exact⟨by rw[Zp,decide_eq_true h];rfl,λy h1 h2 z hz=>by
    rcases ah.mp hz with rfl | hz
    ·exact h2
    ·exact h1 z hz⟩
  ·rename_i h;rw[uh];exact⟨by rw[Zp,decide_eq_true (by omega)];rfl,λy h1 h2 z hz=>by
    rcases ah.mp hz with rfl | hz
    ·exact h1 _ aa
    ·rw[aA.mp hz];exact h2⟩
 | a :: b :: r,h=>by
  rw[Zp,ac,decide_eq_true_eq]at h;obtain⟨ih1,ih2⟩:=YV x (b :: r) h.2;rw[uh];split
  ·rename_i hx;exact⟨by rw[Zp,decide_eq_true hx,Zp,decide_eq_true h.1,h.2];rfl,λy h1 h2 z hz=>by
    rcases ah.mp hz with rfl | hz
    ·exact h2
    ·exact h1 z hz⟩
  ·rename_i hx;refine⟨?_,λy h1 h2 z hz=>by
    rcases ah.mp hz with rfl | hz
    ·exact h1 _ aa
    ·exact ih2 y (λw hw=>h1 w (a8 _ hw)) h2 z hz⟩
   rw[uh]at ih1 ⊢;split
   ·rename_i hb;rw[if_pos hb]at ih1;rw[Zp,decide_eq_true (by omega),ih1];rfl
   ·rename_i hb;rw[if_neg hb]at ih1;rw[Zp,decide_eq_true h.1,ih1];rfl
theorem YW:∀l:List Int,asc (UA l)=true
 | []=>rfl
 | x :: l=>by rw[UA];exact(YV x _ (YW l)).1
theorem YX:∀l:List Int,asc l=true->UA l=l
 | [],_=>rfl
 | [x],_=>rfl
 | x :: y :: r,h=>by
  rw[Zp,ac,decide_eq_true_eq]at h;rw[UA,YX (y :: r) h.2,uh,if_pos h.1]
theorem Ub {n:Nat}:∀xs ys:List Int,∃b,eqL (eqF n) (xs.map T.int) (ys.map T.int)=some b/\(b=true↔xs=ys)
 | [],[]=>⟨true,rfl,by simp⟩
 | [],y :: ys=>⟨false,rfl,by simp⟩
 | x :: xs,[]=>⟨false,rfl,by simp⟩
 | x :: xs,y :: ys=>by
  obtain⟨b,e,h⟩:=Ub (n:=n) xs ys;have e0:eqL (eqF n) ((x :: xs).map T.int) ((y :: ys).map T.int)=match eqF n (.int x) (.int y) with
   | none=>none
   | some b=>match eqL (eqF n) (xs.map T.int) (ys.map T.int) with
    | none=>none
    | some c=>some (b && c):=rfl
  have e1:eqF n (.int x) (.int y)=some (x == y):=by cases n <;> rfl
  refine⟨(x == y) && b,by rw[e0,e1,e], ?_⟩
  rw[ac,beq_iff_eq,h,il]
theorem YY (is:List Int):eqC (.lst (is.map T.int)) (.lst ((UA is).map T.int))= .ok (asc is):=by
 obtain⟨b,e,h⟩:=Ub (n:=29) is (UA is);have e0:eqF 30 (.lst (is.map T.int)) (.lst ((UA is).map T.int))=some b:=e;unfold eqC;rw[e0];show R.ok b=_;congr 1
 cases hb:b with
 | true=>
  have:=h.mp hb;rw[this];exact(YW is).symm
 | false=>
  cases ha:asc is with
  | false=>rfl
  | true=>rw[hb]at h;exact absurd (h.mpr (YX is ha).symm) ax
theorem Y6 (is:List Int)(hl:is.length<=60):Qy (.lst (is.map T.int))= .ok (.lst ((UA is).map T.int)):=by
 unfold Qy;dsimp only;rw[ur];dsimp only;rw[if_pos (by rw[xqz];omega)]
theorem KL (is:List Int):Qq (.lst (is.map T.int))= .ok (.int is.sum):=by
 unfold Qq;dsimp only;rw[ur]
noncomputable def inB (xs:List T)(x:T):Bool:=(jo (λy=>eqF 30 y x) xs).getD false
theorem KM {xs:List T}(x:T)(h:∀y∈xs,Pl 30 y):jo (λy=>eqF 30 y x) xs=some (inB xs x):=by
 obtain⟨b,e,_⟩:=WV (f:=λy=>eqF 30 y x) xs λt ht=>Jx 30 t x (h t ht);unfold inB;rw[e];rfl
theorem W.pl {d:Nat}{x:T}(h:W d x):Pl (d+1) x:=by
 induction h with
 | int d i=>exact trivial
 | str d i=>exact trivial
 | @tup d xs h r ih=>exact ih
theorem W.pl30 {d:Nat}{x:T}(h:W d x)(hd:d<=2):Pl 30 x:=h.pl.le (by omega)
noncomputable def Z5:T->List T
 | .tup xs=>xs
 | .non=>[.non]
 | .bl b=>[.bl b]
 | .int b=>[.int b]
 | .str b=>[.str b]
 | .lst b=>[.lst b]
 | .fz b=>[.fz b]
theorem xM {d:Nat}{x:T}(h:W d x):gJ [x]= .ok (.tup (Z5 x)):=by cases h <;> rfl
theorem WW {d:Nat}{x:T}(h:W d x):(Z5 x).length<=3:=by
 cases h with
 | int=>exact(by decide:1<=3)
 | str=>exact(by decide:1<=3)
 | tup h _=>exact h
theorem Uc {d:Nat}{x:T}(h:W d x)(hd:d<=2):∀y∈Z5 x,Pl 30 y:=by
 cases h with
 | int=>intro y hy;rw[aA.mp hy];exact trivial
 | str=>intro y hy;rw[aA.mp hy];exact trivial
 | @tup d xs h r=>intro y hy;exact(r y hy).pl30 (by omega)
noncomputable def un (ps:List T):Bool:= !(ps.zipIdx.any λp=>inB (ps.take p.2) p.1)
theorem WX {xs:List T}{k:Nat}:slT (.tup xs) none (some (k:Int))= .ok (.tup (xs.take k)):=by
 show R.ok (T.tup (cut xs none (some (k:Int))))=_;have:cut xs none (some (k:Int))=xs.take k:=by
  unfold cut;rw[HT.sIx_none,HT.sIx_nat];simp only[dh,Nat.sub_zero];rw[List.take_eq_take_iff];omega
 rw[this]
theorem YZ {ps:List T}(h:∀y∈ps,Pl 30 y)(k:Nat)(x:T):inC x (.tup (ps.take k))= .ok (inB (ps.take k) x):=by
 show (match jo (λy=>eqF 30 y x) (ps.take k) with | some b=>R.ok b | none=> .bad)=_
 rw[KM x λy hy=>h y (fH hy)]
noncomputable abbrev ulE:En->R T:=Zh inC (vB 1) (slE (vE 2) (noO) (jT (vE 0)))
theorem qa {ps:List T}(h:∀y∈ps,Pl 30 y):∀(qs:List (T×Nat)) (x y:Sl),zr (zK 0 1) zN ulE (qs.map λp=>T.tup [.int (p.2:Nat),p.1]) [x,y,.vl (.tup ps)]= .ok (qs.map λp=>T.bl (inB (ps.take p.2) p.1))
 | [],_,_=>rfl
 | q :: qs,x,y=>by
  have ih:=qa h qs (.vl (.int (q.2:Nat))) (.vl q.1);have e:ulE [.vl (.int (q.2:Nat)),.vl q.1,.vl (.tup ps)]= .ok (.bl (inB (ps.take q.2) q.1)):=by
   have e2:slE (vE 2) noO (jT (vE 0)) [.vl (.int (q.2:Nat)),.vl q.1,.vl (.tup ps)]=slT (.tup ps) none (some (q.2:Int)):=rfl;unfold ulE;rw[Z4,w1,bOk,e2,WX,bOk,YZ h,bOk]
  have e0:zr (zK 0 1) zN ulE ((q :: qs).map λp=>T.tup [.int (p.2:Nat),p.1]) [x,y,.vl (.tup ps)]=
   (ulE [.vl (.int (q.2:Nat)),.vl q.1,.vl (.tup ps)]).bind λv=>(zr (zK 0 1) zN ulE (qs.map λp=>T.tup [.int (p.2:Nat),p.1]) [.vl (.int (q.2:Nat)),.vl q.1,.vl (.tup ps)]).bind λvs=> .ok (v :: vs):=rfl
  rw[e0,e,bOk,ih,bOk,az]
theorem WY {α:Type}(p:α->Bool):∀qs:List α,wd (qs.map λq=>T.bl (p q))=some (qs.any p)
 | []=>rfl
 | q :: qs=>by
  have e:wd ((q :: qs).map λq=>T.bl (p q))=match wd (qs.map λq=>T.bl (p q)) with | some j=>some (p q || j) | none=>none:=rfl
  rw[e,WY p qs];rfl
theorem qb {ps:List T}(h:∀y∈ps,Pl 30 y)(hl:ps.length<=100):gN [.tup ps]= .ok (.bl (un ps)):=by
 show zi (gM [.vl (.tup ps)])=_;have ec:zp (zK 0 1) zN ulE 2 [0] [.vl (.tup ps)] (jq ps)= .ok (ps.zipIdx.map λp=>T.bl (inB (ps.take p.2) p.1)):=by
  unfold zp;rw[if_pos (by unfold jq;rw[xqz,fR];have hB:bnd=16777216:=rfl;omega)]
  show quiet (zr _ _ _ _ [.un,.un,.vl (.tup ps)])=_;unfold jq;rw[qa h];rfl
 rw[gM,zg (t:= .bl (un ps))]
 ·rfl
 ·have e1:zF (uN (vE 0)) (zK 0 1) zN ulE 2 [0] [.vl (.tup ps)]= .ok (.lst (ps.zipIdx.map λp=>T.bl (inB (ps.take p.2) p.1))):=by
   rw[zC];show ((R.ok (jq ps)).bind _)=_;rw[bOk,ec,bOk]
  have e2:ap1 z0j (zF (uN (vE 0)) (zK 0 1) zN ulE 2 [0]) [.vl (.tup ps)]= .ok (.bl (ps.zipIdx.any λp=>inB (ps.take p.2) p.1)):=by
   rw[Zf,e1,bOk];show (match wd _ with | some k=>R.ok (T.bl k) | none=> .bad)=_
   rw[WY (λp:T×Nat=>inB (ps.take p.2) p.1)]
  show qI _ [.vl (.tup ps)]=_;unfold qI;rw[e2,bOk];rfl
theorem QZ {ps:List T}(h:∀y∈ps,Pl 30 y)(hl:ps.length<=100){a b c:Sl}{ρ:En}:∃r,zp (zl 0) (zh inC (zc ixT (vE 1) (vE 0)) (slE (vE 1) (noO) (jT (vE 0)))) (vE 0) 1 [3] (a :: b :: c :: .vl (.tup ps) :: ρ) (rng 0 ps.length)= .ok r/\r.isEmpty=un ps:=by
 let p:T->Bool:=λt=>match t with
  | .int i=>match ps[i.toNat]? with | some w=>inB (ps.take i.toNat) w | none=>false
  | _=>false
 refine⟨(rng 0 ps.length).filter p,Zm _ (by unfold rng;rw[xqz,bp];have hB:bnd=16777216:=rfl;omega) λt ht=> ?_, ?_⟩
 ·unfold rng at ht;obtain⟨k,hk,rfl⟩:=au.mp ht;have hk' :k < ps.length:=aR.mp hk;refine⟨?_,rfl⟩;show zh inC (zc ixT (vE 1) (vE 0)) (slE (vE 1) noO (jT (vE 0))) [.vl (.int (0+(k:Int))),.vl (.tup ps)]=_;rw[show (0:Int)+(k:Int)=(k:Int) by omega]
  have e1:ixT (.tup ps) (.int k)= .ok ps[k]:=by
   show atT ps k=_;unfold atT;rw[ZV (a9 hk')]
  have e2:slE (vE 1) noO (jT (vE 0)) [.vl (.int (k:Int)),.vl (.tup ps)]=slT (.tup ps) none (some (k:Int)):=rfl;rw[zu,zf,v1,bOk,v0,bOk,e1,bOk,e2,WX,bOk,YZ h];show _=R.ok (match ps[((k:Int)).toNat]? with | some w=>inB (ps.take ((k:Int)).toNat) w | none=>false)
  rw[aT,a9 hk']
 ·rw[bM,List.isEmpty_iff,List.filter_eq_nil_iff];unfold un;rw[Bool.not_eq_true',fS];constructor
  ·intro H q hq;obtain⟨x,k⟩:=q;have hk:=List.mem_zipIdx' hq;have:=H (.int (0+(k:Int))) (by unfold rng;exact au.mpr ⟨k,aR.mpr hk.1,rfl⟩)
   intro hb;apply this
   show (match ps[((0:Int)+(k:Int)).toNat]? with | some w=>inB (ps.take ((0:Int)+(k:Int)).toNat) w | none=>false)=true
   rw[show ((0:Int)+(k:Int)).toNat=k by omega,a9 hk.1,← hk.2]
   exact hb
  ·intro H t ht hb;unfold rng at ht;obtain⟨k,hk,rfl⟩:=au.mp ht;have hk' :k < ps.length:=aR.mp hk;have hb:(match ps[((0:Int)+(k:Int)).toNat]? with | some w=>inB (ps.take ((0:Int)+(k:Int)).toNat) w | none=>false)=true:=hb
   rw[show ((0:Int)+(k:Int)).toNat=k by omega,a9 hk']at hb
   exact H (ps[k],k) (List.mk_mem_zipIdx_iff_getElem?.mpr (a9 hk')) hb
noncomputable def qQ (w:Str):T->Bool
 | .str x=>x == w
 | _=>false
theorem KN (w:Str)(n:Nat):∀t:T,eqF n t (.str w)=some (qQ w t)
 | .str x=>by cases n <;> rfl
 | .non=>by cases n <;> rfl
 | .bl _=>by cases n <;> rfl
 | .int _=>by cases n <;> rfl
 | .tup _=>by cases n <;> rfl
 | .lst _=>by cases n <;> rfl
 | .fz _=>by cases n <;> rfl
theorem qc (w:Str):∀ts:List T,jo (λy=>eqF 30 y (.str w)) ts=some (ts.any (qQ w))
 | []=>rfl
 | t :: ts=>by
  have e:jo (λy=>eqF 30 y (.str w)) (t :: ts)=match eqF 30 t (.str w) with
   | none=>none
   | some b=>match jo (λy=>eqF 30 y (.str w)) ts with
    | none=>none
    | some d=>some (b || d):=rfl
  rw[e,KN,qc w ts];rfl
theorem xN (w:Str)(ts:List T):(ts.filter (qQ w)).isEmpty= !(ts.any (qQ w)):=by
 induction ts with
 | nil=>rfl
 | cons t ts ih=>
  rw[i5,eC];cases qQ w t with
  | true=>rfl
  | false=>rw[if_neg ax,ih,Bool.false_or]
inductive Ru where
 | sum (a b:Int) | size (a b:Int) | word (w:Str) | rising | unlike | no (r:Ru) | all (r s:Ru) | some (r s:Ru)
noncomputable def Ru.t:Ru->T
 | .sum a b=> .tup [.str "sum",.int a,.int b]
 | .size a b=> .tup [.str "size",.int a,.int b]
 | .word w=> .tup [.str "word",.str w]
 | .rising=> .tup [.str "rising"]
 | .unlike=> .tup [.str "unlike"]
 | .no r=> .tup [.str "no",r.t]
 | .all r s=> .tup [.str "all",r.t,s.t]
 | .some r s=> .tup [.str "some",r.t,s.t]
inductive jL:Nat->Ru->Prop where
 | sum {d:Nat} {a b:Int} (ha: -50<=a/\a<=50) (hb: -50<=b/\b<=50):jL (d+1) (.sum a b)
 | size {d:Nat} {a b:Int} (ha: -50<=a/\a<=50) (hb: -50<=b/\b<=50):jL (d+1) (.size a b)
 | word {d:Nat} {w:Str} (h:Ze (.str w)=true):jL (d+1) (.word w)
 | rising {d:Nat}:jL (d+1) .rising
 | unlike {d:Nat}:jL (d+1) .unlike
 | no {d:Nat} {r:Ru} (h:jL d r):jL (d+1) (.no r)
 | all {d:Nat} {r s:Ru} (h:jL d r) (h' :jL d s):jL (d+1) (.all r s)
 | some {d:Nat} {r s:Ru} (h:jL d r) (h' :jL d s):jL (d+1) (.some r s)
theorem jL.up {d:Nat}{r:Ru}(h:jL d r):jL (d+1) r:=by
 induction h with
 | sum ha hb=>exact .sum ha hb
 | size ha hb=>exact .size ha hb
 | word h=>exact .word h
 | rising=>exact .rising
 | unlike=>exact .unlike
 | no h ih=>exact .no ih
 | all h h' ih ih' =>exact .all ih ih'
 | some h h' ih ih' =>exact .some ih ih'
noncomputable def kp:Ru->T->Bool
 | .sum a b,x=>decide (a<=(ZA (lv x)).sum) && decide ((ZA (lv x)).sum<=b)
 | .size a b,x=>decide (a<=((Z5 x).length:Int)) && decide (((Z5 x).length:Int)<=b)
 | .word w,x=>(lv x).any (qQ w)
 | .rising,x=>asc (ZA (lv x))
 | .unlike,x=>un (Z5 x)
 | .no r,x=> !kp r x
 | .all r s,x=>kp r x && kp s x
 | .some r s,x=>kp r x || kp s x
theorem Jz {i:Int}(h: -50<=i/\i<=50):gA [.int i]= .ok (.bl true):=by
 show zi (gz f_b [.vl (.int i)])=_;rw[gz,zg (t:= .bl true)]
 ·rfl
 ·show ZS _ _ [.vl (.int i)]=_;rw[jH,zG,v0,bOk,Jq,Z3,if_pos (show isW (.int i)=true from rfl),Yg,vP,zI,bOk];show ((R.ok (T.int (-50))).bind _)=_;rw[bOk,w0,bOk,Jm,decide_eq_true h.1,bOk,if_pos rfl,bOk,Jm,decide_eq_true h.2];rfl
theorem Za {x w:Str}{r:List T}{ρ:En}(b:Bool)(h:(x == w)=b):zh eqC (zc ixT (vE 0) (cE (.int 0))) (cE (.str w)) (.vl (.tup (.str x :: r)) :: ρ)= .ok b:=by rw[cs0,h]
theorem Wc {f g:En->R Bool}{ρ:En}{b:Bool}(h:f ρ= .ok false)(h' :g ρ= .ok b):orT f g ρ= .ok b:=by rw[Yi,h,bOk,if_neg ax,h']
theorem z0w {f g:En->R Bool}{ρ:En}(h:f ρ= .ok true):orT f g ρ= .ok true:=by rw[Yi,h,bOk,if_pos rfl]
theorem wg {f g:En->R T}{ρ:En}{r:R T}(h:f ρ= .ok (.bl true))(h' :g ρ=r):ZS f g ρ=r:=by rw[jH,h,Z3,if_pos rfl,h']
theorem V0 {xs:List T}{ρ:En}{n:Int}(h:((xs.length:Int) == n)=true):Zh eqC (ap1 zY (vB 0)) (cE (.int n)) (.vl (.tup xs) :: ρ)= .ok (.bl true):=by
 rw[Z4,Zf,w0,bOk,j1,bOk,zI,bOk,eqI,h,bOk]
theorem j5 {xs:List T}{d:Nat}{x:T}:orT (zh eqC (vB 1) (cE (.int 0))) (orT (Jj (ZJ (ap1 (wO "tuple") (vB 0)))) (zh eqC (ap1 zY (vB 0)) (cE (.int 0)))) (en2 (.tup (x :: xs)) (.int ((d+1:Nat):Int)))= .ok false:=by
 refine Wc ?_ (Wc ?_ ?_)
 ·rw[zu,w1,bOk,zI,bOk,eqI,beq_eq_false_iff_ne.mpr (by omega)]
 ·rw[Je,j2,Zf,w0,bOk,Yn,bOk,JL,bOk];rfl
 ·rw[zu,Zf,w0,bOk,j1,bOk,zI,bOk,eqI,beq_eq_false_iff_ne.mpr (by rw[ar];omega)]
theorem v6 {w:Str}(h:Ze (.str w)=true):xx (.str w):=by
 have h:(decide (1<=w.length) && decide (w.length<=3) && w.cps.toList.all Z8)=true:=h;simp only[ac,decide_eq_true_eq]at h;show w.length<=bnd;exact aq h.1.2 (by decide)
theorem jX:∀(n d:Nat),d<=n->∀r:Ru,jL d r->S_p n 0 [r.t,.int (d:Int)]= .ok (.bl true)
 | 0,d,h,r,hr=>by
  have:d=0:=by omega
  subst this;cases hr
 | n+1,d,h,r,hr=>by
  show zi (b_p f_t (S_p n 0) gA (en2 r.t (.int (d:Int))))=_;rw[b_p];cases hr with
  | @sum d a b ha hb=>
   rw[Ru.t,zb (ze j5),zq (t:= .bl true)]
   ·rfl
   ·rw[ZI (z0w (Za true (by decide)))]
    exact zg (wg (V0 rfl) (wg (by show za 1 _ _ (en2 _ _)=_;rw[zG,ZK,bOk,Jz ha]) (by show za 1 _ _ (en2 _ _)=_;rw[zG,wa,bOk,Jz hb])))
  | @size d a b ha hb=>
   rw[Ru.t,zb (ze j5),zq (t:= .bl true)]
   ·rfl
   ·rw[ZI (Wc (Za false (by decide)) (Za true (by decide)))]
    exact zg (wg (V0 rfl) (wg (by show za 1 _ _ (en2 _ _)=_;rw[zG,ZK,bOk,Jz ha]) (by show za 1 _ _ (en2 _ _)=_;rw[zG,wa,bOk,Jz hb])))
  | @word d w hw=>
   rw[Ru.t,zb (ze j5),zb (ze (Wc (Za false (by decide)) (Za false (by decide)))),zq (t:= .bl true)]
   ·rfl
   ·rw[ZI (Za true (by decide))]
    exact zg (wg (V0 rfl) (by show za 1 _ _ (en2 _ _)=_;rw[zG,ZK,bOk,Yf _ (v6 hw),hw]))
  | rising=>
   rw[Ru.t,zb (ze j5),zb (ze (Wc (Za false (by decide)) (Za false (by decide)))),zb (ze (Za false (by decide))),zq (t:= .bl true)]
   ·rfl
   ·rw[ZI (z0w (Za true (by decide)))]
    exact zg (V0 rfl)
  | unlike=>
   rw[Ru.t,zb (ze j5),zb (ze (Wc (Za false (by decide)) (Za false (by decide)))),zb (ze (Za false (by decide))),zq (t:= .bl true)]
   ·rfl
   ·rw[ZI (Wc (Za false (by decide)) (Za true (by decide)))]
    exact zg (V0 rfl)
  | @no d r hr=>
   have ih:=jX n d (by omega) r hr
   rw[Ru.t,zb (ze j5),zb (ze (Wc (Za false (by decide)) (Za false (by decide)))),zb (ze (Za false (by decide))),zb (ze (Wc (Za false (by decide)) (Za false (by decide)))),zq (t:= .bl true)]
   ·rfl
   ·rw[ZI (Za true (by decide))]
    exact zg (wg (V0 rfl) (by show za 2 _ _ (en2 _ _)=_;rw[zt,ZK,bOk,zf,v1,bOk,zI,bOk,Zg,bOk,show ((d+1:Nat):Int) - 1=(d:Int) by omega,ih]))
  | @all d r s hr hs=>
   have ih:=jX n d (by omega) r hr
   have ih' :=jX n d (by omega) s hs
   rw[Ru.t,zb (ze j5),zb (ze (Wc (Za false (by decide)) (Za false (by decide)))),zb (ze (Za false (by decide))),zb (ze (Wc (Za false (by decide)) (Za false (by decide)))),zb (ze (Za false (by decide))),zq (t:= .bl true)]
   ·rfl
   ·rw[ZI (z0w (Za true (by decide)))]
    exact zg (wg (V0 rfl) (wg (by show za 2 _ _ (en2 _ _)=_;rw[zt,ZK,bOk,zf,v1,bOk,zI,bOk,Zg,bOk,show ((d+1:Nat):Int) - 1=(d:Int) by omega,ih]) (by show za 2 _ _ (en2 _ _)=_;rw[zt,wa,bOk,zf,v1,bOk,zI,bOk,Zg,bOk,show ((d+1:Nat):Int) - 1=(d:Int) by omega,ih'])))
  | @some d r s hr hs=>
   have ih:=jX n d (by omega) r hr
   have ih' :=jX n d (by omega) s hs
   rw[Ru.t,zb (ze j5),zb (ze (Wc (Za false (by decide)) (Za false (by decide)))),zb (ze (Za false (by decide))),zb (ze (Wc (Za false (by decide)) (Za false (by decide)))),zb (ze (Za false (by decide))),zq (t:= .bl true)]
   ·rfl
   ·rw[ZI (Wc (Za false (by decide)) (Za true (by decide)))]
    exact zg (wg (V0 rfl) (wg (by show za 2 _ _ (en2 _ _)=_;rw[zt,ZK,bOk,zf,v1,bOk,zI,bOk,Zg,bOk,show ((d+1:Nat):Int) - 1=(d:Int) by omega,ih]) (by show za 2 _ _ (en2 _ _)=_;rw[zt,wa,bOk,zf,v1,bOk,zI,bOk,Zg,bOk,show ((d+1:Nat):Int) - 1=(d:Int) by omega,ih'])))
theorem KO {f g h:En->R T}{ρ:En}{i j k:Int}(hf:f ρ= .ok (.int i))(hg:g ρ= .ok (.int j))(hh:h ρ= .ok (.int k)):chE leC leC f g h ρ= .ok (.bl (decide (i<=j) && decide (j<=k))):=by
 rw[Yg,hf,bOk,hg,bOk,Jm,bOk];cases decide (i<=j) with
 | true=>rw[if_pos rfl,hh,bOk,Jm,bOk,cf]
 | false=>rw[if_neg ax,Bool.false_and]
theorem qd {r:Ru}{x:T}{d:Nat}(hd:d<=2)(h:W d x)(b:Bool)(hr:(match r with | .no _=>False | .all _ _=>False | .some _ _=>False | _=>True)):Kh [r.t,x]= .ok (.bl (kp r x)):=by
 have hn:=UM hd h;have hp:=xM h;have hv:f_k 8 [x]= .ok (.lst (lv x)):=JV 8 d (by omega) (by omega) x h
 have hi:(ZA (lv x)).length<=9:=aq (Wb _) (w9 hd h);show zi (gO gJ (f_k 8) gH gL gN (en2 r.t x))=_;rw[gO];cases r with
 | sum a b=>
  rw[Ru.t,zq (t:= .bl (kp (.sum a b) x))]
  ·rfl
  ·rw[ZI (Za true (by decide))]
   refine zg ?_;show chE _ _ _ _ _ (en2 _ x)=_;exact KO ZK (by rw[Zf,zG,v1,bOk,hn,bOk,KL]) wa
 | size a b=>
  rw[Ru.t,zb (ze (Za false (by decide))),zq (t:= .bl (kp (.size a b) x))]
  ·rfl
  ·rw[ZI (Za true (by decide))]
   refine zg ?_;show chE _ _ _ _ _ (en2 _ x)=_;exact KO ZK (by rw[Zf,zG,v1,bOk,hp,bOk,j1]) wa
 | word w=>
  rw[Ru.t,zb (ze (Za false (by decide))),zb (ze (Za false (by decide))),zq (t:= .bl (kp (.word w) x))]
  ·rfl
  ·rw[ZI (Za true (by decide))]
   refine zg ?_;show Zh _ _ _ (en2 _ x)=_;rw[Z4,ZK,bOk,zG,v1,bOk,hv,bOk];show ((match jo (λy=>eqF 30 y (.str w)) (lv x) with | some b=>R.ok b | none=> .bad).bind _)=_
   rw[qc];rfl
 | rising=>
  rw[Ru.t,zb (ze (Za false (by decide))),zb (ze (Za false (by decide))),zb (ze (Za false (by decide))),zq (t:= .bl (kp .rising x))]
  ·rfl
  ·rw[ZI (Za true (by decide))]
   refine zg ?_;show za 1 _ _ (en2 _ x)=_;rw[zG,zG,v1,bOk,hn,bOk,YU _ (by omega)]
   rfl
 | unlike=>
  rw[Ru.t,zb (ze (Za false (by decide))),zb (ze (Za false (by decide))),zb (ze (Za false (by decide))),zb (ze (Za false (by decide))),zg (t:= .bl (kp .unlike x))]
  ·rfl
  ·show za 1 _ _ (en2 _ x)=_;rw[zG,zG,v1,bOk,hp,bOk,qb (Uc h hd) (aq (WW h) (by omega))]
   rfl
 | no=>exact hr.elim
 | all=>exact hr.elim
 | some=>exact hr.elim
theorem qe {f:En->R T}{ρ:En}{b:Bool}(h:f ρ= .ok (.bl b)):qI f ρ= .ok (.bl (!b)):=by unfold qI;rw[h];rfl
theorem Wd {f g:En->R T}{ρ:En}{a b:Bool}(h:f ρ= .ok (.bl a))(h' :g ρ= .ok (.bl b)):ZS f g ρ= .ok (.bl (a && b)):=by
 rw[jH,h,h',Z3];cases a <;> rfl
theorem V1 {f g:En->R T}{ρ:En}{a b:Bool}(h:f ρ= .ok (.bl a))(h' :g ρ= .ok (.bl b)):orE f g ρ= .ok (.bl (a || b)):=by
 unfold orE;rw[h,bOk];cases a with
 | true=>rfl
 | false=>exact h'
theorem jY {x:T}{e:Nat}(he:e<=2)(hx:W e x):∀(n d:Nat),d<=n->∀r:Ru,jL d r->S_c n 0 [r.t,x]= .ok (.bl (kp r x))
 | 0,d,h,r,hr=>by
  have:d=0:=by omega
  subst this;cases hr
 | n+1,d,h,r,hr=>by
  show zi (b_c (S_c n 0) Kh (en2 r.t x))=_;rw[b_c];have fin:∀(r:Ru) (s:Str) (q:List T),r.t= .tup (.str s :: q)->(s == "no")=false->(s == "all")=false->(s == "some")=false->(match r with | .no _=>False | .all _ _=>False | .some _ _=>False | _=>True)->
    zi (zj (ifS (zh eqC (zc ixT (vE 0) (cE (.int 0))) (cE (.str "no"))) (zo (qI (za 2 (S_c n 0) (z9 (zc ixT (vE 0) (cE (.int 1))) (z9 (vE 1) (zd)))))) (nxS))
  (zj (ifS (zh eqC (zc ixT (vE 0) (cE (.int 0))) (cE (.str "all"))) (zo (ZS (za 2 (S_c n 0) (z9 (zc ixT (vE 0) (cE (.int 1))) (z9 (vE 1) (zd)))) (za 2 (S_c n 0) (z9 (zc ixT (vE 0) (cE (.int 2))) (z9 (vE 1) (zd)))))) (nxS))
  (zj (ifS (zh eqC (zc ixT (vE 0) (cE (.int 0))) (cE (.str "some"))) (zo (orE (za 2 (S_c n 0) (z9 (zc ixT (vE 0) (cE (.int 1))) (z9 (vE 1) (zd)))) (za 2 (S_c n 0) (z9 (zc ixT (vE 0) (cE (.int 2))) (z9 (vE 1) (zd)))))) (nxS))
  (zo (za 2 Kh (z9 (vE 0) (z9 (vE 1) (zd))))))) (en2 r.t x))= .ok (.bl (kp r x)):=by
   intro r s q e h1 h2 h3 hm;have hs:=qd he hx true hm;rw[e]at hs ⊢;rw[zb (ze (Za false h1)),zb (ze (Za false h2)),zb (ze (Za false h3)),zg (t:= .bl (kp r x))]
   ·rfl
   ·show za 2 _ _ (en2 _ x)=_;rw[zt,v0,bOk,v1,bOk,hs]
  cases hr with
  | @sum d a b ha hb=>exact fin (.sum a b) "sum" _ rfl (by decide) (by decide) (by decide) trivial
  | @size d a b ha hb=>exact fin (.size a b) "size" _ rfl (by decide) (by decide) (by decide) trivial
  | @word d w hw=>exact fin (.word w) "word" _ rfl (by decide) (by decide) (by decide) trivial
  | rising=>exact fin .rising "rising" _ rfl (by decide) (by decide) (by decide) trivial
  | unlike=>exact fin .unlike "unlike" _ rfl (by decide) (by decide) (by decide) trivial
  | @no d r hr=>
   have ih:=jY he hx n d (by omega) r hr
   rw[Ru.t,zq (t:= .bl (kp (.no r) x))]
   ·rfl
   ·rw[ZI (Za true (by decide))]
    exact zg (qe (by show za 2 _ _ (en2 _ x)=_;rw[zt,ZK,bOk,v1,bOk,ih]))
  | @all d r s hr hs=>
   have ih:=jY he hx n d (by omega) r hr
   have ih' :=jY he hx n d (by omega) s hs
   rw[Ru.t,zb (ze (Za false (by decide))),zq (t:= .bl (kp (.all r s) x))]
   ·rfl
   ·rw[ZI (Za true (by decide))]
    exact zg (Wd (by show za 2 _ _ (en2 _ x)=_;rw[zt,ZK,bOk,v1,bOk,ih]) (by show za 2 _ _ (en2 _ x)=_;rw[zt,wa,bOk,v1,bOk,ih']))
  | @some d r s hr hs=>
   have ih:=jY he hx n d (by omega) r hr
   have ih' :=jY he hx n d (by omega) s hs
   rw[Ru.t,zb (ze (Za false (by decide))),zb (ze (Za false (by decide))),zq (t:= .bl (kp (.some r s) x))]
   ·rfl
   ·rw[ZI (Za true (by decide))]
    exact zg (V1 (by show za 2 _ _ (en2 _ x)=_;rw[zt,ZK,bOk,v1,bOk,ih]) (by show za 2 _ _ (en2 _ x)=_;rw[zt,wa,bOk,v1,bOk,ih']))
noncomputable abbrev lk (r x a b:T):En:=[.vl r,.vl x,.vl a,.vl b,.un,.un,.un]
theorem lk0 {x w:Str}{r:List T}{y a b:T}(c:Bool)(h:(x == w)=c):zh eqC (zc ixT (vE 0) (cE (.int 0))) (cE (.str w)) (lk (.tup (.str x :: r)) y a b)= .ok c:=Za c h
theorem Ud {r x a b:T}{z:Sl}:∀(is:List Int) (m:Int) (y:Sl),∃y',ZD (zl 5) (zz 4 (zc zv (vE 4) (vE 5))) (is.map T.int) [.vl r,.vl x,.vl a,.vl b,.vl (.int m),y,z]= .nx [.vl r,.vl x,.vl a,.vl b,.vl (.int (m+is.sum)),y',z]
 | [],m,y=>⟨y,by rw[List.sum_nil,Int.add_zero];rfl⟩
 | i :: is,m,y=>by
  obtain⟨y',h⟩:=Ud (r:=r) (x:=x) (a:=a) (b:=b) (z:=z) is (m+i) (.vl (.int i));refine⟨y', ?_⟩;have s2:zl 5 (.int i) [.vl r,.vl x,.vl a,.vl b,.vl (.int m),y,z]= .ok [.vl r,.vl x,.vl a,.vl b,.vl (.int m),.vl (.int i),z]:=rfl;have b2:zz 4 (zc zv (vE 4) (vE 5)) [.vl r,.vl x,.vl a,.vl b,.vl (.int m),.vl (.int i),z]= .nx [.vl r,.vl x,.vl a,.vl b,.vl (.int (m+i)),.vl (.int i),z]:=rfl;rw[az,JQ s2 b2,h,d3,Int.add_assoc]
theorem z0x {f g:En->R T}{ρ:En}{i j:Int}(hf:f ρ= .ok (.int i))(hg:g ρ= .ok (.int j)):Zh leC f g ρ= .ok (.bl (decide (i<=j))):=by rw[Z4,hf,bOk,hg,bOk,Jm,bOk]
theorem ge_E {f g:En->R T}{ρ:En}{i j:Int}(hf:f ρ= .ok (.int i))(hg:g ρ= .ok (.int j)):Zh geC f g ρ= .ok (.bl (decide (j<=i))):=by
 rw[Z4,hf,bOk,hg,bOk];rfl
theorem WZ {r x a b:T}:frz (lk r x a b)=lk r x a b:=rfl
theorem ZM {x:T}{e:Nat}(he:e<=2)(hx:W e x):∀(n d:Nat),d<=n->∀r:Ru,jL d r->S_a n 0 [r.t,x]= .ok (.bl (kp r x))
 | 0,d,h,r,hr=>by
  have:d=0:=by omega
  subst this;cases hr
 | n+1,d,h,r,hr=>by
  show zi (b_a (f_m 8) (S_a n 0) [.vl r.t,.vl x,.un,.un,.un,.un,.un])=_;have hv:f_m 8 [x]= .ok (.lst (lv x)):=Ua 8 e (by omega) (by omega) x hx
  have hl:=w9 he hx;have hB:bnd=16777216:=rfl;have hi:(ZA (lv x)).length<=9:=aq (Wb _) hl;have e1:zz 2 (zF (Zs (za 1 (f_m 8) (z9 (vE 1) (zd)))) (zl 0) (ZJ (ap1 (wO "int") (vB 0))) (vE 0) 1 []) [.vl r.t,.vl x,.un,.un,.un,.un,.un]= .nx [.vl r.t,.vl x,.vl (.lst ((ZA (lv x)).map T.int)),.un,.un,.un,.un]:=by
   have ec:zp (zl 0) (ZJ (ap1 (wO "int") (vB 0))) (vE 0) 1 [] [.vl r.t,.vl x,.un,.un,.un,.un,.un] (lv x)= .ok ((lv x).filter isW):=
    Zm _ (by omega) λt ht=>⟨by cases z0v hx t ht <;> rfl,rfl⟩
   rw[zw (t:= .lst ((ZA (lv x)).map T.int))]
   ·rfl
   ·rw[zC,Zi,zG,v1,bOk,hv,bOk];show ((zp _ _ _ _ _ _ (lv x)).bind _)=_;rw[ec,bOk,JW]
  have e2:zz 3 (ifE (ZJ (ap1 (wO "tuple") (vB 1))) (vE 1) (zW (z9 (vE 1) (zd)))) [.vl r.t,.vl x,.vl (.lst ((ZA (lv x)).map T.int)),.un,.un,.un,.un]= .nx (lk r.t x (.lst ((ZA (lv x)).map T.int)) (.tup (Z5 x))):=by
   cases hx <;> rfl
  rw[b_a,zb e1,zb e2];cases hr with
  | @sum d a b ha hb=>
   obtain⟨y',el⟩:=Ud (r:=(Ru.sum a b).t) (x:=x) (a:= .lst ((ZA (lv x)).map T.int)) (b:= .tup (Z5 x)) (z:= .un) (ZA (lv x)) 0 .un;rw[f7]at el;have e3:zz 4 (cE (.int 0)) (lk (Ru.sum a b).t x (.lst ((ZA (lv x)).map T.int)) (.tup (Z5 x)))= .nx [.vl (Ru.sum a b).t,.vl x,.vl (.lst ((ZA (lv x)).map T.int)),.vl (.tup (Z5 x)),.vl (.int 0),.un,.un]:=rfl;have e4:jp (Zs (vE 2)) (zl 5) (zz 4 (zc zv (vE 4) (vE 5))) [.vl (Ru.sum a b).t,.vl x,.vl (.lst ((ZA (lv x)).map T.int)),.vl (.tup (Z5 x)),.vl (.int 0),.un,.un]= .nx [.vl (Ru.sum a b).t,.vl x,.vl (.lst ((ZA (lv x)).map T.int)),.vl (.tup (Z5 x)),.vl (.int (ZA (lv x)).sum),y',.un]:=by
    unfold jp;rw[Zi,v2,bOk];exact el
   rw[zq (t:= .bl (kp (.sum a b) x))]
   ·rfl
   ·rw[ZI (by rw[Ru.t];exact lk0 true (by decide)),zb e3,zb e4,zg (t:= .bl (kp (.sum a b) x))]
    show ZS _ _ [.vl (Ru.sum a b).t,.vl x,.vl (.lst ((ZA (lv x)).map T.int)),.vl (.tup (Z5 x)),.vl (.int (ZA (lv x)).sum),GY y',.un]=_;rw[Ru.t];exact Wd (z0x ZK rfl) (z0x rfl wa)
  | @size d a b ha hb=>
   rw[Ru.t,zb (ze (lk0 false (by decide))),zq (t:= .bl (kp (.size a b) x))]
   ·rfl
   ·rw[ZI (lk0 true (by decide)),zg (t:= .bl (kp (.size a b) x))]
    rw[WZ];exact Wd (ge_E (i:=((Z5 x).length:Int)) rfl ZK) (z0x (i:=((Z5 x).length:Int)) rfl wa)
  | @word d w hw=>
   rw[Ru.t,zb (ze (lk0 false (by decide))),zb (ze (lk0 false (by decide))),zq (t:= .bl (kp (.word w) x))]
   ·rfl
   ·rw[ZI (lk0 true (by decide)),zg (t:= .bl (kp (.word w) x))]
    rw[WZ];have ec:zp (zl 0) (zh eqC (vB 0) (zc ixT (vE 1) (cE (.int 1)))) (vE 0) 1 [0] (lk (.tup [.str "word",.str w]) x (.lst ((ZA (lv x)).map T.int)) (.tup (Z5 x))) (lv x)= .ok ((lv x).filter (qQ w)):=
     Zm _ (by omega) λt ht=>⟨by
      show zh eqC (vB 0) (zc ixT (vE 1) (cE (.int 1))) [.vl t,.vl (.tup [.str "word",.str w])]=_;rw[zu,w0,bOk,zf,v1,bOk,zI,bOk,at1,bOk];unfold eqC;rw[KN],rfl⟩
    rw[Z4,zC,Zi,zG,v1,bOk,hv,bOk];show (((zp _ _ _ _ _ _ (lv x)).bind _).bind _)=_;rw[ec,bOk,bOk,show Zt zd (lk (.tup [.str "word",.str w]) x (.lst ((ZA (lv x)).map T.int)) (.tup (Z5 x)))= .ok (.lst []) from rfl,bOk];have en:neC (.lst ((lv x).filter (qQ w))) (.lst [])= .ok (!((lv x).filter (qQ w)).isEmpty):=by cases (lv x).filter (qQ w) <;> rfl
    rw[en,bOk,xN,Bool.not_not];rfl
  | rising=>
   rw[Ru.t,zb (ze (lk0 false (by decide))),zb (ze (lk0 false (by decide))),zb (ze (lk0 false (by decide))),zq (t:= .bl (kp .rising x))]
   ·rfl
   ·rw[ZI (lk0 true (by decide)),zg (t:= .bl (kp .rising x))]
    rw[WZ,Z4,Zf,w2,bOk,bOk,Y6 _ (by omega),bOk,YY,bOk]
    rfl
  | unlike=>
   rw[Ru.t,zb (ze (lk0 false (by decide))),zb (ze (lk0 false (by decide))),zb (ze (lk0 false (by decide))),zb (ze (lk0 false (by decide))),zq (t:= .bl (kp .unlike x))]
   ·rfl
   ·rw[ZI (lk0 true (by decide)),zg (t:= .bl (kp .unlike x))]
    rw[WZ];have hp3:=WW hx;obtain⟨q,eq,hq⟩:=QZ (Uc hx he) (by omega) (a:= .vl (.tup [.str "unlike"])) (b:= .vl x) (c:= .vl (.lst ((ZA (lv x)).map T.int))) (ρ:=[.un,.un,.un])
    have er:Zy (ap1 zY (vB 3)) (lk (.tup [.str "unlike"]) x (.lst ((ZA (lv x)).map T.int)) (.tup (Z5 x)))= .ok (rng 0 (Z5 x).length):=by
     rw[YN (j:=((Z5 x).length:Int)) rfl ⟨by omega,by omega⟩,aT]
    rw[Z4,zC,er,bOk,eq,bOk,bOk,show Zt zd (lk (.tup [.str "unlike"]) x (.lst ((ZA (lv x)).map T.int)) (.tup (Z5 x)))= .ok (.lst []) from rfl,bOk,Ym,bOk,hq];rfl
  | @no d r hr=>
   have ih:=ZM he hx n d (by omega) r hr
   rw[Ru.t,zb (ze (lk0 false (by decide))),zb (ze (lk0 false (by decide))),zb (ze (lk0 false (by decide))),zb (ze (lk0 false (by decide))),zb (ze (lk0 false (by decide))),zq (t:= .bl (kp (.no r) x))]
   ·rfl
   ·rw[ZI (lk0 true (by decide)),zg (t:= .bl (kp (.no r) x))]
    rw[WZ];exact qe (by rw[zt,ZK,bOk,v1,bOk,ih])
  | @all d r s hr hs=>
   have ih:=ZM he hx n d (by omega) r hr
   have ih' :=ZM he hx n d (by omega) s hs
   have e3:zz 6 (zF (Zs (slE (vE 0) (jT (cE (.int 1))) (noO))) (zl 0) (zN) (za 2 (S_a n 0) (z9 (vE 0) (z9 (vE 1) (zd)))) 1 [1]) (lk (.tup [.str "all",r.t,s.t]) x (.lst ((ZA (lv x)).map T.int)) (.tup (Z5 x)))= .nx [.vl (.tup [.str "all",r.t,s.t]),.vl x,.vl (.lst ((ZA (lv x)).map T.int)),.vl (.tup (Z5 x)),.un,.un,.vl (.lst [.bl (kp r x),.bl (kp s x)])]:=by
    rw[zw (t:= .lst [.bl (kp r x),.bl (kp s x)])]
    ·rfl
    ·rw[zC];show ((zp (zl 0) zN (za 2 (S_a n 0) (z9 (vE 0) (z9 (vE 1) (zd)))) 1 [1] (lk (.tup [.str "all",r.t,s.t]) x (.lst ((ZA (lv x)).map T.int)) (.tup (Z5 x))) [r.t,s.t]).bind _)=_;have ec:zp (zl 0) zN (za 2 (S_a n 0) (z9 (vE 0) (z9 (vE 1) (zd)))) 1 [1] (lk (.tup [.str "all",r.t,s.t]) x (.lst ((ZA (lv x)).map T.int)) (.tup (Z5 x))) [r.t,s.t]= .ok [.bl (kp r x),.bl (kp s x)]:=by
      unfold zp;rw[if_pos (by show 2<=bnd;omega)]
      have c1:za 2 (S_a n 0) (z9 (vE 0) (z9 (vE 1) (zd))) [.vl r.t,.vl x]= .ok (.bl (kp r x)):=by rw[zt,v0,bOk,v1,bOk,ih]
      have c2:za 2 (S_a n 0) (z9 (vE 0) (z9 (vE 1) (zd))) [.vl s.t,.vl x]= .ok (.bl (kp s x)):=by rw[zt,v0,bOk,v1,bOk,ih']
      show quiet ((za 2 (S_a n 0) (z9 (vE 0) (z9 (vE 1) (zd))) [.vl r.t,.vl x]).bind λv=>((za 2 (S_a n 0) (z9 (vE 0) (z9 (vE 1) (zd))) [.vl s.t,.vl x]).bind λv=>(R.ok []).bind λvs=> .ok (v :: vs)).bind λvs=> .ok (v :: vs))=_;rw[c1,c2];rfl
     rw[ec,bOk]
   rw[Ru.t,zb (ze (lk0 false (by decide))),zb (ze (lk0 false (by decide))),zb (ze (lk0 false (by decide))),zb (ze (lk0 false (by decide))),zb (ze (lk0 false (by decide))),zb (ze (lk0 false (by decide))),zb e3,zg (t:= .bl (kp (.all r s) x))]
   ·rfl
   ·show ifE _ _ _ [.vl (.tup [.str "all",r.t,s.t]),.vl x,.vl (.lst ((ZA (lv x)).map T.int)),.vl (.tup (Z5 x)),.un,.un,.vl (.lst [.bl (kp r x),.bl (kp s x)])]=_;unfold ifE;rw[Za true (by decide),bOk,if_pos rfl]
    exact Wd rfl rfl
  | @some d r s hr hs=>
   have ih:=ZM he hx n d (by omega) r hr
   have ih' :=ZM he hx n d (by omega) s hs
   have e3:zz 6 (zF (Zs (slE (vE 0) (jT (cE (.int 1))) (noO))) (zl 0) (zN) (za 2 (S_a n 0) (z9 (vE 0) (z9 (vE 1) (zd)))) 1 [1]) (lk (.tup [.str "some",r.t,s.t]) x (.lst ((ZA (lv x)).map T.int)) (.tup (Z5 x)))= .nx [.vl (.tup [.str "some",r.t,s.t]),.vl x,.vl (.lst ((ZA (lv x)).map T.int)),.vl (.tup (Z5 x)),.un,.un,.vl (.lst [.bl (kp r x),.bl (kp s x)])]:=by
    rw[zw (t:= .lst [.bl (kp r x),.bl (kp s x)])]
    ·rfl
    ·rw[zC];show ((zp (zl 0) zN (za 2 (S_a n 0) (z9 (vE 0) (z9 (vE 1) (zd)))) 1 [1] (lk (.tup [.str "some",r.t,s.t]) x (.lst ((ZA (lv x)).map T.int)) (.tup (Z5 x))) [r.t,s.t]).bind _)=_;have ec:zp (zl 0) zN (za 2 (S_a n 0) (z9 (vE 0) (z9 (vE 1) (zd)))) 1 [1] (lk (.tup [.str "some",r.t,s.t]) x (.lst ((ZA (lv x)).map T.int)) (.tup (Z5 x))) [r.t,s.t]= .ok [.bl (kp r x),.bl (kp s x)]:=by
      unfold zp;rw[if_pos (by show 2<=bnd;omega)]
      have c1:za 2 (S_a n 0) (z9 (vE 0) (z9 (vE 1) (zd))) [.vl r.t,.vl x]= .ok (.bl (kp r x)):=by rw[zt,v0,bOk,v1,bOk,ih]
      have c2:za 2 (S_a n 0) (z9 (vE 0) (z9 (vE 1) (zd))) [.vl s.t,.vl x]= .ok (.bl (kp s x)):=by rw[zt,v0,bOk,v1,bOk,ih']
      show quiet ((za 2 (S_a n 0) (z9 (vE 0) (z9 (vE 1) (zd))) [.vl r.t,.vl x]).bind λv=>((za 2 (S_a n 0) (z9 (vE 0) (z9 (vE 1) (zd))) [.vl s.t,.vl x]).bind λv=>(R.ok []).bind λvs=> .ok (v :: vs)).bind λvs=> .ok (v :: vs))=_;rw[c1,c2];rfl
     rw[ec,bOk]
   rw[Ru.t,zb (ze (lk0 false (by decide))),zb (ze (lk0 false (by decide))),zb (ze (lk0 false (by decide))),zb (ze (lk0 false (by decide))),zb (ze (lk0 false (by decide))),zb (ze (lk0 false (by decide))),zb e3,zg (t:= .bl (kp (.some r s) x))]
   ·rfl
   ·show ifE _ _ _ [.vl (.tup [.str "some",r.t,s.t]),.vl x,.vl (.lst ((ZA (lv x)).map T.int)),.vl (.tup (Z5 x)),.un,.un,.vl (.lst [.bl (kp r x),.bl (kp s x)])]=_;unfold ifE;rw[Za false (by decide),bOk,if_neg ax]
    exact V1 rfl rfl
noncomputable abbrev lr (ns:List Int)(k:Int)(d:Nat)(p:Int)(a b:Sl):En:=[.vl (scr ns),.vl (.int k),.vl (.int (d:Int)),.vl (.int p),a,b]
theorem qf {ns:List Int}{k:Int}{d:Nat}{p:Int}{a b:Sl}{j m q:Int}(h:f_4 [scr ns,.int (k+j),.int m]= .ok (.int q)):za 3 f_4 (z9 (vE 0) (z9 (zc zv (vE 1) (cE (.int j))) (z9 (cE (.int m)) (zd)))) (lr ns k d p a b)= .ok (.int q):=by
 rw[Z2,v0,bOk,zf,v1,bOk,zI,bOk,zT,bOk,zI,bOk,h]
theorem jM (ns:List Int):∀(n d:Nat),d<=n->1<=d->∀k:Int,0<=k->∃r:Ru,S_l n 0 [scr ns,.int k,.int (d:Int)]= .ok r.t/\jL d r
 | 0,d,h,h1,k,hk=>by omega
 | n+1,d,h,h1,k,hk=>by
  obtain⟨p,hp,p0,p9⟩:=zM ns k 9 hk (by omega)
  have e1:zz 3 (za 3 f_4 (z9 (vE 0) (z9 (vE 1) (z9 (cE (.int 9)) (zd))))) [.vl (scr ns),.vl (.int k),.vl (.int (d:Int)),.un,.un,.un]= .nx (lr ns k d p .un .un):=by
   rw[zw (t:= .int p)]
   ·rfl
   ·rw[Z2,v0,bOk,v1,bOk,zI,bOk,hp]
  have e:S_l (n+1) 0 [scr ns,.int k,.int (d:Int)]=zi (b_l f_4 (S_l n 0) [.vl (scr ns),.vl (.int k),.vl (.int (d:Int)),.un,.un,.un]):=rfl;rw[e,b_l,zb e1];have et:Wy (zh gtC (vB 2) (cE (.int 1))) (zh gtC (vB 3) (cE (.int 5))) (lr ns k d p .un .un)= .ok (decide (1 < d) && decide (5 < p)):=by
   rw[W4,zu,w2,bOk,zI,bOk,xK,bOk,show decide ((1:Int) < (d:Int))=decide (1 < d) by rw[bM,decide_eq_true_eq,decide_eq_true_eq];omega]
   cases decide (1 < d) with
   | true=>rw[if_pos rfl,zu,w3,bOk,zI,bOk,xK,cf]
   | false=>rfl
  by_cases hb:1 < d/\5 < p
  ·rw[decide_eq_true hb.1,decide_eq_true hb.2]at et;obtain⟨d,rfl⟩:∃d',d=d' +1:=⟨d - 1,by omega⟩
   obtain⟨r1,hr1,o1⟩:=jM ns n d (by omega) (by omega) (2*k+11) (by omega)
   obtain⟨r2,hr2,o2⟩:=jM ns n d (by omega) (by omega) (2*k+24) (by omega)
   have m2:zP (.int 2) (.int k)= .ok (.int (2*k)):=Yo _ _ (.inl ⟨by decide,by decide⟩)
   have e2:zz 4 (za 3 (S_l n 0) (z9 (vE 0) (z9 (zc zv (zc zP (cE (.int 2)) (vE 1)) (cE (.int 11))) (z9 (zc jP (vE 2) (cE (.int 1))) (zd))))) (lr ns k (d+1) p .un .un)= .nx (lr ns k (d+1) p (.vl r1.t) .un):=by
    rw[zw (t:=r1.t)]
    ·rfl
    ·rw[Z2,v0,bOk,zf,zf,zI,bOk,v1,bOk,m2,bOk,zI,bOk,zT,bOk,zf,v2,bOk,zI,bOk,Zg,bOk,show ((d+1:Nat):Int) - 1=(d:Int) by omega,hr1]
   have c2:za 3 (S_l n 0) (z9 (vE 0) (z9 (zc zv (zc zP (cE (.int 2)) (vE 1)) (cE (.int 24))) (z9 (zc jP (vE 2) (cE (.int 1))) (zd)))) (lr ns k (d+1) p (.vl r1.t) .un)= .ok r2.t:=by
    rw[Z2,v0,bOk,zf,zf,zI,bOk,v1,bOk,m2,bOk,zI,bOk,zT,bOk,zf,v2,bOk,zI,bOk,Zg,bOk,show ((d+1:Nat):Int) - 1=(d:Int) by omega,hr2]
   by_cases h6:p=6
   ·subst h6;refine⟨.no r1, ?_,.no o1⟩;rw[zq (t:=(Ru.no r1).t)]
    ·rfl
    ·rw[ZI et,zb e2,zq (t:=(Ru.no r1).t)];rw[ZI rfl,Ru.t];exact zg (uR rfl rfl)
   ·have h6' :zh eqC (vB 3) (cE (.int 6)) (lr ns k (d+1) p (.vl r1.t) .un)= .ok false:=by
     rw[zu,w3,bOk,zI,bOk,eqI,beq_eq_false_iff_ne.mpr h6]
    by_cases h7:p=7
    ·subst h7;refine⟨.all r1 r2, ?_,.all o1 o2⟩;rw[zq (t:=(Ru.all r1 r2).t)]
     ·rfl
     ·rw[ZI et,zb e2,zb (ze h6'),Ru.t];exact zg (qM rfl rfl c2)
    ·have h8:p=8:=by omega
     subst h8;refine⟨.some r1 r2, ?_,.some o1 o2⟩;rw[zq (t:=(Ru.some r1 r2).t)]
     ·rfl
     ·rw[ZI et,zb e2,zb (ze h6'),Ru.t];exact zg (qM rfl rfl c2)
  ·have et:Wy (zh gtC (vB 2) (cE (.int 1))) (zh gtC (vB 3) (cE (.int 5))) (lr ns k d p .un .un)= .ok false:=by
    rw[et];congr 1
    rw[fu,decide_eq_false_iff_not,decide_eq_false_iff_not];omega
   obtain⟨d,rfl⟩:∃d',d=d' +1:=⟨d - 1,by omega⟩
   obtain⟨q,hq,q0,q9⟩:=zM ns (k+1) 9 (by omega) (by omega)
   have e2:zz 5 (zc jP (za 3 f_4 (z9 (vE 0) (z9 (zc zv (vE 1) (cE (.int 1))) (z9 (cE (.int 9)) (zd))))) (cE (.int 4))) (lr ns k (d+1) p .un .un)= .nx (lr ns k (d+1) p .un (.vl (.int (q - 4)))):=by
    rw[zw (t:= .int (q - 4))]
    ·rfl
    ·rw[zf,qf hq,bOk,zI,bOk,Zg]
   rw[zb (ze et),zb e2];have hm:∃m:Nat,m < 6/\zc jj (vE 3) (cE (.int 6)) (lr ns k (d+1) p .un (.vl (.int (q - 4))))= .ok (.int (m:Int)):=by
    obtain⟨w,rfl⟩:=ck p0;exact⟨w % 6,Nat.mod_lt _ (by omega),by rw[zf,v3,bOk,zI,bOk];exact vY (c:=6) (by omega)⟩
   obtain⟨m,m6,hm⟩:=hm;have t2:zh ltC (zc jj (vE 3) (cE (.int 6))) (cE (.int 2)) (lr ns k (d+1) p .un (.vl (.int (q - 4))))= .ok (decide (m < 2)):=by
    rw[zu,hm,bOk,zI,bOk,ltI];congr 1;rw[bM,decide_eq_true_eq,decide_eq_true_eq];omega
   have tk:∀j:Nat,zh eqC (zc jj (vE 3) (cE (.int 6))) (cE (.int (j:Int))) (lr ns k (d+1) p .un (.vl (.int (q - 4))))= .ok (m == j):=λj=>by
    rw[zu,hm,bOk,zI,bOk,eqI,uW]
   have tk2:zh eqC (zc jj (vE 3) (cE (.int 6))) (cE (.int 2)) (lr ns k (d+1) p .un (.vl (.int (q - 4))))= .ok (m == 2):=tk 2;have tk3:zh eqC (zc jj (vE 3) (cE (.int 6))) (cE (.int 3)) (lr ns k (d+1) p .un (.vl (.int (q - 4))))= .ok (m == 3):=tk 3;have tk4:zh eqC (zc jj (vE 3) (cE (.int 6))) (cE (.int 4)) (lr ns k (d+1) p .un (.vl (.int (q - 4))))= .ok (m == 4):=tk 4
   by_cases h2:m < 2
   ·obtain⟨u,hu,u0,u5⟩:=zM ns (k+2) 5 (by omega) (by omega)
    refine⟨.sum (q - 4) (q - 4+u - 1), ?_,.sum ⟨by omega,by omega⟩ ⟨by omega,by omega⟩⟩
    rw[zq (t:=(Ru.sum (q - 4) (q - 4+u - 1)).t)]
    ·rfl
    ·rw[ZI (by rw[t2,decide_eq_true h2]),Ru.t]
     refine zg (qM rfl rfl ?_);show zc jP _ _ (lr ns k (d+1) p .un (.vl (.int (q - 4))))=_;rw[zf,zf,qf hu,show vE 5 (lr ns k (d+1) p .un (.vl (.int (q - 4))))= .ok (.int (q - 4)) from rfl,bOk,bOk,zT,bOk,zI,bOk,Zg]
   rw[zb (ze (by rw[t2,decide_eq_false h2]))]
   by_cases h3:m=2
   ·subst h3;obtain⟨q',hq',q'0,q'3⟩:=zM ns (k+1) 3 (by omega) (by omega)
    obtain⟨u,hu,u0,u4⟩:=zM ns (k+2) 4 (by omega) (by omega)
    refine⟨.size q' u, ?_,.size ⟨by omega,by omega⟩ ⟨by omega,by omega⟩⟩
    rw[zq (t:=(Ru.size q' u).t)]
    ·rfl
    ·rw[ZI tk2,Ru.t];exact zg (qM rfl (qf hq') (qf hu))
   rw[zb (ze (by rw[tk2,beq_eq_false_iff_ne.mpr h3]))]
   by_cases h4:m=3
   ·subst h4;obtain⟨q',hq',q'0,q'3⟩:=zM ns (k+1) 4 (by omega) (by omega)
    have hw:∃w:Str,Ze (.str w)=true/\ixT (.lst [.str "a",.str "b",.str "ab",.str "zz"]) (.int q')= .ok (.str w):=by
     have hq4:q' =0\/q' =1\/q' =2\/q' =3:=by omega
     rcases hq4 with rfl | rfl | rfl | rfl
     ·exact⟨"a",by decide,rfl⟩
     ·exact⟨"b",by decide,rfl⟩
     ·exact⟨"ab",by decide,rfl⟩
     ·exact⟨"zz",by decide,rfl⟩
    obtain⟨w,hw,hx⟩:=hw;refine⟨.word w, ?_,.word hw⟩;rw[zq (t:=(Ru.word w).t)]
    ·rfl
    ·rw[ZI tk3,Ru.t];refine zg (uR rfl ?_);show zc ixT _ _ (lr ns k (d+1) p .un (.vl (.int (q - 4))))=_;rw[zf,qf hq'];exact hx
   rw[zb (ze (by rw[tk3,beq_eq_false_iff_ne.mpr h4]))]
   by_cases h5:m=4
   ·subst h5;refine⟨.rising, ?_,.rising⟩;rw[zg (t:=Ru.rising.t)]
    ·rfl
    ·show ifE _ _ _ (lr ns k (d+1) p .un (.vl (.int (q - 4))))=_;unfold ifE;rw[tk4,bOk];rfl
   ·refine⟨.unlike, ?_,.unlike⟩;rw[zg (t:=Ru.unlike.t)]
    ·rfl
    ·show ifE _ _ _ (lr ns k (d+1) p .un (.vl (.int (q - 4))))=_;unfold ifE;rw[tk4,bOk,beq_eq_false_iff_ne.mpr h5];rfl
theorem KP {f:T->T->Option Bool}:∀xs ys:List T,(∀x∈xs,∀y∈ys,∃b,f x y=some b/\(b=true↔x=y))->∃b,eqL f xs ys=some b/\(b=true↔xs=ys)
 | [],[],_=>⟨true,rfl,by simp⟩
 | [],y :: ys,_=>⟨false,rfl,by simp⟩
 | x :: xs,[],_=>⟨false,rfl,by simp⟩
 | x :: xs,y :: ys,H=>by
  obtain⟨b,e,h⟩:=H x aa y aa;obtain⟨c,e',h'⟩:=KP xs ys λu hu v hv=>H u (a8 _ hu) v (a8 _ hv);have e0:eqL f (x :: xs) (y :: ys)=match f x y with
   | none=>none
   | some b=>match eqL f xs ys with
    | none=>none
    | some c=>some (b && c):=rfl
  refine⟨b && c,by rw[e0,e,e'], ?_⟩
  rw[ac,h,h',il]
theorem z0y:∀(n d e:Nat) (x y:T),d<=n->W d x->W e y->∃b,eqF n x y=some b/\(b=true↔x=y):=by
 intro n d e x y hn hx
 induction hx generalizing n e y with
 | int d i=>
  intro hy;cases hy with
  | int e j=>exact⟨i == j,by cases n <;> rfl,by rw[beq_iff_eq,T.int.injEq]⟩
  | str e j=>exact⟨false,by cases n <;> rfl,by simp⟩
  | tup h r=>exact⟨false,by cases n <;> rfl,by simp⟩
 | str d i=>
  intro hy;cases hy with
  | int e j=>exact⟨false,by cases n <;> rfl,by simp⟩
  | str e j=>exact⟨i == j,by cases n <;> rfl,by rw[beq_iff_eq,T.str.injEq]⟩
  | tup h r=>exact⟨false,by cases n <;> rfl,by simp⟩
 | @tup d xs h r ih=>
  intro hy;obtain⟨n,rfl⟩:∃m,n=m+1:=⟨n - 1,by omega⟩
  cases hy with
  | int e j=>exact⟨false,rfl,by simp⟩
  | str e j=>exact⟨false,rfl,by simp⟩
  | @tup e ys h' r' =>
   obtain⟨b,e1,h1⟩:=KP (f:=eqF n) xs ys λu hu v hv=>ih u hu n e v (by omega) (r' v hv)
   exact⟨b,e1,by rw[h1,T.tup.injEq]⟩
theorem V2 {x:T}(hx:W 2 x):∀ys:List T,(∀y∈ys,W 2 y)->∃b,jo (λy=>eqF 30 y x) ys=some b/\(b=true↔x∈ys)
 | [],_=>⟨false,rfl,by simp⟩
 | y :: ys,H=>by
  obtain⟨b,e,h⟩:=z0y 30 2 2 y x (by omega) (H y aa) hx
  obtain⟨c,e',h'⟩:=V2 hx ys λv hv=>H v (a8 _ hv);have e0:jo (λy=>eqF 30 y x) (y :: ys)=match eqF 30 y x with
   | none=>none
   | some b=>match jo (λy=>eqF 30 y x) ys with
    | none=>none
    | some d=>some (b || d):=rfl
  refine⟨b || c,by rw[e0,e,e'], ?_⟩
  rw[ig,h,h',ah];exact⟨λq=>q.elim (λz=> .inl z.symm) .inr,λq=>q.elim (λz=> .inl z.symm) .inr⟩
theorem z0z {x:T}(hx:W 2 x){ys:List T}(hy:∀y∈ys,W 2 y){b:Bool}(h:b=true↔x∈ys):Uv x (.lst ys)= .ok (!b):=by
 obtain⟨c,e,h'⟩:=V2 hx ys hy;have hc:c=b:=by rw[bM,h,h']
 subst hc;show ((match jo (λy=>eqF 30 y x) ys with | some b=>R.ok b | none=> .bad).bind λb=>R.ok (!b))=_
 rw[e];rfl
theorem v7 {k:Kd}(hk:k.Ok 3){x:T}(hx:x∈k.all):W 2 x:=Xd 2 k x hk ((Zl k x).mp hx)
noncomputable abbrev fl (k:Kd)(r:Ru):List T:=k.all.filter (kp r)
theorem wD {x:T}(hx:W 2 x){r:Ru}(hr:jL 3 r):f_c 8 [r.t,x]= .ok (.bl (kp r x)):=jY (by omega) hx 8 3 (by omega) r hr
noncomputable def qg (lo hi:Int):Int:=if hi < (if lo > 0 then lo else 0) then hi else (if lo > 0 then lo else 0)
noncomputable def qR (i:Int):Int:=if i < 0 then -i else i
noncomputable def wtz:List (T->Int)->List T->Int
 | f :: fs,x :: xs=>f x+wtz fs xs
 | _,_=>0
noncomputable def plz (fs:List (T->List T))(xs:List T):List (List T):=(aQ xs.length).flatMap λi=>match fs[i]?,xs[i]? with
 | some f,some x=>(f x).map λy=>xs.set i y
 | _,_=>[]
noncomputable def shl (xs:List T):List (List T):=(aQ xs.length).map λi=>xs.take i++xs.drop (i+1)
mutual
noncomputable def Kd.wt:Kd->T->Int
 | .whole lo hi=>λt=>match t with | .int i=>qR (i - qg lo hi) | _=>0
 | .pick cs=>λt=>match t with | .str x=>((cs.map (·.1)).idxOf x:Nat) | _=>0
 | .row ks=>λt=>match t with | .tup xs=>wtz (Kd.wtF ks) xs | _=>0
 | .many k lo hi=>λt=>match t with | .tup xs=>wtz (ab xs.length k.wt) xs+(xs.length:Int) - (lo:Int) | _=>0
noncomputable def Kd.wtF:List Kd->List (T->Int)
 | []=>[]
 | k :: ks=>k.wt :: Kd.wtF ks
end
mutual
noncomputable def Kd.less:Kd->T->List T
 | .whole lo hi=>λt=>match t with | .int i=>if i=qg lo hi then [] else if i > qg lo hi then [.int (i - 1)] else [.int (i+1)] | _=>[]
 | .pick cs=>λt=>match t with | .str x=>(match (cs.map (·.1)).idxOf x with | 0=>[] | j+1=>match cs[j]? with | some c=>[.str c.1] | none=>[]) | _=>[]
 | .row ks=>λt=>match t with | .tup xs=>(plz (Kd.lessF ks) xs).map T.tup | _=>[]
 | .many k lo hi=>λt=>match t with | .tup xs=>(if xs.length=lo then [] else (shl xs).map T.tup)++(plz (ab xs.length k.less) xs).map T.tup | _=>[]
noncomputable def Kd.lessF:List Kd->List (T->List T)
 | []=>[]
 | k :: ks=>k.less :: Kd.lessF ks
end
theorem Kd.wtF_map:∀ks:List Kd,Kd.wtF ks=ks.map Kd.wt
 | []=>by simp only[Kd.wtF,bP]
 | k :: ks=>by simp only[Kd.wtF,az,Kd.wtF_map ks]
theorem Kd.lessF_map:∀ks:List Kd,Kd.lessF ks=ks.map Kd.less
 | []=>by simp only[Kd.lessF,bP]
 | k :: ks=>by simp only[Kd.lessF,az,Kd.lessF_map ks]
structure Lss (k:Kd):Prop where
 pos:∀x,k.has x=true->0<=k.wt x
 dn:∀x y,k.has x=true->y∈k.less x->k.has y=true/\k.wt y < k.wt x
 one:∀x,k.has x=true->k.wt x ≠ 0->∃y∈k.less x,k.wt y=k.wt x - 1
 uniq:∀x y,k.has x=true->k.has y=true->k.wt x=0->k.wt y=0->x=y
theorem xO {lo hi:Int}(h:lo<=hi):lo<=qg lo hi/\qg lo hi<=hi:=by
 unfold qg;split <;> split at* <;> omega
theorem j6 {lo hi:Int}{x:T}:inR lo hi x=true↔∃i,x= .int i/\lo<=i/\i<=hi:=by
 constructor
 ·intro h;obtain⟨i,rfl⟩:=Yp h;simp[inR]at h;exact⟨i,rfl,h⟩
 ·rintro⟨i,rfl,h⟩
  simp[inR];exact h
theorem qh {lo hi:Int}(h:lo<=hi):Lss (.whole lo hi):=by
 obtain⟨n1,n2⟩:=xO h;refine⟨λx hx=> ?_,λx y hx hy=> ?_,λx hx hw=> ?_,λx y hx hy h1 h2=> ?_⟩
 ·simp only[Kd.has]at hx;obtain⟨i,rfl,hi⟩:=j6.mp hx;simp only[Kd.wt,qR];split <;> omega
 ·simp only[Kd.has]at hx;obtain⟨i,rfl,hi'⟩:=j6.mp hx;simp only[Kd.less]at hy;split at hy
  ·cases hy
  ·split at hy
   ·simp at hy;subst hy;simp only[Kd.has,Kd.wt,qR];refine⟨j6.mpr ⟨_,rfl,by omega,by omega⟩, ?_⟩
    split <;> split <;> omega
   ·simp at hy;subst hy;simp only[Kd.has,Kd.wt,qR];refine⟨j6.mpr ⟨_,rfl,by omega,by omega⟩, ?_⟩
    split <;> split <;> omega
 ·simp only[Kd.has]at hx;obtain⟨i,rfl,hi'⟩:=j6.mp hx;simp only[Kd.wt,qR]at hw ⊢;simp only[Kd.less]
  by_cases e:i=qg lo hi
  ·exfalso;apply hw;split <;> omega
  ·rw[if_neg e]
   by_cases g:i > qg lo hi
   ·rw[if_pos g];refine⟨_,aA.mpr rfl, ?_⟩;simp only[Kd.wt,qR];split <;> split <;> omega
   ·rw[if_neg g];refine⟨_,aA.mpr rfl, ?_⟩;simp only[Kd.wt,qR];split <;> split <;> omega
 ·simp only[Kd.has]at hx hy;obtain⟨i,rfl,hi'⟩:=j6.mp hx;obtain⟨j,rfl,hj'⟩:=j6.mp hy;simp only[Kd.wt,qR]at h1 h2;have:i=j:=by split at h1 <;> split at h2 <;> omega
  rw[this]
theorem ZN {cs:List (Str×Int)}{x:T}:(Kd.pick cs).has x=true↔∃w,x= .str w/\w∈cs.map (·.1):=by
 have key:∀w:Str,(cs.any λc=>c.1 == w)=true↔w∈cs.map (·.1):=λw=>by
  rw[cP,au];exact⟨λ⟨c,a,b⟩=>⟨c,a,beq_iff_eq.mp b⟩,λ⟨c,a,b⟩=>⟨c,a,beq_iff_eq.mpr b⟩⟩
 constructor
 ·intro h;cases x with
  | str w=>exact⟨w,rfl,(key w).mp h⟩
  | _=>cases h
 ·rintro⟨w,rfl,h⟩
  exact(key w).mpr h
theorem qi {ws:List Str}{w:Str}(h:w∈ws):ws.idxOf w < ws.length:=eD.mpr h
theorem qj {ws:List Str}{w:Str}(h:w∈ws):ws[ws.idxOf w]? =some w:=by
 rw[a9 (qi h),fQ (qi h)]
theorem ut {ws:List Str}(h:Dst ws){i j:Nat}{w:Str}(hi:ws[i]? =some w)(hj:ws[j]? =some w):i=j:=by
 have key:∀{i j:Nat},ws[i]? =some w->ws[j]? =some w->¬ i < j:=λ{i j} hi hj hl=>by
  refine h j w hj (b9 (i:=i) ?_);rw[cY hl];exact hi
 have a:=key hi hj;have b:=key hj hi;omega
theorem qk {ws:List Str}(h:Dst ws){i:Nat}{w:Str}(hi:ws[i]? =some w):ws.idxOf w=i:=ut h (qj (b9 hi)) hi
theorem v8 {cs:List (Str×Int)}(h:Dst (cs.map (·.1))):Lss (.pick cs):=by
 refine⟨λx hx=> ?_,λx y hx hy=> ?_,λx hx hw=> ?_,λx y hx hy h1 h2=> ?_⟩
 ·obtain⟨w,rfl,hw⟩:=ZN.mp hx;simp only[Kd.wt];omega
 ·obtain⟨w,rfl,hw⟩:=ZN.mp hx;simp only[Kd.less]at hy;split at hy
  ·cases hy
  ·rename_i j e;split at hy
   ·rename_i c ec;simp at hy;subst hy;have hc:(cs.map (·.1))[j]? =some c.1:=by rw[aj,ec];rfl
    refine⟨ZN.mpr ⟨_,rfl,b9 hc⟩, ?_⟩;simp only[Kd.wt];rw[qk h hc,e];omega
   ·cases hy
 ·obtain⟨w,rfl,hw'⟩:=ZN.mp hx;simp only[Kd.wt]at hw ⊢;simp only[Kd.less];have hl:=qi hw';cases e:(cs.map (·.1)).idxOf w with
  | zero=>rw[e]at hw;exact absurd rfl hw
  | succ j=>
   rw[e]at hl;have hj:j < cs.length:=Nat.lt_of_succ_lt (by simpa using hl)
   obtain⟨c,hc⟩:=JS hj;dsimp only;rw[hc];refine⟨_,aA.mpr rfl, ?_⟩;have hc' :(cs.map (·.1))[j]? =some c.1:=by rw[aj,hc];rfl
   simp only[Kd.wt];rw[qk h hc'];omega
 ·obtain⟨w,rfl,hw⟩:=ZN.mp hx;obtain⟨v,rfl,hv⟩:=ZN.mp hy;simp only[Kd.wt]at h1 h2;have a:=qj hw;have b:=qj hv;rw[show (cs.map (·.1)).idxOf w=0 by omega]at a
  rw[show (cs.map (·.1)).idxOf v=0 by omega,a]at b
  rw[aD b]
noncomputable def Hs (ks:List Kd)(xs:List T):Prop:=xs.length=ks.length/\∀(i:Nat) (k:Kd) (x:T),ks[i]? =some k->xs[i]? =some x->k.has x=true
theorem uu:∀(fs:List (T->Int)) (xs:List T) (i:Nat) (f:T->Int) (x y:T),fs[i]? =some f->xs[i]? =some x->wtz fs (xs.set i y)=wtz fs xs - f x+f y
 | [],_,i,_,_,_,h,_=>by simp at h
 | _ :: _,[],i,_,_,_,_,h=>by simp at h
 | f :: fs,x :: xs,0,g,u,y,h,h' =>by
  simp at h h';subst h h';simp only[List.set_cons_zero,wtz];omega
 | f :: fs,x :: xs,i+1,g,u,y,h,h' =>by
  have ih:=uu fs xs i g u y (by simpa using h) (by simpa using h')
  simp only[List.set_cons_succ,wtz,ih];omega
theorem We {k:Kd}{ks:List Kd}{x:T}{xs:List T}:Hs (k :: ks) (x :: xs)↔k.has x=true/\Hs ks xs:=by
 constructor
 ·rintro⟨h1,h2⟩
  exact⟨h2 0 k x rfl rfl,by simpa using h1,λi k' x' a b=>h2 (i+1) k' x' (by simpa using a) (by simpa using b)⟩
 ·rintro⟨h0,h1,h2⟩
  refine⟨by simp[h1],λi k' x' a b=> ?_⟩
  cases i with
  | zero=>simp at a b;subst a b;exact h0
  | succ i=>exact h2 i k' x' (by simpa using a) (by simpa using b)
theorem j7:∀(ks:List Kd) (xs:List T),(∀k∈ks,Lss k)->Hs ks xs->0<=wtz (ks.map Kd.wt) xs
 | [],[],_,_=>by simp[wtz]
 | [],_ :: _,_,h=>by simp[Hs]at h
 | _ :: _,[],_,h=>by simp[wtz]
 | k :: ks,x :: xs,hk,h=>by
  obtain⟨h0,h1⟩:=We.mp h;have a:=(hk k aa).pos x h0;have b:=j7 ks xs (λq hq=>hk q (a8 _ hq)) h1;simp only[az,wtz];omega
theorem Wf:∀(ks:List Kd) (xs ys:List T),(∀k∈ks,Lss k)->Hs ks xs->Hs ks ys->wtz (ks.map Kd.wt) xs=0->wtz (ks.map Kd.wt) ys=0->xs=ys
 | [],xs,ys,_,h,h',_,_=>by
  have a:=bH h.1;have b:=bH h'.1;rw[a,b]
 | k :: ks,[],_,_,h,_,_,_=>by simp[Hs]at h
 | k :: ks,_ :: _,[],_,_,h,_,_=>by simp[Hs]at h
 | k :: ks,x :: xs,y :: ys,hk,h,h',e,e' =>by
  obtain⟨h0,h1⟩:=We.mp h;obtain⟨g0,g1⟩:=We.mp h';have hk' :∀q∈ks,Lss q:=λq hq=>hk q (a8 _ hq);have L:=hk k aa;have a:=L.pos x h0;have a' :=L.pos y g0;have b:=j7 ks xs hk' h1;have b' :=j7 ks ys hk' g1;simp only[az,wtz]at e e';rw[L.uniq x y h0 g0 (by omega) (by omega),Wf ks xs ys hk' h1 g1 (by omega) (by omega)]
theorem qm:∀(ks:List Kd) (xs:List T),(∀k∈ks,Lss k)->Hs ks xs->wtz (ks.map Kd.wt) xs ≠ 0->∃(i:Nat) (k:Kd) (x:T),ks[i]? =some k/\xs[i]? =some x/\k.wt x ≠ 0
 | [],xs,_,_,h=>absurd (by simp[wtz]) h
 | k :: ks,[],_,_,h=>absurd (by simp[wtz]) h
 | k :: ks,x :: xs,hk,h,hw=>by
  obtain⟨h0,h1⟩:=We.mp h
  by_cases e:k.wt x=0
  ·simp only[az,wtz,e,f7]at hw;obtain⟨i,k',x',a,b,c⟩:=qm ks xs (λq hq=>hk q (a8 _ hq)) h1 hw;exact⟨i+1,k',x',by simpa using a,by simpa using b,c⟩
  ·exact⟨0,k,x,rfl,rfl,e⟩
theorem qo {ks:List Kd}{xs ys:List T}:ys∈plz (ks.map Kd.less) xs↔∃(i:Nat) (k:Kd) (x y:T),ks[i]? =some k/\xs[i]? =some x/\y∈k.less x/\ys=xs.set i y:=by
 unfold plz;rw[bT];constructor
 ·rintro⟨i,hi,h⟩
  rw[aj]at h;cases e:ks[i]? with
  | none=>rw[e]at h;simp at h
  | some k=>
   rw[e]at h;cases e' :xs[i]? with
   | none=>rw[e']at h;simp at h
   | some x=>
    rw[e']at h;obtain⟨y,hy,rfl⟩:=au.mp h;exact⟨i,k,x,y,e,e',hy,rfl⟩
 ·rintro⟨i,k,x,y,e,e',hy,rfl⟩
  have hi:=(ak.mp e').1;refine⟨i,aR.mpr hi, ?_⟩;rw[aj,e,e'];exact au.mpr ⟨y,hy,rfl⟩
theorem KQ {ks:List Kd}{xs:List T}{i:Nat}{k:Kd}{y:T}(h:Hs ks xs)(hk:ks[i]? =some k)(hy:k.has y=true):Hs ks (xs.set i y):=by
 refine⟨by rw[bw];exact h.1,λj k' x' a b=> ?_⟩
 by_cases e:i=j
 ·subst e;have hi:i < xs.length:=by have:=(ak.mp b).1;simpa using this
  rw[bb hi]at b;rw[hk]at a;cases a;cases b;exact hy
 ·rw[aE e]at b;exact h.2 j k' x' a b
theorem jZ {α:Type}{l:List α}{i:Nat}{a:α}(h:l[i]? =some a):a∈l:=b9 h
theorem qp {ks:List Kd}{xs ys:List T}(hk:∀k∈ks,Lss k)(h:Hs ks xs)(hy:ys∈plz (ks.map Kd.less) xs):Hs ks ys/\wtz (ks.map Kd.wt) ys < wtz (ks.map Kd.wt) xs:=by
 obtain⟨i,k,x,y,a,b,c,rfl⟩:=qo.mp hy;obtain⟨d1,d2⟩:=(hk k (jZ a)).dn x y (h.2 i k x a b) c;refine⟨KQ h a d1, ?_⟩;rw[uu (ks.map Kd.wt) xs i k.wt x y (by rw[aj,a];rfl) b];omega
theorem qq {ks:List Kd}{xs:List T}(hk:∀k∈ks,Lss k)(h:Hs ks xs)(hw:wtz (ks.map Kd.wt) xs ≠ 0):∃ys∈plz (ks.map Kd.less) xs,wtz (ks.map Kd.wt) ys=wtz (ks.map Kd.wt) xs - 1:=by
 obtain⟨i,k,x,a,b,c⟩:=qm ks xs hk h hw;obtain⟨y,hy,e⟩:=(hk k (jZ a)).one x (h.2 i k x a b) c;refine⟨xs.set i y,qo.mpr ⟨i,k,x,y,a,b,hy,rfl⟩, ?_⟩;rw[uu (ks.map Kd.wt) xs i k.wt x y (by rw[aj,a];rfl) b];omega
theorem V3 {ks:List Kd}{xs:List T}:(xs.length == ks.length && Kd.hass ks xs)=true↔Hs ks xs:=by
 rw[ac,beq_iff_eq,Ju,aG];constructor
 ·rintro⟨h1,h2⟩
  refine⟨h1,λi k x a b=>h2 (k,x) (b9 (i:=i) ?_)⟩;rw[bE];exact⟨a,b⟩
 ·rintro⟨h1,h2⟩
  refine⟨h1,λq hq=> ?_⟩;obtain⟨i,hi⟩:=cG.mp hq;obtain⟨a,b⟩:=bE.mp hi;exact h2 i q.1 q.2 a b
theorem u3 {k:Kd}{xs:List T}:xs.all k.has=true↔Hs (ab xs.length k) xs:=by
 rw[aG];constructor
 ·intro h;refine⟨by simp,λi k' x a b=> ?_⟩
  obtain rfl:k=k' :=(dS.mp (jZ a)).2.symm;exact h x (jZ b)
 ·rintro⟨_,h⟩ x hx
  obtain⟨i,hi⟩:=cG.mp hx;have hl:=(ak.mp hi).1;exact h i k x (by rw[aL,if_pos hl]) hi
theorem J6 {ks:List Kd}{t:T}(h:(Kd.row ks).has t=true):∃xs,t= .tup xs/\Hs ks xs:=by
 simp only[Kd.has]at h;split at h
 ·exact⟨_,rfl,V3.mp h⟩
 ·cases h
theorem je {k:Kd}{lo hi:Nat}{t:T}(h:(Kd.many k lo hi).has t=true):∃xs,t= .tup xs/\lo<=xs.length/\xs.length<=hi/\Hs (ab xs.length k) xs:=by
 simp only[Kd.has]at h;split at h
 ·rw[ac,ac,decide_eq_true_eq,decide_eq_true_eq]at h;exact⟨_,rfl,h.1.1,h.1.2,u3.mp h.2⟩
 ·cases h
theorem xP {ks:List Kd}{xs:List T}(h:Hs ks xs):(Kd.row ks).has (.tup xs)=true:=by simp only[Kd.has];exact V3.mpr h
theorem Ue {k:Kd}{lo hi:Nat}{xs:List T}(h1:lo<=xs.length)(h2:xs.length<=hi)(h:Hs (ab xs.length k) xs):(Kd.many k lo hi).has (.tup xs)=true:=by
 simp only[Kd.has];rw[ac,ac,decide_eq_true_eq,decide_eq_true_eq];exact⟨⟨h1,h2⟩,u3.mpr h⟩
theorem xQ {ks:List Kd}(hk:∀k∈ks,Lss k):Lss (.row ks):=by
 refine⟨λx hx=> ?_,λx y hx hy=> ?_,λx hx hw=> ?_,λx y hx hy h1 h2=> ?_⟩
 ·obtain⟨xs,rfl,h⟩:=J6 hx;simp only[Kd.wt,Kd.wtF_map];exact j7 ks xs hk h
 ·obtain⟨xs,rfl,h⟩:=J6 hx;simp only[Kd.less,Kd.lessF_map]at hy;obtain⟨ys,hys,rfl⟩:=au.mp hy;obtain⟨a,b⟩:=qp hk h hys;simp only[Kd.wt,Kd.wtF_map];exact⟨xP a,b⟩
 ·obtain⟨xs,rfl,h⟩:=J6 hx;simp only[Kd.wt,Kd.wtF_map]at hw ⊢;obtain⟨ys,h1,h2⟩:=qq hk h hw;refine⟨.tup ys,by simp only[Kd.less,Kd.lessF_map];exact au.mpr ⟨ys,h1,rfl⟩, ?_⟩
  simp only[Kd.wtF_map];exact h2
 ·obtain⟨xs,rfl,h⟩:=J6 hx;obtain⟨ys,rfl,h'⟩:=J6 hy;simp only[Kd.wt,Kd.wtF_map]at h1 h2;rw[Wf ks xs ys hk h h' h1 h2]
theorem Wg {k:Kd}:∀(xs:List T) (i:Nat) (x:T),xs[i]? =some x->wtz (ab (xs.take i++xs.drop (i+1)).length k.wt) (xs.take i++xs.drop (i+1))=wtz (ab xs.length k.wt) xs - k.wt x
 | [],i,x,h=>by simp at h
 | y :: ys,0,x,h=>by
  simp at h;subst h;simp only[List.take_zero,bn,f8,cX,dh,ar,aV,wtz];omega
 | y :: ys,i+1,x,h=>by
  have ih:=Wg (k:=k) ys i x (by simpa using h)
  simp only[fL,cX,dB,ar,aV,wtz,ih];omega
theorem qr {xs:List T}{i:Nat}(h:i < xs.length):(xs.take i++xs.drop (i+1)).length=xs.length - 1:=by
 rw[aB,cO,dy];omega
theorem V4 {k:Kd}{xs:List T}{i:Nat}(h:Hs (ab xs.length k) xs):Hs (ab (xs.take i++xs.drop (i+1)).length k) (xs.take i++xs.drop (i+1)):=by
 rw[← u3]at h ⊢;rw[aG]at h ⊢;intro x hx;rcases aZ.mp hx with hx | hx
 ·exact h x (fH hx)
 ·exact h x (List.mem_of_mem_drop hx)
theorem Zr {α β:Type}(f:α->β)(n:Nat)(a:α):ab n (f a)=(ab n a).map f:=by rw[aM]
theorem v9 {k:Kd}{lo hi:Nat}(hk:Lss k):Lss (.many k lo hi):=by
 have hr:∀n,∀q∈ab n k,Lss q:=λn q hq=>by obtain rfl:=(dS.mp hq).2;exact hk
 refine⟨λx hx=> ?_,λx y hx hy=> ?_,λx hx hw=> ?_,λx y hx hy h1 h2=> ?_⟩
 ·obtain⟨xs,rfl,h1,h2,h⟩:=je hx;simp only[Kd.wt,Zr];have:=j7 _ xs (hr _) h;omega
 ·obtain⟨xs,rfl,h1,h2,h⟩:=je hx;simp only[Kd.less]at hy;rcases aZ.mp hy with hy | hy
  ·split at hy
   ·cases hy
   ·rename_i hne;obtain⟨ys,hys,rfl⟩:=au.mp hy;obtain⟨i,hi',rfl⟩:=au.mp hys;have hi'' :=aR.mp hi';obtain⟨x,hx'⟩:=JS hi'';have hl:=qr hi'';refine⟨Ue (by omega) (by omega) (V4 h), ?_⟩
    simp only[Kd.wt];rw[Wg xs i x hx',hl];have:=hk.pos x (aG.mp (u3.mpr h) x (jZ hx'));omega
  ·rw[Zr]at hy;obtain⟨ys,hys,rfl⟩:=au.mp hy;obtain⟨a,b⟩:=qp (hr _) h hys;have hl:ys.length=xs.length:=by have:=a.1;simpa using this
   refine⟨Ue (by omega) (by omega) (by rw[hl];exact a), ?_⟩
   simp only[Kd.wt,Zr];rw[hl];omega
 ·obtain⟨xs,rfl,h1,h2,h⟩:=je hx;simp only[Kd.wt,Zr]at hw ⊢
  by_cases e:wtz ((ab xs.length k).map Kd.wt) xs=0
  ·have hne:xs.length ≠ lo:=by omega
   have h0:0 < xs.length:=by omega
   obtain⟨x,hx'⟩:=JS h0;refine⟨.tup (xs.take 0++xs.drop (0+1)), ?_, ?_⟩
   ·simp only[Kd.less,if_neg hne];exact aZ.mpr (.inl (au.mpr ⟨_,au.mpr ⟨0,aR.mpr h0,rfl⟩,rfl⟩))
   ·dsimp only;rw[← Zr,Wg xs 0 x hx',qr h0,Zr,e];have z:k.wt x=0:=by
     have:=Wg (k:=k) xs 0 x hx';have p:=j7 _ _ (hr _) (V4 (i:=0) h);have p' :=hk.pos x (aG.mp (u3.mpr h) x (jZ hx'));rw[Zr,Zr,e]at this;omega
    rw[z];omega
  ·obtain⟨ys,a,b⟩:=qq (hr _) h e;have hl:ys.length=xs.length:=by have:=(qp (hr _) h a).1.1;simpa using this
   refine⟨.tup ys, ?_, ?_⟩
   ·simp only[Kd.less,Zr];exact aZ.mpr (.inr (au.mpr ⟨ys,a,rfl⟩))
   ·simp only[Zr];rw[hl,b];omega
 ·obtain⟨xs,rfl,a1,a2,h⟩:=je hx;obtain⟨ys,rfl,b1,b2,h'⟩:=je hy;simp only[Kd.wt,Zr]at h1 h2;have p:=j7 _ xs (hr _) h;have p' :=j7 _ ys (hr _) h';have e1:xs.length=lo:=by omega
  have e2:ys.length=lo:=by omega
  rw[e1]at h h1;rw[e2]at h' h2;rw[Wf _ xs ys (hr _) h h' (by omega) (by omega)]
theorem lss:∀(d:Nat) (k:Kd),k.Ok d->Lss k
 | 0,_,h=>h.elim
 | d+1,.whole lo hi,h=>qh h.2.1
 | d+1,.pick cs,h=>v8 h.2.2.2
 | d+1,.row ks,h=>xQ λk hk=>lss d k (h.2.2 k hk)
 | d+1,.many k lo hi,h=>v9 (lss d k h.2.2)
theorem xR {cs:List (Str×Int)}(hd:Dst (cs.map (·.1))){w:Str}(h:w∈cs.map (·.1)):X7 (.str w) (cs.map λc=>T.str c.1)= .ok (.int (((cs.map (·.1)).idxOf w:Nat):Int)):=by
 obtain⟨c,hc,rfl⟩:=au.mp h;obtain⟨i,hi⟩:=cG.mp hc;rw[QV hd hi,qk hd (i:=i) (by rw[aj,hi];rfl)]
theorem xS (lo hi:Int):f_u [(Kd.whole lo hi).t]= .ok (.int (qg lo hi)):=by
 have e:f_u [(Kd.whole lo hi).t]=zi (b_u [.vl (.tup [.str "whole",.int lo,.int hi])]):=by rw[Kd.t];rfl
 rw[e,b_u,zg (t:= .int (qg lo hi))]
 ·rfl
 ·show zc _ _ _ [.vl (.tup [.str "whole",.int lo,.int hi])]=_;rw[zf,zf,zI,bOk,ZK,bOk];show ((R.ok _).bind _)=_;rw[bOk,wa,bOk];rfl
theorem qt:∀(ks:List Kd) (xs:List T),wtz (ks.map Kd.wt) xs=((ks.zip xs).map λq=>q.1.wt q.2).sum
 | [],xs=>by simp[wtz]
 | _ :: _,[]=>by simp[wtz]
 | k :: ks,x :: xs=>by simp only[az,wtz,dR,d3,qt ks xs]
theorem Uf {α:Type}(g:α->Int):∀l:List α,zV (l.map λa=>T.int (g a))=some (l.map g)
 | []=>rfl
 | a :: l=>by
  show (match zV (l.map λa=>T.int (g a)) with | some l' =>some (g a :: l') | none=>none)=_
  rw[Uf g l];rfl
theorem xT {α:Type}(g:α->Int)(l:List α):Qq (.lst (l.map λa=>T.int (g a)))= .ok (.int (l.map g).sum):=by
 show (match zV (l.map λa=>T.int (g a)) with | some l=>_ | none=>_)=_
 rw[Uf]
theorem JX {c:List T->R T}:∀(qs:List (Kd×T)) (x y:Sl),(∀q∈qs,c [q.1.t,q.2]= .ok (.int (q.1.wt q.2)))->zr (zK 0 1) zN (za 2 c (z9 (vE 0) (z9 (vE 1) (zd)))) (qs.map λq=>T.tup [q.1.t,q.2]) [x,y]= .ok (qs.map λq=>T.int (q.1.wt q.2))
 | [],_,_,_=>rfl
 | q :: qs,x,y,h=>by
  have e:za 2 c (z9 (vE 0) (z9 (vE 1) (zd))) [.vl q.1.t,.vl q.2]= .ok (.int (q.1.wt q.2)):=by
   rw[zt,v0,bOk,v1,bOk,h q aa]
  have ih:=JX qs (.vl q.1.t) (.vl q.2) λr hr=>h r (a8 _ hr);have e0:zr (zK 0 1) zN (za 2 c (z9 (vE 0) (z9 (vE 1) (zd)))) ((q :: qs).map λq=>T.tup [q.1.t,q.2]) [x,y]=
   (za 2 c (z9 (vE 0) (z9 (vE 1) (zd))) [.vl q.1.t,.vl q.2]).bind λv=>(zr (zK 0 1) zN (za 2 c (z9 (vE 0) (z9 (vE 1) (zd)))) (qs.map λq=>T.tup [q.1.t,q.2]) [.vl q.1.t,.vl q.2]).bind λvs=> .ok (v :: vs):=rfl
  rw[e0,e,bOk,ih,bOk,az]
theorem u6 {c:List T->R T}{s:T}(ks:List Kd)(xs:List T)(hs:ZT s= .ok (ks.map Kd.t))(hl:ks.length<=3)(H:∀q∈ks.zip xs,c [q.1.t,q.2]= .ok (.int (q.1.wt q.2))):
  zi (b_y c (en0 2 [s,.tup xs]))= .ok (.int (wtz (ks.map Kd.wt) xs)):=by
 have e:en0 2 [s,.tup xs]=[.vl s,.vl (.tup xs)]:=rfl;have ez:yO (vE 0) (vE 1) [.vl s,.vl (.tup xs)]= .ok ((ks.zip xs).map λq=>T.tup [q.1.t,q.2]):=by
  show (ZT s).bind _=_;rw[hs,bOk,← KC];rfl
 have hb:((ks.zip xs).map λq=>T.tup [q.1.t,q.2]).length<=bnd:=by
  rw[xqz,d5];exact aq (fo _ _) (aq hl (by decide))
 have ec:zp (zK 0 1) zN (za 2 c (z9 (vE 0) (z9 (vE 1) (zd)))) 2 [] [.vl s,.vl (.tup xs)] ((ks.zip xs).map λq=>T.tup [q.1.t,q.2])= .ok ((ks.zip xs).map λq=>T.int (q.1.wt q.2)):=by
  unfold zp;rw[if_pos hb];show quiet (zr _ _ _ _ [.un,.un])=_;rw[JX _ _ _ H];rfl
 rw[e,b_y,zg (t:= .int (wtz (ks.map Kd.wt) xs))]
 ·rfl
 ·show ap1 _ _ [.vl s,.vl (.tup xs)]=_;rw[Zf,zC,ez,bOk,ec,bOk,bOk,xT,qt]
theorem qu {ks:List Kd}{xs:List T}(h:Hs ks xs):∀q∈ks.zip xs,q.1.has q.2=true:=λq hq=>by
 obtain⟨i,hi⟩:=cG.mp hq;obtain⟨a,b⟩:=bE.mp hi;exact h.2 i q.1 q.2 a b
theorem KR {i:Int}:z0m (.int i)= .ok (.int (qR i)):=rfl
theorem xU:∀(d n:Nat),2*d<=n->∀(k:Kd) (x:T),k.Ok d->k.has x=true->S_7 n 0 [k.t,x]= .ok (.int (k.wt x))
 | 0,_,_,_,_,h,_=>h.elim
 | d+1,n+2,hn,k,x,h,hx=>by
  have ih:=xU d n (by omega)
  have e:S_7 (n+2) 0 [k.t,x]=zi (b_7 f_e f_u (S_7 (n+1) 1) (en0 2 [k.t,x])):=by rw[S_7]
  have e1:∀s y,S_7 (n+1) 1 [s,y]=zi (b_y (S_7 n 0) (en0 2 [s,y])):=λs y=>by rw[S_7];intro h;cases h
  rw[e];cases k with
  | whole lo hi=>
   simp only[Kd.has]at hx;obtain⟨i,rfl,hi'⟩:=j6.mp hx;have e:en0 2 [(Kd.whole lo hi).t,.int i]=en2 (.tup [.str "whole",.int lo,.int hi]) (.int i):=by rw[Kd.t];rfl
   have hn:=xS lo hi;rw[Kd.t]at hn;rw[e,b_7,zq (t:= .int (qR (i - qg lo hi)))]
   ·simp only[Kd.wt];rfl
   ·rw[QP,zg];show ap1 _ _ (en2 _ _)=_;rw[Zf,zf,v1,bOk,zG,v0,bOk,hn,bOk,Zg,bOk,KR]
  | pick cs=>
   obtain⟨w,rfl,hw⟩:=ZN.mp hx;have e:en0 2 [(Kd.pick cs).t,.str w]=en2 (.tup [.str "pick",.tup (cs.map ZF)]) (.str w):=by rw[Kd.t];rfl
   have hw' :=Jv cs h.2.1;rw[Kd.t]at hw';rw[e,b_7,zb (Wl (by decide)),zq (t:= .int (((cs.map (·.1)).idxOf w:Nat):Int))]
   ·simp only[Kd.wt];rfl
   ·rw[QP,zg];show gs _ _ _ (en2 _ _)=_;unfold gs;rw[zG,v0,bOk,hw',bOk];dsimp only;rw[w1,bOk,xR h.2.2.2 hw]
  | row ks=>
   obtain⟨xs,rfl,hs⟩:=J6 hx;have e:en0 2 [(Kd.row ks).t,.tup xs]=en2 (.tup [.str "row",.tup (ks.map Kd.t)]) (.tup xs):=by rw[Kd.t,Kd.ts_map];rfl
   rw[e,b_7,zb (Wl (by decide)),zb (Wl (by decide)),zq (t:= .int (wtz (ks.map Kd.wt) xs))]
   ·simp only[Kd.wt,Kd.wtF_map];rfl
   ·rw[QP,zg];show za _ _ _ (en2 _ _)=_;rw[zt,ZK,bOk,v1,bOk,e1,u6 ks xs rfl h.2.1 λq hq=>ih q.1 q.2 (h.2.2 q.1 (bB hq).1) (qu hs q hq)]
  | many k lo hi=>
   obtain⟨xs,rfl,h1,h2,hs⟩:=je hx;have h3:xs.length<=3:=aq h2 h.2.1;have e:en0 2 [(Kd.many k lo hi).t,.tup xs]=en2 (.tup [.str "many",k.t,.int (lo:Int),.int (hi:Int)]) (.tup xs):=by rw[Kd.t];rfl
   have em:zc zP (Zt (z9 (zc ixT (vE 0) (cE (.int 1))) (zd))) (ap1 zY (vB 1)) (en2 (.tup [.str "many",k.t,.int (lo:Int),.int (hi:Int)]) (.tup xs))= .ok (.lst ((ab xs.length k).map Kd.t)):=by
    rw[zf,QH ZK,bOk,Zf,w1,bOk,j1,bOk,WP h3,ZL,aM]
   rw[e,b_7,zb (Wl (by decide)),zb (Wl (by decide)),zb (Wl (by decide)),zg (t:= .int (wtz ((ab xs.length k).map Kd.wt) xs+(xs.length:Int) - (lo:Int)))]
   ·simp only[Kd.wt,Zr];rfl
   ·show zc _ _ _ (en2 _ _)=_;have ec:=u6 (c:=S_7 n 0) (s:= .lst ((ab xs.length k).map Kd.t)) (ab xs.length k) xs rfl (by rw[aI];exact h3) λq hq=>ih q.1 q.2 (by
     rw[bc (bB hq).1];exact h.2.2) (qu hs q hq)
    rw[zf,zf,zt,em,bOk,v1,bOk,e1,ec,bOk,Zf,w1,bOk,j1,bOk,zT,bOk,wa,bOk,Zg]
theorem va {ws:List Str}(h:Dst ws):(ws.map T.str).Pairwise (λa b=>a ≠ b):=by
 rw[dq,cR];intro i j hi hj hij e;have e:ws[i]=ws[j]:=by injection e
 have:=ut h (i:=i) (j:=j) (w:=ws[j]) (by rw[a9 hi,e]) (a9 hj)
 omega
theorem qw (cs:List (Str×Int)):(Kd.pick cs).all=(cs.map (·.1)).map T.str:=by rw[Kd.all,aX];rfl
theorem Ug:∀(ls made:List (List T)) (m:Nat),(∀l∈ls,l.Pairwise (λa b=>a ≠ b))->made.Pairwise (λa b=>a ≠ b)->(∀a∈made,a.length=m)->(Zk made ls).Pairwise (λa b=>a ≠ b)
 | [],made,m,_,h,_=>by rw[Zk];exact h
 | l :: ls,made,m,hl,h,hm=>by
  rw[Zk];refine Ug ls _ (m+1) (λq hq=>hl q (a8 _ hq)) ?_ ?_
  ·rw[fv];refine⟨λa ha=> ?_,List.Pairwise.imp_of_mem (λ{a b} ha hb hab=> ?_) h⟩
   ·rw[dq];exact dr (λhxy e=>hxy (by have:=List.append_cancel_left e;injection this)) (hl l aa)
   ·intro x hx y hy e;obtain⟨u,_,rfl⟩:=au.mp hx;obtain⟨v,_,rfl⟩:=au.mp hy;exact hab (List.append_inj e (by rw[hm a ha,hm b hb])).1
  ·intro a ha;obtain⟨b,hb,hx⟩:=bT.mp ha;obtain⟨u,_,rfl⟩:=au.mp hx;rw[aB,hm b hb];rfl
theorem qx {ls:List (List T)}(h:∀l∈ls,l.Pairwise (λa b=>a ≠ b)):(W7 ls).Pairwise (λa b=>a ≠ b):=by
 unfold W7;rw[dq];refine dr (λhab e=>hab (by injection e)) (Ug ls [[]] 0 h (by simp) (by simp))
theorem u7:∀(d:Nat) (k:Kd),k.Ok d->k.all.Pairwise (λa b=>a ≠ b)
 | 0,_,h=>h.elim
 | d+1,.whole lo hi,h=>by
  rw[Kd.all,dq];exact dr (λ{i j} hab e=>hab (by injection e with e;omega)) (eU (n:=(hi+1 - lo).toNat))
 | d+1,.pick cs,h=>by rw[qw];exact va h.2.2.2
 | d+1,.row ks,h=>by
  rw[Kd.all,Kd.alls_map];refine qx λl hl=> ?_;obtain⟨k,hk,rfl⟩:=au.mp hl;exact u7 d k (h.2.2 k hk)
 | d+1,.many k lo hi,h=>by
  rw[Kd.all,fv];refine⟨λi hi=>qx λl hl=> ?_,dr (λ{i j} hij=> ?_) (eU (n:=hi+1 - lo))⟩
  ·obtain rfl:=(dS.mp hl).2;exact u7 d k h.2.2
  ·intro x hx y hy e;obtain⟨xs,h1,rfl⟩:=(jJ _ _).mp hx;obtain⟨ys,h2,rfl⟩:=(jJ _ _).mp hy;have e:xs=ys:=by injection e
   subst e;have a:=((jK _ _ _).mp h1).1;have b:=((jK _ _ _).mp h2).1;omega
theorem xV {α:Type}:∀(l m:List α),l.Pairwise (λa b=>a ≠ b)->(∀x∈l,x∈m)->l.length<=m.length
 | [],_,_,_=>ba _
 | x :: l,m,h,hs=>by
  obtain⟨a,b,rfl⟩:=List.append_of_mem (hs x aa);have h' :=bG.mp h;have:=xV l (a++b) h'.2 λy hy=>by
   have hy' :=hs y (a8 _ hy);rw[aZ,ah]at hy';rw[aZ];rcases hy' with z | z | z
   ·exact .inl z
   ·exact absurd z.symm (h'.1 y hy)
   ·exact .inr z
  simp at this ⊢;omega
theorem z0A {α:Type}:∀(l m:List α),l.Pairwise (λa b=>a ≠ b)->m.Pairwise (λa b=>a ≠ b)->(∀x∈l,x∈m)->l.length=m.length->∀x∈m,x∈l:=λl m h hm hs e x hx=>by
 refine Classical.byContradiction λhn=> ?_;have:=xV (x :: l) m (bG.mpr ⟨λy hy z=>hn (z ▸ hy),h⟩) λy hy=>by
  rcases ah.mp hy with rfl | hy
  ·exact hx
  ·exact hs y hy
 simp at this;omega
theorem xW {k l:Kd}{d:Nat}(hk:k.Ok d)(hl:l.Ok d)(h:∀x,k.has x=true->l.has x=true):k.all.length<=l.all.length/\(k.all.length=l.all.length->∀x,l.has x=true->k.has x=true):=by
 have hs:∀x∈k.all,x∈l.all:=λx hx=>(Zl l x).mpr (h x ((Zl k x).mp hx));exact⟨xV _ _ (u7 d k hk) hs,λe x hx=>(Zl k x).mp (z0A _ _ (u7 d k hk) (u7 d l hl) hs e x ((Zl l x).mpr hx))⟩
noncomputable abbrev Cm (k l:Kd)(d:Nat)(r:R T):Prop:=(∃c:Kd,r= .ok c.t/\c.Ok d/\∀x,c.has x=(k.has x && l.has x))\/(r= .ok .non/\∀x,(k.has x && l.has x)=false)
theorem KS {f g:En->R T}{ρ:En}{i j:Int}(hf:f ρ= .ok (.int i))(hg:g ρ= .ok (.int j)):zc ui f g ρ= .ok (.int (max i j)):=by
 rw[zf,hf,bOk,hg,bOk];show R.ok (T.int (if j > i then j else i))=_
 congr 2;split <;> omega
theorem KT {f g:En->R T}{ρ:En}{i j:Int}(hf:f ρ= .ok (.int i))(hg:g ρ= .ok (.int j)):zc jB f g ρ= .ok (.int (min i j)):=by
 rw[zf,hf,bOk,hg,bOk];show R.ok (T.int (if j < i then j else i))=_
 congr 2;split <;> omega
theorem jx1 {x a b:T}{r:List T}{ρ:En}:zc ixT (vE 1) (cE (.int 1)) (.vl x :: .vl (.tup (a :: b :: r)) :: ρ)= .ok b:=by rw[zf,v1,bOk,zI,bOk,at1]
theorem jx2 {x a b c:T}{r:List T}{ρ:En}:zc ixT (vE 1) (cE (.int 2)) (.vl x :: .vl (.tup (a :: b :: c :: r)) :: ρ)= .ok c:=by rw[zf,v1,bOk,zI,bOk,at2]
theorem jx3 {x a b c d:T}{r:List T}{ρ:En}:zc ixT (vE 1) (cE (.int 3)) (.vl x :: .vl (.tup (a :: b :: c :: d :: r)) :: ρ)= .ok d:=by rw[zf,v1,bOk,zI,bOk,at3]
theorem qy {d:Nat}(a b c e:Int)(h1:(Kd.whole a b).Ok (d+1))(h2:(Kd.whole c e).Ok (d+1)):Cm (.whole a b) (.whole c e) (d+1) (Kj [(Kd.whole a b).t,(Kd.whole c e).t]):=by
 have ex:Kj [(Kd.whole a b).t,(Kd.whole c e).t]=if max a c<=min b e then .ok (.tup [.str "whole",.int (max a c),.int (min b e)]) else .ok .non:=by
  show zi (gT [.vl (Kd.whole a b).t,.vl (Kd.whole c e).t,.un,.un])=_;unfold gT;have e1:zz 2 (zc ui (zc ixT (vE 0) (cE (.int 1))) (zc ixT (vE 1) (cE (.int 1)))) [.vl (Kd.whole a b).t,.vl (Kd.whole c e).t,.un,.un]= .nx [.vl (Kd.whole a b).t,.vl (Kd.whole c e).t,.vl (.int (max a c)),.un]:=by
   rw[zw (t:= .int (max a c))]
   ·rfl
   ·exact KS (by rw[Kd.t];exact ZK) (by rw[Kd.t,Kd.t];exact jx1)
  have e2:zz 3 (zc jB (zc ixT (vE 0) (cE (.int 2))) (zc ixT (vE 1) (cE (.int 2)))) [.vl (Kd.whole a b).t,.vl (Kd.whole c e).t,.vl (.int (max a c)),.un]= .nx [.vl (Kd.whole a b).t,.vl (Kd.whole c e).t,.vl (.int (max a c)),.vl (.int (min b e))]:=by
   rw[zw (t:= .int (min b e))]
   ·rfl
   ·exact KT (by rw[Kd.t];exact wa) (by rw[Kd.t,Kd.t];exact jx2)
  rw[zb e1,zb e2];have et:zh leC (vB 2) (vB 3) [.vl (Kd.whole a b).t,.vl (Kd.whole c e).t,.vl (.int (max a c)),.vl (.int (min b e))]= .ok (decide (max a c<=min b e)):=rfl
  by_cases h:max a c<=min b e
  ·rw[if_pos h,zg (t:= .tup [.str "whole",.int (max a c),.int (min b e)]) (by show ifE _ _ _ [.vl (Kd.whole a b).t,.vl (Kd.whole c e).t,.vl (.int (max a c)),.vl (.int (min b e))]=_;rw[QW (by rw[et,decide_eq_true h])];exact qM rfl rfl rfl)];rfl
  ·rw[if_neg h,zg (t:= .non) (by show ifE _ _ _ [.vl (Kd.whole a b).t,.vl (Kd.whole c e).t,.vl (.int (max a c)),.vl (.int (min b e))]=_;rw[QX (by rw[et,decide_eq_false h])];rfl)];rfl
 have hh:∀x,((Kd.whole a b).has x && (Kd.whole c e).has x)=inR (max a c) (min b e) x:=λx=>by
  rw[Kd.has,Kd.has];cases x with
  | int i=>
   show ((decide (a<=i) && decide (i<=b)) && (decide (c<=i) && decide (i<=e)))=(decide (max a c<=i) && decide (i<=min b e));rw[bM];simp only[ac,decide_eq_true_eq];omega
  | _=>rfl
 rw[ex]
 by_cases h:max a c<=min b e
 ·rw[if_pos h];refine .inl ⟨.whole (max a c) (min b e),by rw[Kd.t],⟨?_,h, ?_⟩,λx=>by rw[hh];rw[Kd.has]⟩
  ·have:=h1.1;have:=h2.1;omega
  ·have:=h1.2.2;have:=h2.2.2;omega
 ·rw[if_neg h];refine .inr ⟨rfl,λx=> ?_⟩;rw[hh];cases x with
  | int i=>
   show (decide (max a c<=i) && decide (i<=min b e))=false;rw[bJ];simp only[ne_eq,ac,decide_eq_true_eq];omega
  | _=>rfl
theorem vc {d:Nat}(cs es:List (Str×Int))(h1:(Kd.pick cs).Ok (d+1))(h2:(Kd.pick es).Ok (d+1)):Cm (.pick cs) (.pick es) (d+1) (Kk [(Kd.pick cs).t,(Kd.pick es).t]):=by
 obtain⟨_,h14,hcs,hds⟩:=h1;have hw:=Jv es h2.2.1
 let fs:=cs.filter λc=>decide (c.1∈es.map (·.1))
 have ef:fs=cs.filter λc=>decide (c.1∈es.map (·.1)):=rfl;have hlen:fs.length<=cs.length:=List.length_filter_le _ _;have ex:Kk [(Kd.pick cs).t,(Kd.pick es).t]=if 0 < fs.length then .ok (.tup [.str "pick",.tup (fs.map ZF)]) else .ok .non:=by
  show zi (gU f_e [.vl (Kd.pick cs).t,.vl (Kd.pick es).t,.un,.un])=_;unfold gU;have e1:zz 2 (za 1 f_e (z9 (vE 1) (zd))) [.vl (Kd.pick cs).t,.vl (Kd.pick es).t,.un,.un]= .nx [.vl (Kd.pick cs).t,.vl (Kd.pick es).t,.vl (.lst (es.map λc=>T.str c.1)),.un]:=by
   rw[zw (t:= .lst (es.map λc=>T.str c.1))]
   ·rfl
   ·rw[zG,v1,bOk,hw]
  have ec:zF (Zs (zc ixT (vE 0) (cE (.int 1)))) (zl 0) (zh inC (zc ixT (vE 0) (cE (.int 0))) (vB 1)) (vE 0) 1 [2] [.vl (Kd.pick cs).t,.vl (Kd.pick es).t,.vl (.lst (es.map λc=>T.str c.1)),.un]= .ok (.lst (fs.map ZF)):=by
   have ei:Zs (zc ixT (vE 0) (cE (.int 1))) [.vl (Kd.pick cs).t,.vl (Kd.pick es).t,.vl (.lst (es.map λc=>T.str c.1)),.un]= .ok (cs.map ZF):=by
    rw[Zi,Kd.t,ZK,bOk];rfl
   rw[zC,ei,bOk];unfold zp;rw[if_pos (by rw[xqz];exact aq h14 (by decide))]
   have eL:zr (zl 0) (zh inC (zc ixT (vE 0) (cE (.int 0))) (vB 1)) (vE 0) (cs.map ZF) (w8 1 [2] [.vl (Kd.pick cs).t,.vl (Kd.pick es).t,.vl (.lst (es.map λc=>T.str c.1)),.un])= .ok (((cs.map ZF).filter λt=>match t with | .tup [.str w,_]=>decide (w∈es.map (·.1)) | _=>false).map λt=>t):=by
    refine ZE (p:=λt=>match t with | .tup [.str w,_]=>decide (w∈es.map (·.1)) | _=>false) (h:=λt=>t) _ _ λt ht=> ?_
    obtain⟨c,hc,rfl⟩:=au.mp ht;refine⟨?_,λ_=>rfl⟩;show zh inC (zc ixT (vE 0) (cE (.int 0))) (vB 1) [.vl (ZF c),.vl (.lst (es.map λc=>T.str c.1))]= .ok (decide (c.1∈es.map (·.1)));have e0:zc ixT (vE 0) (cE (.int 0)) [.vl (ZF c),.vl (.lst (es.map λc=>T.str c.1))]= .ok (.str c.1):=by
     rw[zf,v0,bOk,zI,bOk];unfold ZF;exact at0
    rw[zu,e0,bOk,w1,bOk];show (match jo (λy=>eqF 30 y (.str c.1)) (es.map λc=>T.str c.1) with | some b=>R.ok b | none=> .bad)=_
    have em:(es.map λc=>T.str c.1)=(es.map (·.1)).map T.str:=by rw[aX];rfl
    rw[em,W5]
   have eF:(((cs.map ZF).filter λt=>match t with | .tup [.str w,_]=>decide (w∈es.map (·.1)) | _=>false).map λt=>t)=fs.map ZF:=by
    rw[List.map_id',List.filter_map];rfl
   rw[eL,eF];rfl
  have e2:zz 3 (zF (Zs (zc ixT (vE 0) (cE (.int 1)))) (zl 0) (zh inC (zc ixT (vE 0) (cE (.int 0))) (vB 1)) (vE 0) 1 [2]) [.vl (Kd.pick cs).t,.vl (Kd.pick es).t,.vl (.lst (es.map λc=>T.str c.1)),.un]= .nx [.vl (Kd.pick cs).t,.vl (Kd.pick es).t,.vl (.lst (es.map λc=>T.str c.1)),.vl (.lst (fs.map ZF))]:=by
   rw[zw ec];rfl
  rw[zb e1,zb e2];have et:zh gtC (ap1 zY (vB 3)) (cE (.int 0)) [.vl (Kd.pick cs).t,.vl (Kd.pick es).t,.vl (.lst (es.map λc=>T.str c.1)),.vl (.lst (fs.map ZF))]= .ok (decide (0 < fs.length)):=by
   show R.ok (decide ((0:Int) < ((fs.map ZF).length:Nat)))=_;rw[xqz]
   by_cases hz:0 < fs.length
   ·rw[decide_eq_true hz,decide_eq_true (by omega)]
   ·rw[decide_eq_false hz,decide_eq_false (by omega)]
  by_cases h:0 < fs.length
  ·rw[if_pos h,zg (t:= .tup [.str "pick",.tup (fs.map ZF)]) (by show ifE _ _ _ [.vl (Kd.pick cs).t,.vl (Kd.pick es).t,.vl (.lst (es.map λc=>T.str c.1)),.vl (.lst (fs.map ZF))]=_;rw[QW (by rw[et,decide_eq_true h])];exact uR rfl rfl)];rfl
  ·rw[if_neg h,zg (t:= .non) (by show ifE _ _ _ [.vl (Kd.pick cs).t,.vl (Kd.pick es).t,.vl (.lst (es.map λc=>T.str c.1)),.vl (.lst (fs.map ZF))]=_;rw[QX (by rw[et,decide_eq_false h])];rfl)];rfl
 have hh:∀y:Str,((Kd.pick cs).has (.str y) && (Kd.pick es).has (.str y))=fs.any λc=>c.1 == y:=λy=>by
  rw[Kd.has,Kd.has];rw[bM];simp only[ac,cP,beq_iff_eq];constructor
  ·rintro⟨⟨c,hc,rfl⟩,⟨e,he,e1⟩⟩
   exact⟨c,bK.mpr ⟨hc,decide_eq_true (au.mpr ⟨e,he,e1⟩)⟩,rfl⟩
  ·rintro⟨c,hc,rfl⟩
   obtain⟨a1,a2⟩:=bK.mp hc;obtain⟨e,he,e1⟩:=au.mp (of_decide_eq_true a2);exact⟨⟨c,a1,rfl⟩,⟨e,he,e1⟩⟩
 have hn:∀x,(∀y,x ≠ .str y)->((Kd.pick cs).has x && (Kd.pick es).has x)=false:=λx hx=>by
  rw[Kd.has,Kd.has];cases x with
  | str y=>exact absurd rfl (hx y)
  | _=>rfl
 rw[ex]
 by_cases h:0 < fs.length
 ·rw[if_pos h];refine .inl ⟨.pick fs,by rw[Kd.t],⟨h,by omega,λc hc=>hcs c (bK.mp hc).1, ?_⟩,λx=> ?_⟩
  ·have hp:(cs.map (·.1)).Pairwise (λa b=>a ≠ b):=by
    rw[cR];intro i j hi hj hij e;have:=ut hds (i:=i) (j:=j) (w:=(cs.map (·.1))[j]) (by rw[a9 hi,e]) (a9 hj)
    omega
   have hp2:(fs.map (·.1)).Pairwise (λa b=>a ≠ b):=List.Pairwise.sublist (List.Sublist.map _ List.filter_sublist) hp;intro j w hj hm;obtain⟨i,hi,e⟩:=c8.mp hm;rw[cO]at hi;rw[List.getElem_take]at e;obtain⟨hj',ej⟩:=ak.mp hj;exact(cR.mp hp2) i j (by omega) hj' (by omega) (by rw[e,ej])
  ·cases x with
   | str y=>rw[hh];rw[Kd.has]
   | _=>rw[hn _ (λy z=>by cases z)];rw[Kd.has]
 ·rw[if_neg h];refine .inr ⟨rfl,λx=> ?_⟩;cases x with
  | str y=>
   rw[hh];have:fs=[]:=d7.mp (by omega)
   rw[this];rfl
  | _=>exact hn _ (λy z=>by cases z)
theorem zx {g:En->R Bool}{f:En->R T}{h:En->RS}{ρ:En}(hg:g ρ= .ok true):zi (zj (ifS g (zo f) nxS) h ρ)=f (frz ρ):=by
 rw[zR,ZI hg,Z9];cases f (frz ρ) <;> rfl
theorem j8 {f:En->R T}{ρ:En}:zi (zo f ρ)=f (frz ρ):=by rw[Z9,jG]
theorem z0B (k:Kd):∃x r,k.t= .tup (.str x :: r):=by
 cases k <;> exact⟨_,_,by rw[Kd.t]⟩
noncomputable def US:Option Kd->T
 | some c=>c.t
 | none=> .non
theorem qz:∀os:List (Option Kd),jo (λy=>eqF 30 y .non) (os.map US)=some (os.any eJ)
 | []=>rfl
 | o :: os=>by
  have e:jo (λy=>eqF 30 y .non) ((o :: os).map US)=match eqF 30 (US o) .non with | none=>none | some b=>match jo (λy=>eqF 30 y .non) (os.map US) with | none=>none | some c=>some (b || c):=rfl
  rw[e,qz os];cases o with
  | none=>rfl
  | some c=>
   obtain⟨x,r,h⟩:=z0B c;have:eqF 30 (US (some c)) .non=some false:=by show eqF 30 c.t .non=_;rw[h];rfl
   rw[this];rfl
theorem Uh:∀os:List (Option Kd),os.any eJ=false->∃cs:List Kd,os=cs.map some
 | [],_=>⟨[],rfl⟩
 | o :: os,h=>by
  rw[eC,dD]at h;obtain⟨cs,rfl⟩:=Uh os h.2;cases o with
  | none=>cases h.1
  | some c=>exact⟨c :: cs,rfl⟩
noncomputable def Ck (d:Nat)(q:Kd×Kd):Option Kd->Prop
 | some c=>c.Ok d/\∀x,c.has x=(q.1.has x && q.2.has x)
 | none=>∀x,(q.1.has x && q.2.has x)=false
noncomputable abbrev ckE (c:List T->R T):En->R T:=za 2 c (z9 (vE 0) (z9 (vE 1) (zd)))
theorem qA {c:List T->R T}{d:Nat}:∀(qs:List (Kd×Kd)) (x y:Sl),(∀q∈qs,∃o,c [q.1.t,q.2.t]= .ok (US o)/\Ck d q o)->
  ∃os:List (Option Kd),zr (zK 0 1) zN (ckE c) (qs.map λq=>T.tup [q.1.t,q.2.t]) [x,y]= .ok (os.map US)/\os.length=qs.length/\∀(i:Nat) (q:Kd×Kd) (o:Option Kd),qs[i]? =some q->os[i]? =some o->Ck d q o
 | [],_,_,_=>⟨[],rfl,rfl,λi q o h=>by simp at h⟩
 | q :: qs,x,y,h=>by
  obtain⟨o,e1,hc⟩:=h q aa;obtain⟨os,e2,e3,e4⟩:=qA (c:=c) (d:=d) qs (.vl q.1.t) (.vl q.2.t) λr hr=>h r (a8 _ hr);have e0:zr (zK 0 1) zN (ckE c) ((q :: qs).map λq=>T.tup [q.1.t,q.2.t]) [x,y]=(ckE c [.vl q.1.t,.vl q.2.t]).bind λv=>(zr (zK 0 1) zN (ckE c) (qs.map λq=>T.tup [q.1.t,q.2.t]) [.vl q.1.t,.vl q.2.t]).bind λvs=> .ok (v :: vs):=rfl;have e5:ckE c [.vl q.1.t,.vl q.2.t]=c [q.1.t,q.2.t]:=by unfold ckE;rw[zt,v0,bOk,v1,bOk]
  refine⟨o :: os,by rw[e0,e5,e1,bOk,e2,bOk,az],by rw[ar,ar,e3],λi q' o' h1 h2=> ?_⟩
  cases i with
  | zero=>cases h1;cases h2;exact hc
  | succ i=>exact e4 i q' o' (by simpa using h1) (by simpa using h2)
theorem J7:∀(ks:List Kd) (xs:List T),Kd.hass ks xs=true↔∀(i:Nat) (k:Kd) (x:T),ks[i]? =some k->xs[i]? =some x->k.has x=true
 | [],_=>by simp[Kd.hass]
 | k :: ks,[]=>by simp[Kd.hass]
 | k :: ks,x :: xs=>by
  rw[Kd.hass];simp only[ac];rw[J7 ks xs];constructor
  ·rintro⟨h1,h2⟩ i k' x' e1 e2
   cases i with
   | zero=>cases e1;cases e2;exact h1
   | succ i=>exact h2 i k' x' (by simpa using e1) (by simpa using e2)
  ·intro h;exact⟨h 0 k x rfl rfl,λi k' x' e1 e2=>h (i+1) k' x' (by simpa using e1) (by simpa using e2)⟩
theorem xX {n d:Nat}{s s' :T}(ks ls:List Kd)(hs:ZT s= .ok (ks.map Kd.t))(hs' :ZT s' = .ok (ls.map Kd.t))(hl:zY s= .ok (.int (ks.length:Int)))(hl' :zY s' = .ok (.int (ls.length:Int)))(h3:ks.length<=3)(H:∀k∈ks,∀l∈ls,Cm k l d (S_5 n 0 [k.t,l.t])):
  (∃cs:List Kd,S_5 (n+1) 1 [s,s']= .ok (.tup [.str "row",.tup (cs.map Kd.t)])/\cs.length=ks.length/\ks.length=ls.length/\(∀c∈cs,c.Ok d)/\∀xs:List T,xs.length=ks.length->Kd.hass cs xs=(Kd.hass ks xs && Kd.hass ls xs))\/
  (S_5 (n+1) 1 [s,s']= .ok .non/\∀xs:List T,xs.length=ks.length->xs.length=ls.length->(Kd.hass ks xs && Kd.hass ls xs)=false):=by
 have e:S_5 (n+1) 1 [s,s']=zi (gW (S_5 n 0) [.vl s,.vl s',.un]):=by
  rw[S_5];rfl
 have et:zh neC (ap1 zY (vB 0)) (ap1 zY (vB 1)) [.vl s,.vl s',.un]= .ok (!((ks.length:Int) == (ls.length:Int))):=by
  rw[zu,Zf,w0,bOk,hl,bOk,Zf,w1,bOk,hl',bOk];rfl
 rw[e];unfold gW
 by_cases hkl:ks.length=ls.length
 ·have ez:yO (vE 0) (vE 1) [.vl s,.vl s',.un]= .ok ((ks.zip ls).map λq=>T.tup [q.1.t,q.2.t]):=by
   show (ZT s).bind _=_;rw[hs,bOk,hs',bOk];unfold yN;rw[List.zip_map,aX];rfl
  obtain⟨os,e1,e2,e3⟩:=qA (c:=S_5 n 0) (d:=d) (ks.zip ls) .un .un λq hq=>by
   rcases H q.1 (bB hq).1 q.2 (bB hq).2 with ⟨c,a1,a2,a3⟩ | ⟨a1,a2⟩
   ·exact⟨some c,a1,a2,a3⟩
   ·exact⟨none,a1,a2⟩
  have hol:os.length=ks.length:=by rw[e2,d5];omega
  have ec:zF (yO (vE 0) (vE 1)) (zK 0 1) zN (ckE (S_5 n 0)) 2 [] [.vl s,.vl s',.un]= .ok (.lst (os.map US)):=by
   rw[zC,ez,bOk];unfold zp;rw[if_pos (by rw[xqz,d5];exact aq (fo _ _) (aq h3 (by decide)))]
   show (quiet (zr _ _ _ _ [.un,.un])).bind _=_;rw[e1];rfl
  have es:zz 2 (zF (yO (vE 0) (vE 1)) (zK 0 1) zN (ckE (S_5 n 0)) 2 []) [.vl s,.vl s',.un]= .nx [.vl s,.vl s',.vl (.lst (os.map US))]:=by rw[zw ec];rfl
  have ei:zh inC (cE .non) (vB 2) [.vl s,.vl s',.vl (.lst (os.map US))]= .ok (os.any eJ):=by
   rw[zu,zI,bOk,w2,bOk];show (match jo (λy=>eqF 30 y .non) (os.map US) with | some b=>R.ok b | none=> .bad)=_
   rw[qz]
  rw[zb (ze (by rw[et,hkl,beq_self_eq_true];rfl)),zb es]
  have zat:∀(i:Nat) (k l:Kd),ks[i]? =some k->ls[i]? =some l->(ks.zip ls)[i]? =some (k,l):=λi k l h1 h2=>by
   rw[bE];exact⟨h1,h2⟩
  cases hn:os.any eJ with
  | true=>
   right
   rw[zx (by rw[ei,hn])]
   refine⟨rfl,λxs hx hx' => ?_⟩;obtain⟨o,ho,hio⟩:=cP.mp hn;obtain⟨i,hi,rfl⟩:=c8.mp ho;have hik:i < ks.length:=by omega
   have hil:i < ls.length:=by omega
   have hix:i < xs.length:=by omega
   have hc:=e3 i (ks[i],ls[i]) os[i] (zat i _ _ (a9 hik) (a9 hil)) (a9 hi);have ho' :os[i]=none:=by cases q:os[i] with | none=>rfl | some c=>rw[q]at hio;cases hio
   rw[ho']at hc;rw[bJ];intro z;rw[ac,J7,J7]at z;have z1:=z.1 i _ xs[i] (a9 hik) (a9 hix);have z2:=z.2 i _ xs[i] (a9 hil) (a9 hix);have:=hc xs[i];rw[z1,z2]at this;cases this
  | false=>
   left
   obtain⟨cs,rfl⟩:=Uh os hn;have hcl:cs.length=ks.length:=by rw[xqz]at hol;exact hol
   have em:(cs.map some).map US=cs.map Kd.t:=by rw[aX];rfl
   rw[em]at ei ⊢;rw[zb (ze (by rw[ei,hn])),j8]
   have cat:∀(i:Nat) (c k l:Kd),cs[i]? =some c->ks[i]? =some k->ls[i]? =some l->c.Ok d/\∀x,c.has x=(k.has x && l.has x):=λi c k l h1 h2 h3=>e3 i (k,l) (some c) (zat i k l h2 h3) (by rw[aj,h1];rfl)
   refine⟨cs,uR rfl rfl,hcl,hkl,λc hc=> ?_,λxs hx=> ?_⟩
   ·obtain⟨i,hi,rfl⟩:=c8.mp hc;exact(cat i _ _ _ (a9 hi) (a9 (by omega)) (a9 (by omega))).1
   ·rw[bM,ac,J7,J7,J7];constructor
    ·intro h;refine⟨λi k x h1 h2=> ?_,λi l x h1 h2=> ?_⟩
     ·have hi:=(ak.mp h1).1;have hic:i < cs.length:=by omega
      have hil:i < ls.length:=by omega
      have q:=(cat i _ _ _ (a9 hic) h1 (a9 hil)).2 x;rw[h i _ x (a9 hic) h2]at q;exact(c9.mp q.symm).1
     ·have hi:=(ak.mp h1).1;have hic:i < cs.length:=by omega
      have hik:i < ks.length:=by omega
      have q:=(cat i _ _ _ (a9 hic) (a9 hik) h1).2 x;rw[h i _ x (a9 hic) h2]at q;exact(c9.mp q.symm).2
    ·rintro⟨h1,h2⟩ i c x q1 q2
     have hi:=(ak.mp q1).1;have hik:i < ks.length:=by omega
     have hil:i < ls.length:=by omega
     rw[(cat i _ _ _ q1 (a9 hik) (a9 hil)).2 x,h1 i _ x (a9 hik) q2,h2 i _ x (a9 hil) q2];rfl
 ·right
  rw[zx (by rw[et,beq_eq_false_iff_ne.mpr (by omega)];rfl)]
  exact⟨rfl,λxs h1 h2=>by omega⟩
noncomputable def kop:Kd->Nat->List Kd
 | .row ks,_=>ks
 | .many k lo hi,n=>if lo<=n/\n<=hi then ab n k else []
 | _,_=>[]
theorem KU {x:T}{m:Nat}(h1:1<=m)(h:m<=3):QD (.tup [x]) (.int (m:Int))= .ok (.tup (ab m x)):=by
 by_cases e:m=1
 ·subst e;have c:((1:Nat):Int)=1/\[x] ≠ []:=⟨rfl,by simp⟩
  unfold QD;dsimp only;rw[if_pos c];rfl
 ·have:QD (.tup [x]) (.int (m:Int))=zP (.tup [x]) (.int (m:Int)):=if_neg (λz=>e (by omega))
  have c:2<=(m:Int)/\(m:Int) < 1000000/\[x] ≠ []/\[x].length*(m:Int).toNat<=bnd:=⟨by omega,by omega,by simp,by rw[aJ,aT];exact aq (show 1*m<=3 by omega) (by decide)⟩
  rw[this,show zP (.tup [x]) (.int (m:Int))= .ok (.tup (ab (m:Int).toNat [x]).flatten) from if_pos c,aT,ZL]
theorem V5 (k:Kd)(n:Nat)(hn:1<=n)(h3:∀l lo hi,k= .many l lo hi->hi<=3):f_z [k.t,.int (n:Int)]= .ok (.tup ((kop k n).map Kd.t)):=by
 show zi (b_z (en2 k.t (.int (n:Int))))=_;unfold b_z;cases k with
 | row ks=>rw[zx (by rw[Kd.t];exact cs0),show frz (en2 (Kd.row ks).t (.int (n:Int)))=en2 (Kd.row ks).t (.int (n:Int)) from rfl,Kd.t,Kd.ts_map,ZK];rfl
 | whole a b=>
  have e0:zh eqC (zc ixT (vE 0) (cE (.int 0))) (cE (.str "many")) (en2 (Kd.whole a b).t (.int (n:Int)))= .ok false:=by rw[Kd.t];exact cs0
  rw[zb (ze (by rw[Kd.t];exact cs0)),zb (ze (by rw[W4,e0,bOk];rfl)),j8];rfl
 | pick cs=>
  have e0:zh eqC (zc ixT (vE 0) (cE (.int 0))) (cE (.str "many")) (en2 (Kd.pick cs).t (.int (n:Int)))= .ok false:=by rw[Kd.t];exact cs0
  rw[zb (ze (by rw[Kd.t];exact cs0)),zb (ze (by rw[W4,e0,bOk];rfl)),j8];rfl
 | many k lo hi=>
  have h3' :=h3 k lo hi rfl;have e0:zh eqC (zc ixT (vE 0) (cE (.int 0))) (cE (.str "many")) (en2 (Kd.many k lo hi).t (.int (n:Int)))= .ok true:=by rw[Kd.t];exact cs0
  have et:Wy (zh eqC (zc ixT (vE 0) (cE (.int 0))) (cE (.str "many"))) (chT leC leC (zc ixT (vE 0) (cE (.int 2))) (vB 1) (zc ixT (vE 0) (cE (.int 3)))) (en2 (Kd.many k lo hi).t (.int (n:Int)))= .ok (decide (lo<=n) && decide (n<=hi)):=by
   rw[W4,e0,bOk,if_pos rfl,Ko,Kd.t,wa,bOk,w1,bOk,Jm,bOk,vU,bOk,Jm,Jh,Jh];cases decide (lo<=n) <;> rfl
  rw[zb (ze (by rw[Kd.t];exact cs0))]
  have ek:kop (.many k lo hi) n=if lo<=n/\n<=hi then ab n k else []:=rfl
  rw[ek]
  by_cases h:lo<=n/\n<=hi
  ·rw[if_pos h,zx (by rw[et,decide_eq_true h.1,decide_eq_true h.2];rfl)]
   show zc QD _ _ (en2 (Kd.many k lo hi).t (.int (n:Int)))=_;rw[zf,tup1 (x:=k.t) (by rw[Kd.t];exact ZK),bOk,v1,bOk]
   rw[KU hn (by omega),aM]
  ·rw[if_neg h,zb (ze (by rw[et];congr 1;rw[bJ];intro z;rw[ac,decide_eq_true_eq,decide_eq_true_eq]at z;exact h z)),j8];rfl
theorem jf (k:Kd)(lo hi:Nat)(xs:List T):(Kd.many k lo hi).has (.tup xs)=(decide (lo<=xs.length) && decide (xs.length<=hi) && xs.all k.has):=by rw[Kd.has]
theorem JY (ks:List Kd)(xs:List T):(Kd.row ks).has (.tup xs)=(xs.length == ks.length && Kd.hass ks xs):=by rw[Kd.has]
theorem qB {α:Type}(p q:α->Bool):∀l:List α,l.all (λx=>p x && q x)=(l.all p && l.all q)
 | []=>rfl
 | x :: l=>by
  rw[bq,bq,bq,qB p q l];cases p x <;> cases q x <;> cases l.all p <;> rfl
noncomputable abbrev cmE (a b x y z:Sl):En:=[a,b,x,y,z]
theorem vd {n d:Nat}(k l:Kd)(lo hi lo' hi' :Nat)(h1:(Kd.many k lo hi).Ok (d+1))(h2:(Kd.many l lo' hi').Ok (d+1))(H:Cm k l d (S_5 n 0 [k.t,l.t])):
  Cm (.many k lo hi) (.many l lo' hi') (d+1) (S_5 (n+1) 2 [(Kd.many k lo hi).t,(Kd.many l lo' hi').t]):=by
 have e:S_5 (n+1) 2 [(Kd.many k lo hi).t,(Kd.many l lo' hi').t]=zi (gX (S_5 n 0) (cmE (.vl (mt k.t lo hi)) (.vl (mt l.t lo' hi')) .un .un .un)):=by
  rw[S_5]
  ·rw[Kd.t,Kd.t];rfl
  ·intro h;cases h
  ·intro h;cases h
 have c1:((max lo lo' :Nat):Int)=max (lo:Int) (lo' :Int):=by omega
 have c2:((min hi hi' :Nat):Int)=min (hi:Int) (hi' :Int):=by omega
 have e1:zz 2 (zc ui (zc ixT (vE 0) (cE (.int 2))) (zc ixT (vE 1) (cE (.int 2)))) (cmE (.vl (mt k.t lo hi)) (.vl (mt l.t lo' hi')) .un .un .un)= .nx (cmE (.vl (mt k.t lo hi)) (.vl (mt l.t lo' hi')) (.vl (.int ((max lo lo' :Nat):Int))) .un .un):=by
  rw[zw (KS wa jx2),c1];rfl
 have e2:zz 3 (zc jB (zc ixT (vE 0) (cE (.int 3))) (zc ixT (vE 1) (cE (.int 3)))) (cmE (.vl (mt k.t lo hi)) (.vl (mt l.t lo' hi')) (.vl (.int ((max lo lo' :Nat):Int))) .un .un)= .nx (cmE (.vl (mt k.t lo hi)) (.vl (mt l.t lo' hi')) (.vl (.int ((max lo lo' :Nat):Int))) (.vl (.int ((min hi hi' :Nat):Int))) .un):=by
  rw[zw (KT vU jx3),c2];rfl
 have et:zh gtC (vB 2) (vB 3) (cmE (.vl (mt k.t lo hi)) (.vl (mt l.t lo' hi')) (.vl (.int ((max lo lo' :Nat):Int))) (.vl (.int ((min hi hi' :Nat):Int))) .un)= .ok (decide (min hi hi' < max lo lo')):=by
  show R.ok (decide (((min hi hi' :Nat):Int) < ((max lo lo' :Nat):Int)))=_
  by_cases hz:min hi hi' < max lo lo'
  ·rw[decide_eq_true hz,decide_eq_true (by omega)]
  ·rw[decide_eq_false hz,decide_eq_false (by omega)]
 have hnt:∀x,(∀xs,x ≠ .tup xs)->((Kd.many k lo hi).has x && (Kd.many l lo' hi').has x)=false:=λx hx=>by
  rw[Kd.has];cases x with
  | tup xs=>exact absurd rfl (hx xs)
  | _=>rfl
 have hht:∀xs,((Kd.many k lo hi).has (.tup xs) && (Kd.many l lo' hi').has (.tup xs))=(decide (max lo lo' <=xs.length) && decide (xs.length<=min hi hi') && xs.all λx=>k.has x && l.has x):=λxs=>by
  rw[jf,jf,qB,bM];simp only[ac,decide_eq_true_eq];constructor
  ·rintro⟨⟨⟨a1,a2⟩,a3⟩,⟨⟨b1,b2⟩,b3⟩⟩
   exact⟨⟨by omega,by omega⟩,a3,b3⟩
  ·rintro⟨⟨a1,a2⟩,a3,b3⟩
   exact⟨⟨⟨by omega,by omega⟩,a3⟩,⟨⟨by omega,by omega⟩,b3⟩⟩
 rw[e];unfold gX;rw[zb e1,zb e2]
 by_cases hgt:min hi hi' < max lo lo'
 ·rw[zx (by rw[et,decide_eq_true hgt])]
  refine .inr ⟨rfl,λx=> ?_⟩;cases x with
  | tup xs=>
   rw[hht,bJ];intro z;simp only[ac,decide_eq_true_eq]at z;omega
  | _=>exact hnt _ (λy z=>by cases z)
 ·rw[zb (ze (by rw[et,decide_eq_false hgt]))]
  have ec:∀t,S_5 n 0 [k.t,l.t]= .ok t->zz 4 (za 2 (S_5 n 0) (z9 (zc ixT (vE 0) (cE (.int 1))) (z9 (zc ixT (vE 1) (cE (.int 1))) (zd)))) (cmE (.vl (mt k.t lo hi)) (.vl (mt l.t lo' hi')) (.vl (.int ((max lo lo' :Nat):Int))) (.vl (.int ((min hi hi' :Nat):Int))) .un)= .nx (cmE (.vl (mt k.t lo hi)) (.vl (mt l.t lo' hi')) (.vl (.int ((max lo lo' :Nat):Int))) (.vl (.int ((min hi hi' :Nat):Int))) (.vl t)):=λt ht=>by
   rw[zw (t:=t)]
   ·rfl
   ·rw[zt,show zc ixT (vE 0) (cE (.int 1)) (cmE (.vl (mt k.t lo hi)) (.vl (mt l.t lo' hi')) (.vl (.int ((max lo lo' :Nat):Int))) (.vl (.int ((min hi hi' :Nat):Int))) .un)= .ok k.t from ZK,bOk,show zc ixT (vE 1) (cE (.int 1)) (cmE (.vl (mt k.t lo hi)) (.vl (mt l.t lo' hi')) (.vl (.int ((max lo lo' :Nat):Int))) (.vl (.int ((min hi hi' :Nat):Int))) .un)= .ok l.t from jx1,bOk,ht]
  rcases H with ⟨c,a1,a2,a3⟩ | ⟨a1,a2⟩
  ·obtain⟨x,r,hct⟩:=z0B c;rw[zb (ec _ a1),zx (by rw[hct];rfl)]
   refine .inl ⟨.many c (max lo lo') (min hi hi'),by rw[Kd.t];exact z0r rfl rfl rfl rfl,⟨by omega,by have:=h1.2.1;omega,a2⟩,λx=> ?_⟩
   cases x with
   | tup xs=>
    rw[hht,jf];congr 1
    exact congrArg xs.all (funext a3)
   | _=>rw[hnt _ (λy z=>by cases z)];rw[Kd.has]
  ·rw[zb (ec _ a1),zb (ze rfl),j8];have et2:zh eqC (vB 2) (cE (.int 0)) (cmE (.vl (mt k.t lo hi)) (.vl (mt l.t lo' hi')) (.vl (.int ((max lo lo' :Nat):Int))) (.vl (.int ((min hi hi' :Nat):Int))) (.vl .non))= .ok (decide (max lo lo' =0)):=by
    show R.ok (((max lo lo' :Nat):Int) == 0)=_
    by_cases hz:max lo lo' =0
    ·rw[hz,decide_eq_true rfl];rfl
    ·rw[decide_eq_false hz,beq_eq_false_iff_ne.mpr (by omega)]
   have hall:∀xs:List T,(xs.all λx=>k.has x && l.has x)=xs.isEmpty:=λxs=>by
    cases xs with
    | nil=>rfl
    | cons x xs=>rw[bq,a2 x];rfl
   show Cm _ _ _ (ifE _ _ _ (cmE (.vl (mt k.t lo hi)) (.vl (mt l.t lo' hi')) (.vl (.int ((max lo lo' :Nat):Int))) (.vl (.int ((min hi hi' :Nat):Int))) (.vl .non)))
   by_cases hz:max lo lo' =0
   ·rw[QW (by rw[et2,decide_eq_true hz])]
    refine .inl ⟨.many k 0 0,by rw[Kd.t];exact z0r rfl ZK rfl rfl,⟨ai _,by omega,h1.2.2⟩,λx=> ?_⟩
    cases x with
    | tup xs=>
     rw[hht,jf,hall,hz];cases xs with
     | nil=>simp
     | cons x xs=>simp
    | _=>rw[hnt _ (λy z=>by cases z)];rw[Kd.has]
   ·rw[QX (by rw[et2,decide_eq_false hz])]
    refine .inr ⟨rfl,λx=> ?_⟩;cases x with
    | tup xs=>
     rw[hht,hall];cases xs with
     | nil=>simp;omega
     | cons x xs=>simp
    | _=>exact hnt _ (λy z=>by cases z)
theorem qC {d:Nat}(l:Kd)(hl:l.Ok (d+1))(n:Nat)(hn:1<=n):(∀m∈kop l n,m.Ok d)/\((kop l n).length=n->∀xs:List T,xs.length=n->l.has (.tup xs)=Kd.hass (kop l n) xs)/\((kop l n).length ≠ n->∀xs:List T,xs.length=n->l.has (.tup xs)=false):=by
 cases l with
 | whole a b=>exact⟨(λm hm=>by cases hm),λz=>absurd z (by show 0 ≠ n;omega),λ_ xs _=>by rw[Kd.has];rfl⟩
 | pick cs=>exact⟨(λm hm=>by cases hm),λz=>absurd z (by show 0 ≠ n;omega),λ_ xs _=>by rw[Kd.has]⟩
 | row ls=>
  refine⟨hl.2.2,λz xs hx=> ?_,λz xs hx=> ?_⟩
  ·have z:ls.length=n:=z;rw[JY,hx,z,beq_self_eq_true,cf];rfl
  ·have z:ls.length ≠ n:=z;rw[JY,hx,beq_eq_false_iff_ne.mpr (bv z)];rfl
 | many m lo hi=>
  have ek:kop (.many m lo hi) n=if lo<=n/\n<=hi then ab n m else []:=rfl
  rw[ek]
  by_cases h:lo<=n/\n<=hi
  ·rw[if_pos h];refine⟨λq hq=>by rw[bc hq];exact hl.2.2,λz xs hx=> ?_,λz=>absurd (by rw[aI]) z⟩
   rw[jf,hx,decide_eq_true h.1,decide_eq_true h.2,cf,cf,Ju,← hx,uq]
  ·rw[if_neg h];refine⟨(λq hq=>by cases hq),λz=>absurd z (by show 0 ≠ n;omega),λz xs hx=> ?_⟩
   rw[jf,hx,bJ];intro q;simp only[ac,decide_eq_true_eq]at q;exact h q.1
theorem xY (ks:List Kd)(x:T)(h:(Kd.row ks).has x=true):∃xs,x= .tup xs/\xs.length=ks.length/\Kd.hass ks xs=true:=by
 rw[Kd.has]at h;cases x with
 | tup xs=>
  have h:(xs.length == ks.length && Kd.hass ks xs)=true:=h;rw[ac,beq_iff_eq]at h;exact⟨xs,rfl,h.1,h.2⟩
 | _=>cases h
theorem V6 {n d:Nat}{s s' :T}{k l:Kd}(ks ls:List Kd)(m:Nat)(hm1:1<=m)(hm3:m<=3)(hs:ZT s= .ok (ks.map Kd.t))(hs' :ZT s' = .ok (ls.map Kd.t))(hl:zY s= .ok (.int (ks.length:Int)))(hl' :zY s' = .ok (.int (ls.length:Int)))(h3:ks.length<=3)
  (H:∀k∈ks,∀l∈ls,Cm k l d (S_5 n 0 [k.t,l.t]))
  (hx:∀x,(k.has x && l.has x)=true->∃xs,x= .tup xs/\xs.length=m)
  (hk:ks.length=m->∀xs:List T,xs.length=m->k.has (.tup xs)=Kd.hass ks xs) (hk0:ks.length ≠ m->∀xs:List T,xs.length=m->k.has (.tup xs)=false)
  (hl1:ls.length=m->∀xs:List T,xs.length=m->l.has (.tup xs)=Kd.hass ls xs) (hl0:ls.length ≠ m->∀xs:List T,xs.length=m->l.has (.tup xs)=false) (hone:ks.length=m\/ls.length=m):
  Cm k l (d+1) (S_5 (n+1) 1 [s,s']):=by
 rcases xX ks ls hs hs' hl hl' h3 H with ⟨cs,a1,a2,a3,a4,a5⟩ | ⟨a1,a2⟩
 ·have hkm:ks.length=m:=by rcases hone with z | z <;> omega
  have hlm:ls.length=m:=by omega
  refine .inl ⟨.row cs,by rw[a1,Kd.t,Kd.ts_map],⟨by omega,by omega,a4⟩,λx=> ?_⟩
  cases hh:(k.has x && l.has x) with
  | true=>
   obtain⟨xs,rfl,hxl⟩:=hx x hh;rw[hk hkm xs hxl,hl1 hlm xs hxl]at hh;rw[JY,a5 xs (by omega),hh,show (xs.length == cs.length)=true from by rw[beq_iff_eq];omega];rfl
  | false=>
   rw[bJ];intro z;obtain⟨xs,rfl,hxl,hc⟩:=xY cs x z;rw[hk hkm xs (by omega),hl1 hlm xs (by omega),← a5 xs (by omega),hc]at hh
   cases hh
 ·refine .inr ⟨a1,λx=> ?_⟩;rw[bJ];intro z;obtain⟨xs,rfl,hxl⟩:=hx x z
  by_cases hkm:ks.length=m
  ·by_cases hlm:ls.length=m
   ·rw[hk hkm xs hxl,hl1 hlm xs hxl,a2 xs (by omega) (by omega)]at z
    cases z
   ·rw[hl0 hlm xs hxl,fy]at z;cases z
  ·rw[hk0 hkm xs hxl]at z;cases z
theorem z0C {n d:Nat}(hn:3*(d+1)<=n+3)(ih:∀k l:Kd,k.Ok d->l.Ok d->Cm k l d (S_5 (n+1) 0 [k.t,l.t]))(k:Kd)(ls:List Kd)(hk:k.Ok (d+1))(hl:(Kd.row ls).Ok (d+1))(hbigk:∀m lo hi,k= .many m lo hi->hi<=3){g:En->RS}:
  Cm k (.row ls) (d+1) (zi (zj (ifS (zh eqC (zc ixT (vE 1) (cE (.int 0))) (cE (.str "row"))) (zo (za 2 (S_5 (n+2) 1) (z9 (za 2 f_z (z9 (vE 0) (z9 (ap1 zY (zc ixT (vE 1) (cE (.int 1)))) (zd)))) (z9 (zc ixT (vE 1) (cE (.int 1))) (zd))))) (nxS)) g (en2 k.t (Kd.row ls).t))):=by
 obtain⟨h1,h3,h4⟩:=hl;have i1:zc ixT (vE 1) (cE (.int 1)) (en2 k.t (Kd.row ls).t)= .ok (.tup (ls.map Kd.t)):=by rw[zf,v1,bOk,zI,bOk,Kd.t,Kd.ts_map,at1]
 have i0:zh eqC (zc ixT (vE 1) (cE (.int 0))) (cE (.str "row")) (en2 k.t (Kd.row ls).t)= .ok true:=by
  rw[zu,zf,v1,bOk,zI,bOk,Kd.t,at0,bOk,zI,bOk];rfl
 rw[zx i0];show Cm _ _ _ (za 2 _ _ (en2 k.t (Kd.row ls).t));rw[zt,zt,v0,bOk,Zf,i1,bOk,j1,xqz,bOk,V5 k ls.length h1 hbigk,bOk,bOk];obtain⟨o1,o2,o3⟩:=qC k hk ls.length h1;have hk3:(kop k ls.length).length<=3:=by
  cases k with
  | row ks=>exact hk.2.1
  | many m lo hi=>
   have ek:kop (.many m lo hi) ls.length=if lo<=ls.length/\ls.length<=hi then ab ls.length m else []:=rfl
   rw[ek];split
   ·rw[aI];exact h3
   ·simp
  | _=>exact ba _
 refine V6 (d:=d) (kop k ls.length) ls ls.length h1 h3 rfl rfl (by rw[j1,xqz]) (by rw[j1,xqz]) hk3 (λa ha b hb=>ih a b (o1 a ha) (h4 b hb)) (λx hx=> ?_) o2 o3 (λ_ xs hxl=> ?_) (λz=>absurd rfl z) (.inr rfl)
 ·obtain⟨xs,a,b,_⟩:=xY ls x (c9.mp hx).2;exact⟨xs,a,b⟩
 ·rw[JY,hxl,beq_self_eq_true,cf]
theorem V7:∀(d n:Nat),3*d<=n->∀k l:Kd,k.Ok d->l.Ok d->Cm k l d (S_5 n 0 [k.t,l.t])
 | 0,_,_,_,_,h,_=>h.elim
 | d+1,n+3,hn,k,l,hk,hl=>by
  have ih:=V7 d (n+1) (by omega)
  have e:S_5 (n+3) 0 [k.t,l.t]=zi (b_5 f_z (S_5 (n+2) 1) Kj Kk (S_5 (n+2) 2) (en2 k.t l.t)):=by rw[S_5];rfl
  rw[e];unfold b_5;have r0:∀(x w:Str) (r:List T),l.t= .tup (.str x :: r)->zh eqC (zc ixT (vE 1) (cE (.int 0))) (cE (.str w)) (en2 k.t l.t)= .ok (x == w):=λx w r h=>by
   rw[zu,zf,v1,bOk,zI,bOk,h,at0,bOk,zI,bOk];rfl
  have n0:∀(x y:Str) (r q:List T),k.t= .tup (.str x :: r)->l.t= .tup (.str y :: q)->zh neC (zc ixT (vE 0) (cE (.int 0))) (zc ixT (vE 1) (cE (.int 0))) (en2 k.t l.t)= .ok (!(x == y)):=λx y r q h1 h2=>by
   rw[zu,zf,v0,bOk,zI,bOk,h1,at0,bOk,zf,v1,bOk,zI,bOk,h2,at0,bOk];rfl
  have c0:∀(x w:Str) (r:List T),k.t= .tup (.str x :: r)->zh eqC (zc ixT (vE 0) (cE (.int 0))) (cE (.str w)) (en2 k.t l.t)= .ok (x == w):=λx w r h=>by rw[h];exact cs0
  have hbig:∀m lo hi,l= .many m lo hi->hi<=3:=λm lo hi h=>by rw[h]at hl;exact hl.2.1
  have hbigk:∀m lo hi,k= .many m lo hi->hi<=3:=λm lo hi h=>by rw[h]at hk;exact hk.2.1
  cases k with
  | row ks=>
   rw[zx (by rw[Kd.t];exact cs0)]
   have hko:=hk;obtain⟨h1,h3,h4⟩:=hk;have el:za 2 (S_5 (n+2) 1) (z9 (zc ixT (vE 0) (cE (.int 1))) (z9 (za 2 f_z (z9 (vE 1) (z9 (ap1 zY (zc ixT (vE 0) (cE (.int 1)))) (zd)))) (zd))) (frz (en2 (Kd.row ks).t l.t))=S_5 (n+2) 1 [.tup (ks.map Kd.t),.tup ((kop l ks.length).map Kd.t)]:=by
    show za 2 _ _ (en2 (Kd.row ks).t l.t)=_;have i1:zc ixT (vE 0) (cE (.int 1)) (en2 (Kd.row ks).t l.t)= .ok (.tup (ks.map Kd.t)):=by rw[Kd.t,Kd.ts_map];exact ZK
    rw[zt,i1,bOk,zt,v1,bOk,Zf,i1,bOk,j1,xqz,bOk,V5 l ks.length h1 hbig,bOk]
   rw[el];obtain⟨o1,o2,o3⟩:=qC l hl ks.length h1;refine V6 (d:=d) ks (kop l ks.length) ks.length h1 h3 rfl rfl (by rw[j1,xqz]) (by rw[j1,xqz]) h3 (λa ha b hb=>ih a b (h4 a ha) (o1 b hb)) (λx hx=> ?_) (λ_ xs hxl=> ?_) (λz=>absurd rfl z) o2 o3 (.inl rfl)
   ·obtain⟨xs,a,b,_⟩:=xY ks x (c9.mp hx).1;exact⟨xs,a,b⟩
   ·rw[JY,hxl,beq_self_eq_true,cf]
  | whole a b=>
   rw[zb (ze (by rw[Kd.t];exact cs0))]
   cases l with
   | row ls=>exact z0C hn ih (.whole a b) ls hk hl hbigk
   | whole c c' =>
    rw[zb (ze (r0 _ _ _ (by rw[Kd.t]))),zb (ze ((n0 _ _ _ _ (by rw[Kd.t]) (by rw[Kd.t])).trans rfl)),zx (c0 _ _ _ (by rw[Kd.t]))]
    show Cm _ _ _ (za 2 _ _ (en2 (Kd.whole a b).t (Kd.whole c c').t));rw[zt,v0,bOk,v1,bOk];exact qy a b c c' hk hl
   | pick cs=>
    rw[zb (ze (r0 _ _ _ (by rw[Kd.t]))),zx ((n0 _ _ _ _ (by rw[Kd.t]) (by rw[Kd.t])).trans rfl)]
    exact .inr ⟨rfl,λx=>by rw[Kd.has,Kd.has];cases x <;> simp[inR]⟩
   | many m lo hi=>
    rw[zb (ze (r0 _ _ _ (by rw[Kd.t]))),zx ((n0 _ _ _ _ (by rw[Kd.t]) (by rw[Kd.t])).trans rfl)]
    exact .inr ⟨rfl,λx=>by rw[Kd.has,Kd.has];cases x <;> simp[inR]⟩
  | pick cs=>
   rw[zb (ze (by rw[Kd.t];exact cs0))]
   cases l with
   | row ls=>exact z0C hn ih (.pick cs) ls hk hl hbigk
   | whole c c' =>
    rw[zb (ze (r0 _ _ _ (by rw[Kd.t]))),zx ((n0 _ _ _ _ (by rw[Kd.t]) (by rw[Kd.t])).trans rfl)]
    exact .inr ⟨rfl,λx=>by rw[Kd.has,Kd.has];cases x <;> simp[inR]⟩
   | pick es=>
    rw[zb (ze (r0 _ _ _ (by rw[Kd.t]))),zb (ze ((n0 _ _ _ _ (by rw[Kd.t]) (by rw[Kd.t])).trans rfl)),zb (ze (c0 _ _ _ (by rw[Kd.t]))),zx (c0 _ _ _ (by rw[Kd.t]))]
    show Cm _ _ _ (za 2 _ _ (en2 (Kd.pick cs).t (Kd.pick es).t));rw[zt,v0,bOk,v1,bOk];exact vc cs es hk hl
   | many m lo hi=>
    rw[zb (ze (r0 _ _ _ (by rw[Kd.t]))),zx ((n0 _ _ _ _ (by rw[Kd.t]) (by rw[Kd.t])).trans rfl)]
    exact .inr ⟨rfl,λx=>by rw[Kd.has,Kd.has];cases x <;> simp⟩
  | many q lo hi=>
   rw[zb (ze (by rw[Kd.t];exact cs0))]
   cases l with
   | row ls=>exact z0C hn ih (.many q lo hi) ls hk hl hbigk
   | whole c c' =>
    rw[zb (ze (r0 _ _ _ (by rw[Kd.t]))),zx ((n0 _ _ _ _ (by rw[Kd.t]) (by rw[Kd.t])).trans rfl)]
    exact .inr ⟨rfl,λx=>by rw[Kd.has,Kd.has];cases x <;> simp[inR]⟩
   | pick es=>
    rw[zb (ze (r0 _ _ _ (by rw[Kd.t]))),zx ((n0 _ _ _ _ (by rw[Kd.t]) (by rw[Kd.t])).trans rfl)]
    exact .inr ⟨rfl,λx=>by rw[Kd.has,Kd.has];cases x <;> simp⟩
   | many m lo' hi' =>
    rw[zb (ze (r0 _ _ _ (by rw[Kd.t]))),zb (ze ((n0 _ _ _ _ (by rw[Kd.t]) (by rw[Kd.t])).trans rfl)),zb (ze (c0 _ _ _ (by rw[Kd.t]))),zb (ze (c0 _ _ _ (by rw[Kd.t]))),j8]
    show Cm _ _ _ (za 2 _ _ (en2 (Kd.many q lo hi).t (Kd.many m lo' hi').t));rw[zt,v0,bOk,v1,bOk];exact vd q m lo hi lo' hi' hk hl (ih q m hk.2.2 hl.2.2)
theorem Wh {k:Kd}(hk:k.Ok 3):f_o [k.t]= .ok .non:=by
 have hi:=YE 3 k hk;show zi (b_o f_3 [.vl k.t])=_;rw[b_o,ze]
 ·rfl
 ·show Jj (ZJ (za 1 f_3 (z9 (vE 0) zd))) [.vl k.t]=_;rw[Je,j2,zG,v0,bOk,UH _ (W6 3 _ hi).so,hi];rfl
theorem jN {k:Kd}(hk:k.Ok 3)(h5:k.all.length<=500):f_r [k.t]= .ok (.lst k.all):=by
 show zi (b_r f_o (f_2 20) (f_8 20) [.vl k.t,.un])=_;have e1:zz 1 (za 1 (f_2 20) (z9 (vE 0) (zd))) [.vl k.t,.un]= .nx (en2 k.t (.int (k.all.length:Int))):=by
  rw[zw (t:= .int (k.all.length:Int))]
  ·rfl
  ·rw[zG,v0,bOk,jF (by omega) hk]
 have e2:zh gtC (vB 1) (cE (.int 500)) (en2 k.t (.int (k.all.length:Int)))= .ok false:=by
  rw[zu,w1,bOk,zI,bOk,xK,decide_eq_false (by omega)]
 have er:Zy (vE 1) (en2 k.t (.int (k.all.length:Int)))= .ok (rng 0 k.all.length):=by
  rw[YN (j:=(k.all.length:Int)) rfl ⟨by omega,by omega⟩,aT]
 have ec:zp (zl 0) zN (za 2 (f_8 20) (z9 (vE 1) (z9 (vE 0) (zd)))) 1 [0] (en2 k.t (.int (k.all.length:Int))) (rng 0 k.all.length)= .ok ((rng 0 k.all.length).map λt=>match t with | .int i=>(k.all[i.toNat]?).getD .non | y=>y):=
  Z0 _ (by unfold rng;rw[xqz,bp];have:bnd=16777216:=rfl;omega) λt ht=>by
   unfold rng at ht;obtain⟨i,hi,rfl⟩:=au.mp ht;obtain⟨x,hx⟩:=JS (aR.mp hi);show za 2 _ _ (en2 (.int ((0:Int)+(i:Int))) k.t)=R.ok ((k.all[((0:Int)+(i:Int)).toNat]?).getD .non);rw[show ((0:Int)+(i:Int))=(i:Int) by omega,zt,v1,bOk,v0,bOk,KI hk hx,aT,hx]
   rfl
 have e3:gu (Zy (vE 1)) (zl 0) (zN) (za 2 (f_8 20) (z9 (vE 1) (z9 (vE 0) (zd)))) 1 [0] (en2 k.t (.int (k.all.length:Int)))= .rf k.all:=by
  show ((Zy (vE 1) (en2 k.t (.int (k.all.length:Int)))).s λts=>(zp _ _ _ _ _ (en2 k.t (.int (k.all.length:Int))) ts).s λvs=>RS.rf vs)=_;rw[er,Zv,ec,Zv];exact congrArg RS.rf (all_map k)
 rw[b_r,zb (jv (t:= .non) (by rw[zG,v0,bOk,Wh hk])),zb e1,zb (ze e2),e3]
 rfl
theorem Ji {r:Ru}(h:jL 3 r):f_s [r.t]= .ok .non:=by
 show zi (b_s f_d [.vl r.t])=_;rw[b_s,ze]
 ·rfl
 ·have e:f_d [r.t]= .ok (.bl true):=by
   show zi (zo (za 2 (f_p 8) (z9 (vE 0) (z9 (cE (.int 3)) zd))) [.vl r.t])=_;rw[zg (t:= .bl true)]
   ·rfl
   ·show za 2 _ _ [.vl r.t]=_;rw[zt,v0,bOk,zI,bOk];exact jX 8 3 (by omega) r h
  rw[Je,j2,zG,v0,bOk,e];rfl
noncomputable def br (k:Kd)(r:Ru):List T:=k.all.filter λx=> !(kp r x)
theorem wG {k:Kd}{r:Ru}{x:T}:x∈br k r↔k.has x=true/\kp r x=false:=by
 unfold br;rw[bK,Zl];simp
noncomputable def lb (k:Kd)(r:Ru):Option T:=match br k r with
 | []=>none
 | t :: ts=>some (jt (k.wt t) t (ts.map k.wt) ts)
noncomputable def oT:Option T->T
 | some x=>x
 | none=> .non
theorem JZ (w:T->Int):∀(ts:List T) (t:T),jt (w t) t (ts.map w) ts∈t :: ts/\∀y∈t :: ts,w (jt (w t) t (ts.map w) ts)<=w y
 | [],t=>by
  rw[bP,show jt (w t) t [] []=t from rfl];exact⟨List.mem_singleton_self _,λy hy=>by rw[aA.mp hy];exact eA _⟩
 | u :: ts,t=>by
  rw[az,jt]
  by_cases h:w u < w t
  ·rw[if_pos h];obtain⟨a,b⟩:=JZ w ts u;exact⟨a8 _ a,λy hy=>by
    rcases ah.mp hy with rfl | hy
    ·have:=b u aa;omega
    ·exact b y hy⟩
  ·rw[if_neg h];obtain⟨a,b⟩:=JZ w ts t;exact⟨(ah.mp a).elim (λz=>by rw[z];exact aa) (λz=>a8 _ (a8 _ z)),λy hy=>by
    rcases ah.mp hy with rfl | hy
    ·exact b y aa
    ·rcases ah.mp hy with rfl | hy
     ·have:=b t aa;omega
     ·exact b y (a8 _ hy)⟩
theorem Zw {k:Kd}{r:Ru}:lb k r=none↔∀x,k.has x=true->kp r x=true:=by
 have h:br k r=[]↔∀x,k.has x=true->kp r x=true:=by
  rw[List.eq_nil_iff_forall_not_mem];exact⟨λh x hx=>by
   cases e:kp r x with
   | true=>rfl
   | false=>exact absurd (wG.mpr ⟨hx,e⟩) (h x),λh x hx=>by
   have:=wG.mp hx;rw[h x this.1]at this;exact absurd this.2 (by decide)⟩
 rw[← h];unfold lb;cases br k r with
 | nil=>exact⟨λ_=>rfl,λ_=>rfl⟩
 | cons t ts=>exact⟨λz=>(nomatch z),λz=>(nomatch z)⟩
theorem zL {k:Kd}{r:Ru}{x:T}(h:lb k r=some x):k.has x=true/\kp r x=false/\∀y,k.has y=true->kp r y=false->k.wt x<=k.wt y:=by
 unfold lb at h;cases e:br k r with
 | nil=>rw[e]at h;cases h
 | cons t ts=>
  rw[e]at h;cases h;obtain⟨a,b⟩:=JZ k.wt ts t;have a' :=wG.mp (e ▸ a);exact⟨a'.1,a'.2,λy h1 h2=>b y (e ▸ wG.mpr ⟨h1,h2⟩)⟩
theorem qD {f:T->R T}{w:T->Int}:∀ts:List T,(∀t∈ts,f t= .ok (.int (w t)))->W0 f ts=some (ts.map w)
 | [],_=>rfl
 | t :: ts,h=>by
  rw[W0,h t aa,qD ts λy hy=>h y (a8 _ hy)];rfl
theorem ZO {k:Kd}(hk:k.Ok 3)(h5:k.all.length<=500){r:Ru}(hr:jL 3 r):f_n [k.t,r.t]= .ok (oT (lb k r)):=by
 show zi (b_n f_r f_s (f_c 8) (f_7 20) [.vl k.t,.vl r.t,.un])=_;have e0:JE (za 1 f_s (z9 (vE 1) (zd))) [.vl k.t,.vl r.t,.un]= .nx [.vl k.t,.vl r.t,.un]:=jv (t:= .non) (by rw[zG,v1,bOk,Ji hr])
 have ec:zp (zl 0) (Jj (ZJ (za 2 (f_c 8) (z9 (vE 1) (z9 (vE 0) (zd)))))) (vE 0) 1 [1] [.vl k.t,.vl r.t,.un] k.all= .ok (br k r):=
  Zm _ (aq h5 (by decide)) λt ht=>⟨by
   show Jj (ZJ _) [.vl t,.vl r.t]=_;unfold Jj ZJ;rw[zt,v1,bOk,v0,bOk,wD (v7 hk ht) hr];rfl,rfl⟩
 have e1:zz 2 (zF (Zs (za 1 f_r (z9 (vE 0) (zd)))) (zl 0) (Jj (ZJ (za 2 (f_c 8) (z9 (vE 1) (z9 (vE 0) (zd)))))) (vE 0) 1 [1]) [.vl k.t,.vl r.t,.un]= .nx [.vl k.t,.vl r.t,.vl (.lst (br k r))]:=by
  rw[zw (t:= .lst (br k r))]
  ·rfl
  ·unfold zF Zs;rw[zG,v0,bOk,jN hk h5];show (zp _ _ _ _ _ _ k.all).bind _=_;rw[ec];rfl
 rw[b_n,zb e0,zb e1,zg (t:=oT (lb k r))]
 ·rfl
 ·show Yb [0] _ (vE 2) (cE .non) [.vl k.t,.vl r.t,.vl (.lst (br k r))]=_;unfold Yb;rw[show vE 2 [Sl.vl k.t,.vl r.t,.vl (.lst (br k r))]= .ok (.lst (br k r)) from rfl,bOk,zI,bOk];have hb:∀x∈br k r,k.has x=true:=λx hx=>(wG.mp hx).1;unfold lb;cases e:br k r with
  | nil=>rfl
  | cons t ts=>
   rw[e]at hb;have hks:W0 (λx=>za 2 (f_7 20) (z9 (vE 1) (z9 (vE 0) zd)) ((w8 1 [0] [Sl.vl k.t,.vl r.t,.vl (.lst (t :: ts))]).set 0 (.vl x))) (t :: ts)=some ((t :: ts).map k.wt):=qD _ λx hx=>by
    show za 2 _ _ [.vl x,.vl k.t]=_;rw[zt,v1,bOk,v0,bOk];exact xU 3 20 (by omega) k x hk (hb x hx)
   show (match W0 _ (t :: ts) with | some (k :: ks)=>R.ok (jt k t ks ts) | _=> .bad)=_
   rw[hks];rfl
theorem KW {k:Kd}(hk:k.Ok 3)(x:T):gQ [k.t,x]= .ok (.bl (k.has x)):=by
 show zi (gP f_o (f_h 20) (en2 k.t x))=_;unfold gP;rw[zb (jv (t:= .non) (by rw[zG,v0,bOk,Wh hk])),j8]
 show za 2 _ _ (en2 k.t x)=_;rw[zt,v0,bOk,v1,bOk];exact vV 3 20 (by omega) k x hk
theorem ve {k:Kd}(hk:k.Ok 3){x:T}(hx:k.has x=true):gS [k.t,x]= .ok .non:=by
 show zi (gR gQ (en2 k.t x))=_;rw[gR,ze (by rw[Je,j2,zt,v0,bOk,v1,bOk,KW hk,bOk,JL,bOk,hx];rfl)];rfl
theorem jO {k:Kd}(hk:k.Ok 3){x:T}(hx:k.has x=true):f_1 [k.t,x]= .ok (.int (k.wt x)):=by
 show zi (b_1 gS (f_7 20) (en2 k.t x))=_;rw[b_1,zb (jv (t:= .non) (by rw[zt,v0,bOk,v1,bOk,ve hk hx])),zg (t:= .int (k.wt x))]
 ·rfl
 ·show za _ _ _ (en2 k.t x)=_;rw[zt,v0,bOk,v1,bOk];exact xU 3 20 (by omega) k x hk hx
theorem UN {k:Kd}(hk:k.Ok 3)(h5:k.all.length<=500){r:Ru}(hr:jL 3 r):Xc [k.t,r.t]= .ok (.lst (fl k r)):=by
 show zi (gY f_r f_s (f_c 8) (en2 k.t r.t))=_;have ec:zp (zl 0) (ZJ (za 2 (f_c 8) (z9 (vE 1) (z9 (vE 0) (zd))))) (vE 0) 1 [1] (en2 k.t r.t) k.all= .ok (fl k r):=
  Zm _ (aq h5 (by decide)) λt ht=>⟨by
   show ZJ _ [.vl t,.vl r.t]=_;rw[j2,zt,v1,bOk,v0,bOk,wD (v7 hk ht) hr];rfl,rfl⟩
 rw[gY,zb (jv (t:= .non) (by rw[zG,v1,bOk,Ji hr])),zg (t:= .lst (fl k r))]
 ·rfl
 ·show zF _ _ _ _ _ _ (en2 k.t r.t)=_;rw[zC,Zi,zG,v0,bOk,jN hk h5];show (zp _ _ _ _ _ _ k.all).bind _=_;rw[ec];rfl
theorem xZ {k l:Kd}(hk:k.Ok 3)(hl:l.Ok 3):(∃c:Kd,f_x [k.t,l.t]= .ok c.t/\c.Ok 3/\∀x,c.has x=true->k.has x=true)\/f_x [k.t,l.t]= .ok .non:=by
 have hb:f_x [k.t,l.t]=S_5 20 0 [k.t,l.t]:=by
  show zi (b_x f_o (f_5 20) (en2 k.t l.t))=_;unfold b_x;rw[zb (jv (t:= .non) (by rw[zG,v0,bOk,Wh hk])),zb (jv (t:= .non) (by rw[zG,v1,bOk,Wh hl])),j8]
  show za 2 _ _ (en2 k.t l.t)=_;rw[zt,v0,bOk,v1,bOk]
 rcases V7 3 20 (by omega) k l hk hl with ⟨c,a1,a2,a3⟩ | ⟨a1,a2⟩
 ·exact .inl ⟨c,hb.trans a1,a2,λx hx=>by rw[a3]at hx;exact(c9.mp hx).1⟩
 ·exact .inr (hb.trans a1)
theorem qE {k:Kd}(L:Lss k):∀(n:Nat) (x:T),k.has x=true->k.wt x<=(n:Int)->∃y,k.has y=true/\k.wt y=0
 | 0,x,hx,h=>⟨x,hx,by have:=L.pos x hx;omega⟩
 | n+1,x,hx,h=>by
  by_cases e:k.wt x=0
  ·exact⟨x,hx,e⟩
  ·obtain⟨y,hy,ey⟩:=L.one x hx e;exact qE L n y (L.dn x y hx hy).1 (by omega)
theorem z0D {k:Kd}(hk:k.Ok 3){r:Ru}{x:T}(h:lb k r=some x):W 2 x:=Xd 2 k x hk (zL h).1
theorem X0 {x:T}(h:W 2 x):ZY x .non= .ok false:=by cases h <;> rfl
theorem uv {k:Kd}(hk:k.Ok 3){r:Ru}:ZY (oT (lb k r)) .non= .ok (lb k r).isNone:=by
 cases e:lb k r with
 | none=>rfl
 | some x=>exact X0 (z0D hk e)
theorem Ui {k:Kd}(hk:k.Ok 3){r:Ru}:Zb (oT (lb k r)) .non= .ok (lb k r).isSome:=by
 unfold Zb;rw[uv hk,bOk];cases lb k r <;> rfl
section
variable {k:Kd}{r s:Ru}
theorem w4 (x:T):kp (.all r s) x=(kp r x && kp s x):=by rw[kp]
theorem qF (x:T):kp (.some r s) x=(kp r x || kp s x):=by rw[kp]
theorem KY (x:T):kp (.no r) x= !kp r x:=by rw[kp]
theorem qG:lb k (.all r s)=none↔lb k r=none/\lb k s=none:=by
 rw[Zw,Zw,Zw];exact⟨λh=>⟨λx hx=>by have:=h x hx;rw[w4,ac]at this;exact this.1,λx hx=>by have:=h x hx;rw[w4,ac]at this;exact this.2⟩,λh x hx=>by rw[w4,h.1 x hx,h.2 x hx];rfl⟩
theorem wh_l {x y:T}(h:lb k (.all r s)=some x)(hy:lb k r=some y):k.wt x<=k.wt y:=(zL h).2.2 y (zL hy).1 (by rw[w4,(zL hy).2.1];rfl)
theorem wh_r {x y:T}(h:lb k (.all r s)=some x)(hy:lb k s=some y):k.wt x<=k.wt y:=(zL h).2.2 y (zL hy).1 (by rw[w4,(zL hy).2.1,fy])
theorem z0E {x:T}(h:lb k (.all r s)=some x):(∃y,lb k r=some y/\k.wt y<=k.wt x)\/∃y,lb k s=some y/\k.wt y<=k.wt x:=by
 obtain⟨h1,h2,_⟩:=zL h;rw[w4,fu]at h2;rcases h2 with h2 | h2
 ·cases e:lb k r with
  | none=>have:=Zw.mp e x h1;rw[h2]at this;cases this
  | some y=>exact .inl ⟨y,rfl,(zL e).2.2 x h1 h2⟩
 ·cases e:lb k s with
  | none=>have:=Zw.mp e x h1;rw[h2]at this;cases this
  | some y=>exact .inr ⟨y,rfl,(zL e).2.2 x h1 h2⟩
theorem so_e {x:T}(h:lb k (.some r s)=some x):∃y z,lb k r=some y/\lb k s=some z/\k.wt y<=k.wt x/\k.wt z<=k.wt x:=by
 obtain⟨h1,h2,_⟩:=zL h;rw[qF,dD]at h2;cases e:lb k r with
 | none=>have:=Zw.mp e x h1;rw[h2.1]at this;cases this
 | some y=>
  cases e2:lb k s with
  | none=>have:=Zw.mp e2 x h1;rw[h2.2]at this;cases this
  | some z=>exact⟨y,z,rfl,rfl,(zL e).2.2 x h1 h2.1,(zL e2).2.2 x h1 h2.2⟩
theorem X1:lb k (.some r (.no r))=none:=Zw.mpr λx _=>by rw[qF,KY];cases kp r x <;> rfl
theorem KZ (L:Lss k)(hne:k.all ≠ []):∃x,lb k (.all r (.no r))=some x/\k.has x=true/\k.wt x=0:=by
 have hk:∀x,kp (.all r (.no r)) x=false:=λx=>by rw[w4,KY];cases kp r x <;> rfl
 obtain⟨a,ha⟩:∃a,a∈k.all:=List.exists_mem_of_ne_nil _ hne;have ha:=(Zl k a).mp ha;obtain⟨y,hy,ey⟩:=qE L (k.wt a).toNat a ha (by omega)
 cases e:lb k (.all r (.no r)) with
 | none=>have:=Zw.mp e a ha;rw[hk]at this;cases this
 | some x=>
  have:=zL e;have h1:=this.2.2 y hy (hk y);have h2:=L.pos x this.1;exact⟨x,rfl,this.1,by omega⟩
end
noncomputable def wl (k:Kd)(r s:Ru):List T:=match lb k r,lb k s with
 | none,none=>[]
 | some a,none=>[.int (k.wt a)]
 | none,some b=>[.int (k.wt b)]
 | some a,some b=>[.int (k.wt a),.int (k.wt b)]
noncomputable abbrev wF:En->R Bool:=zh Zb (vB 0) (cE .non)
noncomputable abbrev wE:En->R T:=za 2 f_1 (z9 (vE 1) (z9 (vE 0) (zd)))
theorem g6 {k:Kd}(hk:k.Ok 3){x:T}(hx:k.has x=true):wF [.vl x,.vl k.t]= .ok true/\wE [.vl x,.vl k.t]= .ok (.int (k.wt x)):=
 ⟨by (show (ZY x .non).bind _=_);rw[X0 (Xd 2 k x hk hx)];rfl,by show za 2 f_1 _ _=_;rw[zt,v1,bOk,v0,bOk,jO hk hx]⟩
theorem c_no {κ:T}{ts:List T}{a:Sl}:zr (zl 0) wF wE (.non :: ts) [a,.vl κ]=zr (zl 0) wF wE ts [.vl .non,.vl κ]:=rfl
theorem vf {k:Kd}(hk:k.Ok 3){x:T}(hx:k.has x=true){ts:List T}{a:Sl}{l:List T}(h:zr (zl 0) wF wE ts [.vl x,.vl k.t]= .ok l):zr (zl 0) wF wE (x :: ts) [a,.vl k.t]= .ok (.int (k.wt x) :: l):=by
 show ((wF [.vl x,.vl k.t]).bind λb=>if b=true then (wE [.vl x,.vl k.t]).bind λv=>(zr (zl 0) wF wE ts [.vl x,.vl k.t]).bind λvs=> .ok (v :: vs) else zr (zl 0) wF wE ts [.vl x,.vl k.t])=_
 rw[(g6 hk hx).1,bOk,if_pos rfl,(g6 hk hx).2,bOk,h,bOk]
theorem z0F {k:Kd}(hk:k.Ok 3){r s:Ru}{ρ:En}{z:Sl}:zp (zl 0) wF wE 1 [1] (z :: .vl k.t :: ρ) [oT (lb k r),oT (lb k s)]= .ok (wl k r s):=by
 unfold zp;rw[if_pos (by show 2<=bnd;decide)]
 show quiet (zr (zl 0) wF wE [oT (lb k r),oT (lb k s)] [.un,.vl k.t])=_;unfold wl;cases e1:lb k r with
 | none=>
  cases e2:lb k s with
  | none=>rfl
  | some b=>
   show quiet (zr (zl 0) wF wE [.non,b] [.un,.vl k.t])= .ok [.int (k.wt b)];rw[c_no,vf hk (zL e2).1 (l:=[]) rfl];rfl
 | some a=>
  cases e2:lb k s with
  | none=>
   show quiet (zr (zl 0) wF wE [a,.non] [.un,.vl k.t])= .ok [.int (k.wt a)];rw[vf hk (zL e1).1 (l:=[]) (by rw[c_no];rfl)];rfl
  | some b=>
   show quiet (zr (zl 0) wF wE [a,b] [.un,.vl k.t])= .ok [.int (k.wt a),.int (k.wt b)];rw[vf hk (zL e1).1 (l:=[.int (k.wt b)]) (vf hk (zL e2).1 (l:=[]) rfl)];rfl
section
variable {ns:List Int}{k:Kd}{r s:Ru}
noncomputable abbrev e4 (ns:List Int)(k:Kd)(r s:Ru)(f g h i j:Sl):En:=[.vl (scr ns),.vl k.t,.vl r.t,.vl s.t,.vl (.lst k.all),.vl (oT (lb k r)),.vl (oT (lb k s)),.vl (oT (lb k (.all r s))),.vl (oT (lb k (.some r s))),.vl (.lst (wl k r s)),f,g,h,i,j]
theorem q1 (hk:k.Ok 3){f g h i j:Sl}:orT (zh neC (Zh ZY (vB 7) (cE .non)) (Zh eqC (vB 9) (Zt (zd)))) (Wy (zh Zb (vB 7) (cE .non)) (zh neC (za 2 f_1 (z9 (vE 1) (z9 (vE 7) (zd)))) (ap1 QC (vB 9)))) (e4 ns k r s f g h i j)= .ok false:=by
 have a1:zh neC (Zh ZY (vB 7) (cE .non)) (Zh eqC (vB 9) (Zt (zd))) (e4 ns k r s f g h i j)= .ok false:=by
  rw[zu];show ((ZY (oT (lb k (.all r s))) .non).bind λb=>R.ok (T.bl b)).bind _=_;rw[uv hk,bOk,bOk];show ((eqC (.lst (wl k r s)) (.lst [])).bind λb=>R.ok (T.bl b)).bind _=_;rw[Ym,bOk,bOk];have:(lb k (.all r s)).isNone=(wl k r s).isEmpty:=by
   have h:=qG (k:=k) (r:=r) (s:=s);unfold wl;cases e1:lb k r <;> cases e2:lb k s <;> cases e3:lb k (.all r s) <;> rw[e1,e2,e3]at h <;> simp at h <;> rfl
  rw[this];cases (wl k r s).isEmpty <;> rfl
 rw[Wc a1];show ((Zb (oT (lb k (.all r s))) .non).bind _)=_;rw[Ui hk,bOk];cases e3:lb k (.all r s) with
 | none=>rfl
 | some x=>
  show zh neC _ _ _=_;rw[zu];show (za 2 f_1 (z9 (vE 1) (z9 (vE 7) (zd))) _).bind _=_;rw[zt];show (f_1 [k.t,oT (lb k (.all r s))]).bind _=_;rw[e3,show oT (some x)=x from rfl,jO hk (zL e3).1,bOk];show ((QC (.lst (wl k r s))).bind _)=_;unfold wl;cases e1:lb k r with
  | none=>
   cases e2:lb k s with
   | none=>have:=qG.mpr ⟨e1,e2⟩;rw[e3]at this;cases this
   | some b=>
    have h1:=wh_r e3 e2;have h2:k.wt b<=k.wt x:=by
     rcases z0E e3 with ⟨y,z,_⟩ | ⟨y,z,w⟩
     ·rw[e1]at z;cases z
     ·rw[e2]at z;cases z;exact w
    show neC (.int (k.wt x)) (.int (k.wt b))=_;rw[show k.wt b=k.wt x by omega,QY]
  | some a=>
   have h1:=wh_l e3 e1;cases e2:lb k s with
   | none=>
    have h2:k.wt a<=k.wt x:=by
     rcases z0E e3 with ⟨y,z,w⟩ | ⟨y,z,_⟩
     ·rw[e1]at z;cases z;exact w
     ·rw[e2]at z;cases z
    show neC (.int (k.wt x)) (.int (k.wt a))=_;rw[show k.wt a=k.wt x by omega,QY]
   | some b=>
    have h3:=wh_r e3 e2;have h2:k.wt a<=k.wt x\/k.wt b<=k.wt x:=by
     rcases z0E e3 with ⟨y,z,w⟩ | ⟨y,z,w⟩
     ·rw[e1]at z;cases z;exact .inl w
     ·rw[e2]at z;cases z;exact .inr w
    show neC (.int (k.wt x)) (.int (if decide (k.wt b < k.wt a)=true then k.wt b else k.wt a))=_
    rw[show (if decide (k.wt b < k.wt a)=true then k.wt b else k.wt a)=k.wt x by
     by_cases hb:k.wt b < k.wt a
     ·rw[if_pos (by simpa using hb)];omega
     ·rw[if_neg (by simpa using hb)];omega,QY]
theorem q2 (hk:k.Ok 3){f g h i j:Sl}:Wy (zh Zb (vB 8) (cE .non)) (orT (zh ZY (vB 5) (cE .non)) (orT (zh ZY (vB 6) (cE .non)) (zh ltC (za 2 f_1 (z9 (vE 1) (z9 (vE 8) (zd)))) (ap1 QB (vB 9))))) (e4 ns k r s f g h i j)= .ok false:=by
 show ((Zb (oT (lb k (.some r s))) .non).bind _)=_;rw[Ui hk,bOk];cases e3:lb k (.some r s) with
 | none=>rfl
 | some x=>
  obtain⟨a,b,e1,e2,h1,h2⟩:=so_e e3;show orT _ _ _=_;have n1:zh ZY (vB 5) (cE .non) (e4 ns k r s f g h i j)= .ok false:=by
   show ZY (oT (lb k r)) .non=_;rw[uv hk,e1];rfl
  have n2:zh ZY (vB 6) (cE .non) (e4 ns k r s f g h i j)= .ok false:=by
   show ZY (oT (lb k s)) .non=_;rw[uv hk,e2];rfl
  rw[Wc n1 (Wc n2 (b:=false) ?_)];rw[zu,zt];show ((f_1 [k.t,oT (lb k (.some r s))]).bind _)=_;rw[e3,show oT (some x)=x from rfl,jO hk (zL e3).1,bOk];show ((QB (.lst (wl k r s))).bind _)=_;unfold wl;rw[e1,e2];show ltC (.int (k.wt x)) (.int (if decide (k.wt a < k.wt b)=true then k.wt b else k.wt a))=_
  show R.ok (decide (k.wt x < _))=_
  by_cases hb:k.wt a < k.wt b
  ·rw[if_pos (by simpa using hb)];simp;omega
  ·rw[if_neg (by simpa using hb)];simp;omega
end
section
variable {ns:List Int}{k:Kd}{r s:Ru}
theorem g9 {f g:En->R T}{ρ:En}{x y:T}(hf:f ρ= .ok x)(hg:g ρ= .ok y):z9 f (z9 g zd) ρ= .ok [x,y]:=by
 unfold z9 zd;rw[hf,bOk,hg];rfl
theorem q5 (hk:k.Ok 3)(hr:jL 2 r)(hs:jL 2 s){f g h i j:Sl}:Wy (zh Zb (vB 7) (cE .non)) (ZJ (za 2 (f_a 8) (z9 (zW (z9 (cE (.str "all")) (z9 (vE 2) (z9 (vE 3) (zd))))) (z9 (vE 7) (zd))))) (e4 ns k r s f g h i j)= .ok false:=by
 show ((Zb (oT (lb k (.all r s))) .non).bind _)=_;rw[Ui hk,bOk];cases e3:lb k (.all r s) with
 | none=>rfl
 | some x=>
  show ZJ _ _=_;rw[j2,zt,qM rfl rfl rfl,bOk];show ((S_a 8 0 [(Ru.all r s).t,oT (lb k (.all r s))]).bind tru)=_;rw[e3,show oT (some x)=x from rfl,ZM (by omega) (z0D hk e3) 8 3 (by omega) (.all r s) (.all hr hs),(zL e3).2.1];rfl
theorem q6 (hk:k.Ok 3){f g h i j:Sl}:Wy (zh Zb (vB 7) (cE .non)) (zh Uv (vB 7) (vB 4)) (e4 ns k r s f g h i j)= .ok false:=by
 show ((Zb (oT (lb k (.all r s))) .non).bind _)=_;rw[Ui hk,bOk];cases e3:lb k (.all r s) with
 | none=>rfl
 | some x=>
  show Uv (oT (lb k (.all r s))) (.lst k.all)=_;rw[e3,show oT (some x)=x from rfl,z0z (z0D hk e3) (λy hy=>v7 hk hy) (b:=true) ⟨λ_=>(Zl k x).mpr (zL e3).1,λ_=>rfl⟩];rfl
theorem q8 {c:Kd}(hk:k.Ok 3)(hc:c.Ok 3)(h5:c.all.length<=500)(hs' :∀x,c.has x=true->k.has x=true)(hr:jL 2 r){f g h:Sl}:
  orT (zh neC (Zh ZY (za 2 f_n (z9 (vE 13) (z9 (vE 2) (zd)))) (cE .non)) (Zh eqC (vB 14) (Zt (zd)))) (Wy (zh neC (vB 14) (Zt (zd))) (zh ZY (vB 5) (cE .non))) (e4 ns k r s f g h (.vl c.t) (.vl (.lst (br c r))))= .ok false:=by
 have hb:(lb c r).isNone=(br c r).isEmpty:=by unfold lb;cases br c r <;> rfl
 have a1:zh neC (Zh ZY (za 2 f_n (z9 (vE 13) (z9 (vE 2) (zd)))) (cE .non)) (Zh eqC (vB 14) (Zt (zd))) (e4 ns k r s f g h (.vl c.t) (.vl (.lst (br c r))))= .ok false:=by
  rw[zu,Z4,zt];show (((f_n [c.t,r.t]).bind λx=>(R.ok T.non).bind λy=>(ZY x y).bind λb=>R.ok (T.bl b)).bind _)=_;rw[ZO hc h5 hr.up,bOk,bOk,uv hc,bOk,bOk];show ((eqC (.lst (br c r)) (.lst [])).bind λb=>R.ok (T.bl b)).bind _=_;rw[Ym,bOk,bOk,hb];cases (br c r).isEmpty <;> rfl
 rw[Wc a1];show ((neC (.lst (br c r)) (.lst [])).bind _)=_;have en:neC (.lst (br c r)) (.lst [])= .ok (!(br c r).isEmpty):=by cases br c r <;> rfl
 rw[en,bOk];cases e:br c r with
 | nil=>rfl
 | cons x xs=>
  show ZY (oT (lb k r)) .non=_;rw[uv hk];have hx:=wG.mp (e ▸ aa:x∈br c r);cases e1:lb k r with
  | none=>have:=Zw.mp e1 x (hs' x hx.1);rw[hx.2]at this;cases this
  | some y=>rfl
theorem gc:(lb k r).isNone=((fl k r).length == k.all.length):=by
 cases e:lb k r with
 | none=>
  have h:fl k r=k.all:=fK.mpr λx hx=>Zw.mp e x ((Zl k x).mp hx);rw[h];simp
 | some x=>
  have hx:=zL e;have:(fl k r).length ≠ k.all.length:=λz=>by
   have h2:=(List.length_filter_eq_length_iff.mp z) x ((Zl k x).mpr hx.1);rw[hx.2.1]at h2;cases h2
  simp[this]
theorem q9 (hk:k.Ok 3)(h5:k.all.length<=500)(hr:jL 2 r){f g h i j:Sl}:Zh eqC (Zh ZY (vB 5) (cE .non)) (Zh eqC (ap1 zY (za 2 Xc (z9 (vE 1) (z9 (vE 2) (zd))))) (ap1 zY (vB 4))) (e4 ns k r s f g h i j)= .ok (.bl true):=by
 rw[Z4];show (((ZY (oT (lb k r)) .non).bind λb=>R.ok (T.bl b)).bind _)=_;rw[uv hk,bOk,bOk,Z4];have ek:ap1 zY (za 2 Xc (z9 (vE 1) (z9 (vE 2) (zd)))) (e4 ns k r s f g h i j)= .ok (.int ((fl k r).length:Int)):=by
  unfold ap1;rw[zt];show ((Xc [k.t,r.t]).bind zY)=_;rw[UN hk h5 hr.up];rfl
 rw[ek,bOk];show (((eqC (.int ((fl k r).length:Int)) (.int (k.all.length:Int))).bind λb=>R.ok (T.bl b)).bind _)=_;rw[eqI,bOk,bOk,uW,gc];cases ((fl k r).length == k.all.length) <;> rfl
end
noncomputable abbrev g0 (ns:List Int)(a b c d e f g:Sl):En:=[.vl (scr ns),a,b,c,d,e,f,g,.un,.un,.un,.un,.un,.un,.un]
theorem law_ok (ns:List Int)(h:ns.length<=63):f_0 [.fz (ns.map T.int)]= .ok (.bl true):=by
 obtain⟨k,hk,hl,hs⟩:=uX ns 0 (by omega) 40 (by omega)
 obtain⟨k2,hk2,hl2,hs2⟩:=uX ns 6000 (by omega) 40 (by omega)
 obtain⟨r,er,hr⟩:=jM ns 8 2 (by omega) (by omega) 4000 (by omega)
 obtain⟨s,es,hr2⟩:=jM ns 8 2 (by omega) (by omega) 4500 (by omega)
 obtain⟨p,ep,hp⟩:=jM ns 8 1 (by omega) (by omega) 5000 (by omega)
 have ha:=uU 3 8 (by omega) (by omega) k hk (by omega)
 have h5:k.all.length<=500:=by omega
 have hp3:jL 2 p:=hp.up;have L:=lss 3 k hk;have hne:k.all ≠ []:=λz=>by
  have:=Zq 3 k hk;rw[z]at this;exact absurd this (by decide)
 have e0:zz 1 (za 3 Xa (z9 (vE 0) (z9 (cE (.int 0)) (z9 (cE (.int 40)) (zd))))) (g0 ns .un .un .un .un .un .un .un)= .nx (g0 ns (.vl k.t) .un .un .un .un .un .un):=by
  rw[zw (t:=k.t)]
  ·rfl
  ·rw[Z2,v0,bOk,zI,bOk,zI,bOk];exact hs
 have e1:gv (zW (z9 (za 3 (f_l 8) (z9 (vE 0) (z9 (cE (.int 4000)) (z9 (cE (.int 2)) (zd))))) (z9 (za 3 (f_l 8) (z9 (vE 0) (z9 (cE (.int 4500)) (z9 (cE (.int 2)) (zd))))) (zd)))) (zK 2 3) (g0 ns (.vl k.t) .un .un .un .un .un .un)= .nx (g0 ns (.vl k.t) (.vl r.t) (.vl s.t) .un .un .un .un):=by
  unfold gv;rw[uR (x:=r.t) (y:=s.t) (by rw[Z2,v0,bOk,zI,bOk,zI,bOk];exact er) (by rw[Z2,v0,bOk,zI,bOk,zI,bOk];exact es)];rfl
 have e2:zz 4 (za 1 (f_6 8) (z9 (vE 1) (zd))) (g0 ns (.vl k.t) (.vl r.t) (.vl s.t) .un .un .un .un)= .nx (g0 ns (.vl k.t) (.vl r.t) (.vl s.t) (.vl (.lst k.all)) .un .un .un):=by
  rw[zw (t:= .lst k.all)]
  ·rfl
  ·rw[zG,v1,bOk];exact ha
 have e3:VT 5 6 (z9 (za 2 f_n (z9 (vE 1) (z9 (vE 2) (zd)))) (z9 (za 2 f_n (z9 (vE 1) (z9 (vE 3) (zd)))) (zd))) (g0 ns (.vl k.t) (.vl r.t) (.vl s.t) (.vl (.lst k.all)) .un .un .un)= .nx (g0 ns (.vl k.t) (.vl r.t) (.vl s.t) (.vl (.lst k.all)) (.vl (oT (lb k r))) (.vl (oT (lb k s))) .un):=by
  unfold VT;rw[g9 (x:=oT (lb k r)) (y:=oT (lb k s)) (by rw[zt,v1,bOk,v2,bOk];exact ZO hk h5 hr.up) (by rw[zt,v1,bOk,v3,bOk];exact ZO hk h5 hr2.up)];rfl
 have e4' :VT 7 8 (z9 (za 2 f_n (z9 (vE 1) (z9 (zW (z9 (cE (.str "all")) (z9 (vE 2) (z9 (vE 3) (zd))))) (zd)))) (z9 (za 2 f_n (z9 (vE 1) (z9 (zW (z9 (cE (.str "some")) (z9 (vE 2) (z9 (vE 3) (zd))))) (zd)))) (zd))) (g0 ns (.vl k.t) (.vl r.t) (.vl s.t) (.vl (.lst k.all)) (.vl (oT (lb k r))) (.vl (oT (lb k s))) .un)= .nx [.vl (scr ns),.vl k.t,.vl r.t,.vl s.t,.vl (.lst k.all),.vl (oT (lb k r)),.vl (oT (lb k s)),.vl (oT (lb k (.all r s))),.vl (oT (lb k (.some r s))),.un,.un,.un,.un,.un,.un]:=by
  unfold VT;rw[g9 (x:=oT (lb k (.all r s))) (y:=oT (lb k (.some r s))) (by rw[zt,v1,bOk,qM (x:= .str "all") (y:=r.t) (z:=s.t) rfl rfl rfl,bOk];exact ZO (r:= .all r s) hk h5 (.all hr hr2)) (by rw[zt,v1,bOk,qM (x:= .str "some") (y:=r.t) (z:=s.t) rfl rfl rfl,bOk];exact ZO (r:= .some r s) hk h5 (.some hr hr2))];rfl
 have e5:zz 9 (zF (Zs (zW (z9 (vE 5) (z9 (vE 6) (zd))))) (zl 0) (zh Zb (vB 0) (cE .non)) (za 2 f_1 (z9 (vE 1) (z9 (vE 0) (zd)))) 1 [1]) [.vl (scr ns),.vl k.t,.vl r.t,.vl s.t,.vl (.lst k.all),.vl (oT (lb k r)),.vl (oT (lb k s)),.vl (oT (lb k (.all r s))),.vl (oT (lb k (.some r s))),.un,.un,.un,.un,.un,.un]= .nx (e4 ns k r s .un .un .un .un .un):=by
  rw[zw (t:= .lst (wl k r s))]
  ·rfl
  ·rw[zC,Zi,uR rfl rfl,bOk];show ((zp (zl 0) wF wE 1 [1] _ [oT (lb k r),oT (lb k s)]).bind _)=_;rw[z0F hk];rfl
 have e6:zz 10 (za 3 (f_l 8) (z9 (vE 0) (z9 (cE (.int 5000)) (z9 (cE (.int 1)) (zd))))) (e4 ns k r s .un .un .un .un .un)= .nx (e4 ns k r s (.vl p.t) .un .un .un .un):=by
  rw[zw (t:=p.t)]
  ·rfl
  ·rw[Z2,v0,bOk,zI,bOk,zI,bOk];exact ep
 have pt:∀{w:Str},zW (z9 (cE (.str w)) (z9 (vE 10) (z9 (zW (z9 (cE (.str "no")) (z9 (vE 10) (zd)))) (zd)))) (e4 ns k r s (.vl p.t) .un .un .un .un)= .ok (.tup [.str w,p.t,(Ru.no p).t]):=qM rfl rfl (uR rfl rfl);have e7:zh Zb (za 2 f_n (z9 (vE 1) (z9 (zW (z9 (cE (.str "some")) (z9 (vE 10) (z9 (zW (z9 (cE (.str "no")) (z9 (vE 10) (zd)))) (zd))))) (zd)))) (cE .non) (e4 ns k r s (.vl p.t) .un .un .un .un)= .ok false:=by
  rw[zu,zt,v1,bOk,pt,bOk];show ((f_n [k.t,(Ru.some p (.no p)).t]).bind _)=_;rw[ZO hk h5 (.some hp3 (.no hp)),X1];rfl
 obtain⟨z,ez,hz,wz⟩:=KZ (r:=p) L hne;have e8:zz 11 (za 2 f_n (z9 (vE 1) (z9 (zW (z9 (cE (.str "all")) (z9 (vE 10) (z9 (zW (z9 (cE (.str "no")) (z9 (vE 10) (zd)))) (zd))))) (zd)))) (e4 ns k r s (.vl p.t) .un .un .un .un)= .nx (e4 ns k r s (.vl p.t) (.vl z) .un .un .un):=by
  rw[zw (t:=z)]
  ·rfl
  ·rw[zt,v1,bOk,pt,bOk];show f_n [k.t,(Ru.all p (.no p)).t]=_;rw[ZO hk h5 (.all hp3 (.no hp)),ez];rfl
 have e9:orT (zh ZY (vB 11) (cE .non)) (zh neC (za 2 f_1 (z9 (vE 1) (z9 (vE 11) (zd)))) (cE (.int 0))) (e4 ns k r s (.vl p.t) (.vl z) .un .un .un)= .ok false:=by
  refine Wc (X0 (Xd 2 k z hk hz)) ?_;rw[zu,zt];show ((f_1 [k.t,z]).bind _)=_;rw[jO hk hz,wz];rfl
 have e10:zz 12 (za 3 Xa (z9 (vE 0) (z9 (cE (.int 6000)) (z9 (cE (.int 40)) (zd))))) (e4 ns k r s (.vl p.t) (.vl z) .un .un .un)= .nx (e4 ns k r s (.vl p.t) (.vl z) (.vl k2.t) .un .un):=by
  rw[zw (t:=k2.t)]
  ·rfl
  ·rw[Z2,v0,bOk,zI,bOk,zI,bOk];exact hs2
 have eb:∀t,f_x [k.t,k2.t]= .ok t->zz 13 (za 2 f_x (z9 (vE 1) (z9 (vE 12) (zd)))) (e4 ns k r s (.vl p.t) (.vl z) (.vl k2.t) .un .un)= .nx (e4 ns k r s (.vl p.t) (.vl z) (.vl k2.t) (.vl t) .un):=λt ht=>by
  rw[zw (t:=t)]
  ·rfl
  ·rw[zt];exact ht
 show zi (b_0 _ _ _ _ _ _ _ _ (g0 ns .un .un .un .un .un .un .un))=_;rw[b_0,zb e0,zb e1,zb e2,zb e3,zb e4',zb e5,zb (ze (q1 hk)),zb (ze (q2 hk)),zb e6,zb (ze e7),zb e8,zb (ze e9),zb (ze (q5 hk hr hr2)),zb (ze (q6 hk)),zb e10];rcases xZ hk hk2 with ⟨c,hc,hc3,hsub⟩ | hc
 ·have h5c:c.all.length<=500:=by
   have:=(xW hc3 hk hsub).1;omega
  have hac:=uU 3 8 (by omega) (by omega) c hc3 (by omega)
  obtain⟨y,rr,hct⟩:=z0B c;have ec:zp (zl 0) (Jj (ZJ (za 2 (f_a 8) (z9 (vE 1) (z9 (vE 0) (zd)))))) (vE 0) 1 [2] (e4 ns k r s (.vl p.t) (.vl z) (.vl k2.t) (.vl c.t) .un) c.all= .ok (br c r):=
   Zm _ (aq h5c (by decide)) λt ht=>⟨by
    show Jj (ZJ _) [.vl t,.vl r.t]=_;rw[Je,j2,zt,v1,bOk,v0,bOk];show (((S_a 8 0 [r.t,t]).bind tru).bind _)=_;rw[ZM (by omega) (v7 hc3 ht) 8 2 (by omega) r hr];rfl,rfl⟩
  have e11:zz 14 (zF (Zs (za 1 (f_6 8) (z9 (vE 13) (zd)))) (zl 0) (Jj (ZJ (za 2 (f_a 8) (z9 (vE 1) (z9 (vE 0) (zd)))))) (vE 0) 1 [2]) (e4 ns k r s (.vl p.t) (.vl z) (.vl k2.t) (.vl c.t) .un)= .nx (e4 ns k r s (.vl p.t) (.vl z) (.vl k2.t) (.vl c.t) (.vl (.lst (br c r)))):=by
   rw[zw (t:= .lst (br c r))]
   ·rfl
   ·rw[zC,Zi,zG];show (((S_6 8 0 [c.t]).bind Jb).bind _)=_;rw[hac];show ((zp _ _ _ _ _ _ c.all).bind _)=_;rw[ec];rfl
  have e12:zh Zb (vB 13) (cE .non) (e4 ns k r s (.vl p.t) (.vl z) (.vl k2.t) (.vl c.t) .un)= .ok true:=by
   show Zb c.t .non=_;rw[hct];rfl
  rw[zb (eb _ hc),zb (ρ' :=e4 ns k r s (.vl p.t) (.vl z) (.vl k2.t) (.vl c.t) (.vl (.lst (br c r)))) (by rw[ZI e12,zb e11,ze (q8 hk hc3 h5c hsub hr)]),zg (t:= .bl true) (q9 hk h5 hr)];rfl
 ·have e12:zh Zb (vB 13) (cE .non) (e4 ns k r s (.vl p.t) (.vl z) (.vl k2.t) (.vl .non) .un)= .ok false:=rfl;rw[zb (eb _ hc),zb (ze e12),zg (t:= .bl true) (q9 hk h5 hr)];rfl
end G
namespace G
open PySem PySem.Spec PyProof.Rows L2 PV
noncomputable def top (i:Nat):Stmt:=PySem.Challenge.pw_worthkinds_k52_whole_least_by_kinds.main.body.getD i (.Pass ⟨0,0,0,0⟩)
set_option genInjectivity false in
set_option genSizeOf false in
structure Tx (K:ae) (mg:Str->Option Value):Prop where
 C_1g:FE K mg "_law_cell" (top 62) ["_law_script","_law_k"]
 C_4:FE K mg "_law_pick" (top 63) ["_law_script","_law_k","_law_many"]
 C_12:FE K mg "_law_word_of" (top 64) ["_law_script","_law_at"]
 C_14:FE K mg "_law_leaf_kind" (top 65) ["_law_script","_law_at"]
 C_j:FE K mg "_law_kind" (top 66) ["_law_script","_law_at","_law_deep"]
 C_g:FE K mg "_law_rows_of" (top 68) ["_law_lists"]
 C_6:FE K mg "_law_all" (top 67) ["_law_kind_here"]
 C_f:FE K mg "_law_size" (top 69) ["_law_kind_here"]
 C_10:FE K mg "_law_small" (top 70) ["_law_script","_law_at","_law_most"]
 C_l:FE K mg "_law_rule" (top 71) ["_law_script","_law_at","_law_deep"]
 C_b:FE K mg "is_whole" (top 12) ["thing"]
 C_1a:FE K mg "is_bound" (top 39) ["thing"]
 C_t:FE K mg "is_word" (top 14) ["thing"]
 C_p:FE K mg "is_rule_within" (top 38) ["thing","levels"]
 C_d:FE K mg "is_rule" (top 35) ["thing"]
 C_s:FE K mg "need_rule" (top 37) ["rule"]
 C_1i:FE K mg "is_span" (top 15) ["low","high","least","most"]
 C_i:FE K mg "is_tuple_of" (top 13) ["thing","least","most"]
 C_11:FE K mg "is_choice" (top 18) ["thing"]
 C_17:FE K mg "are_choices" (top 17) ["thing"]
 C_9:FE K mg "is_kind_within" (top 16) ["thing","levels"]
 C_1l:FE K mg "are_kinds_within" (top 19) ["thing","levels"]
 C_3:FE K mg "is_kind" (top 8) ["thing"]
 C_o:FE K mg "need_kind" (top 10) ["kind"]
 C_2:FE K mg "count_of" (top 26) ["kind"]
 C_v:FE K mg "count_of_parts" (top 27) ["kinds"]
 C_q:FE K mg "count_shorter" (top 28) ["kind","length"]
 C_e:FE K mg "words_of_pick" (top 20) ["kind"]
 C_8:FE K mg "worth_at" (top 29) ["kind","number"]
 C_1j:FE K mg "many_at" (top 30) ["kind","number"]
 C_w:FE K mg "parts_at" (top 31) ["kinds","number"]
 C_r:FE K mg "all_worths" (top 25) ["kind"]
 C_k:FE K mg "leaves_of" (top 43) ["worth"]
 C_19:FE K mg "numbers_in" (top 44) ["worth"]
 C_1h:FE K mg "parts_of" (top 42) ["worth"]
 C_1b:FE K mg "are_rising" (top 45) ["numbers"]
 C_1c:FE K mg "are_unlike" (top 46) ["parts"]
 C_15:FE K mg "is_single_kept" (top 41) ["rule","worth"]
 C_c:FE K mg "is_kept" (top 40) ["rule","worth"]
 C_u:FE K mg "nearest_to_nought" (top 50) ["kind"]
 C_7:FE K mg "weight_within" (top 51) ["kind","worth"]
 C_y:FE K mg "weight_of_parts" (top 52) ["kinds","parts"]
 C_n:FE K mg "least_breaking" (top 49) ["kind","rule"]
 C_h:FE K mg "has_worth" (top 21) ["kind","thing"]
 C_1f:FE K mg "have_parts" (top 22) ["kinds","parts"]
 C_1e:FE K mg "is_worth" (top 9) ["kind","thing"]
 C_1d:FE K mg "need_worth" (top 11) ["kind","worth"]
 C_1:FE K mg "weight" (top 48) ["kind","worth"]
 C_m:FE K mg "_law_leaves" (top 72) ["_law_worth"]
 C_a:FE K mg "_law_keeps" (top 73) ["_law_rule_here","_law_worth"]
 C_z:FE K mg "kinds_of_parts" (top 56) ["kind","length"]
 C_16:FE K mg "common_whole" (top 58) ["one","other"]
 C_18:FE K mg "common_pick" (top 59) ["one","other"]
 C_5:FE K mg "common_kind" (top 55) ["one","other"]
 C_1k:FE K mg "common_row" (top 57) ["one_kinds","other_kinds"]
 C_1m:FE K mg "common_many" (top 60) ["one","other"]
 C_x:FE K mg "both" (top 54) ["one","other"]
 C_13:FE K mg "keepers" (top 36) ["kind","rule"]
 C_0:FE K mg "law" (top 74) ["_law_script"]
 z:∀x,(["abs","all","any","bool","enumerate","int","isinstance","len","list","max","min","range","reversed","set","sorted","str","sum","tuple","zip"]:List Str).contains x=true->mg x=none
 c_DEEPEST:∃u,mg "DEEPEST"=some u/\∃t,u=Value.int 3 t
 c_DEEPEST_RULE:∃u,mg "DEEPEST_RULE"=some u/\∃t,u=Value.int 3 t
 c_FARTHEST_BOUND:∃u,mg "FARTHEST_BOUND"=some u/\∃t,u=Value.int 50 t
 c_MOST_TOLD:∃u,mg "MOST_TOLD"=some u/\∃t,u=Value.int 500 t
section
variable {Z:Zz}{Pt:Addr}(tx:Tx Z.K Z.mg)
include tx
set_option hygiene false
local macro_rules | `(tactic| gp_on)=> `(tactic| first
  | (show uC _ _ _ _;first
   | refine XW ?_ ?_
   | exact GA)
  | (show Snd _ _ (.Name ..) _;first
   | exact Gw _ (pv _)
   | exact tx.c_FARTHEST_BOUND.elim λ_ h=>wT (by rfl) h.1 h.2
   | exact tx.c_DEEPEST_RULE.elim λ_ h=>wT (by rfl) h.1 h.2
   | exact tx.c_DEEPEST.elim λ_ h=>wT (by rfl) h.1 h.2
   | exact tx.c_MOST_TOLD.elim λ_ h=>wT (by rfl) h.1 h.2)
  | (show Snd _ _ (.Constant ..) _;first
   | exact Gx
   | exact Gz
   | exact Gy
   | exact s_bl)
  | (show WA _ _ _ _;first
   | refine kh ?_ ?_
   | exact GZ
   | refine z00 ?_)
  | (show jb _ _ _ _;first
   | exact XV _ (pv _)
   | refine Snd.b ?_)
  | (show wm _ _ _ _;first
   | refine z01 ?_
   | refine z02 ?_ ?_ ?_
   | refine ki nd (by rfl) (.inl (by rfl)) ?_
   | refine z06 im (by rfl) ?_ ?_ ?_
   | refine vF (cr1 hy (by kernel_rfl) (by kernel_rfl) (by rfl) ?_ (λ_ hy _ _ _ _ _ _=> ?_) (λ_ hy _ _ _ _ _ _ _ hp=> ?_)) nd (by rfl) (.inl (by rfl)) (by rfl)
   | refine km ?_
   | refine kl nd (by rfl) (.inl (by rfl)) ?_
   | refine ki nd (by rfl) (.inr (by rfl)) ?_
   | exact z0d
   | refine z04 (pv _) ?_
   | refine z03 (pv _) ?_
   | refine z09 (by rfl) nd (by rfl) (by rfl) (by decide) (by rfl) (by rfl) ?_ (by rfl)
   | exact s_mv (pv _) nd (by rfl) (.inl (by rfl))
   | refine VM (n:=_) im ?_ ?_
   | refine kR (cr1 hy (by kernel_rfl) (by kernel_rfl) (by rfl) ?_ (λ_ hy _ _ _ _ _ _=> ?_) (λ_ hy _ _ _ _ _ _ _ hp=> ?_))
   | refine vF (cr2 hy (by kernel_rfl) (by kernel_rfl) (by rfl) ?_ (λ_ hy _ _ _ _ _ _=> ?_) (λ_ hy _ _ _ _ _ _ _ hp=> ?_)) nd (by rfl) (.inl (by rfl)) (by rfl)
   | refine K4 ?_ (ky (by rfl) nd (by rfl) (by rfl) (.inr (by rfl)) (.inl (by rfl))))
  | (show Snd _ _ (.Call ..) _;first
   | refine GU (by rfl) (tx.z _ (by kernel_rfl)) ?_
   | refine Qc (n:="tuple") (yy _) (by rfl) (tx.z _ (by kernel_rfl)) (by rfl) (tx.z _ (by kernel_rfl)) PyProof.Rows.Boot.«tuple» ?_
   | refine cT hT hy hp (by assumption) hr ?_
   | refine kg (by rfl) (by rfl) (tx.z _ (by kernel_rfl)) ?_ ?_
   | refine GX hr.hd (by rfl) (tx.z _ (by kernel_rfl)) ?_
   | refine VF (by rfl) (tx.z _ (by kernel_rfl)) ?_
   | refine kP (by rfl) (tx.z _ (by kernel_rfl)) ?_
   | refine z0e hr.hd (by rfl) (tx.z _ (by kernel_rfl)) ?_
   | refine K5 (by rfl) (by rfl) (tx.z _ (by kernel_rfl)) ?_ ?_
   | refine Qc (n:="int") (VG _) (by rfl) (tx.z _ (by kernel_rfl)) (by rfl) (tx.z _ (by kernel_rfl)) PyProof.Rows.Boot.«int» ?_
   | refine kH ?_
   | refine xa hr.hd (by rfl) (tx.z _ (by kernel_rfl)) (by rfl) (tx.z _ (by kernel_rfl)) ?_ ?_
   | refine Qc (n:="bool") (Qb _) (by rfl) (tx.z _ (by kernel_rfl)) (by rfl) (tx.z _ (by kernel_rfl)) PyProof.Rows.Boot.«bool» ?_
   | refine Qc (n:="str") (VH _) (by rfl) (tx.z _ (by kernel_rfl)) (by rfl) (tx.z _ (by kernel_rfl)) PyProof.Rows.Boot.«str» ?_
   | refine kI hr.hd (by rfl) (tx.z _ (by kernel_rfl)) (by rfl) (tx.z _ (by kernel_rfl)) ?_
   | refine K2 hr.hd (by rfl) (tx.z _ (by kernel_rfl)) (by rfl) (tx.z _ (by kernel_rfl)) ?_
   | refine z0k hr.hd (by rfl) (tx.z _ (by kernel_rfl)) ?_
   | refine z0n (by rfl) (tx.z _ (by kernel_rfl)) ?_
   | refine xf hr.units ?_ ?_
   | refine mK (kE:=21) L hT hy hr (tx.z _ (by kernel_rfl)) (by kernel_rfl) (by kernel_rfl) ?_ ?_ (λ_ _ _ _ _ _ _ _ _ _ KB hy hE hr=> ?_)
   | refine K3 (by rfl) (tx.z _ (by kernel_rfl)) ?_
   | refine K7 hr.hd (by rfl) (tx.z _ (by kernel_rfl)) ?_
   | refine K6 hr.hd (by rfl) (tx.z _ (by kernel_rfl)) ?_
   | refine cZ hy (by assumption) hr ?_
   | refine cZ hy (U_weight_within _ KB) hr ?_)
  | (show Snd _ _ (.Subscript ..) _;first
   | refine s_ix ?_ ?_
   | refine VL ?_ ?_ ?_)
  | (show Wx _ _ _ _;first
   | refine wM XZ (vo hr.units) ?_ ?_ (ZQ _)
   | refine GR ?_
   | refine wM ka VB ?_ ?_ (ZQ _)
   | refine wM GK k7 ?_ ?_ (ZQ _)
   | refine wM k3 (vp hr.units) ?_ ?_ (ZQ _)
   | refine wM GJ k6 ?_ ?_ (ZQ _)
   | refine wM Q7 (vq hr.units) ?_ ?_ (by rfl)
   | refine wM wN jA ?_ ?_ (ZQ _)
   | refine wM Q8 vt ?_ ?_ (ZQ _)
   | refine wM k9 (VA hr.units) ?_ ?_ (by rfl)
   | refine VD wN wN jA jA ?_ ?_ ?_
   | refine GS ?_
   | refine UP.t ?_)
  | (show Snd _ _ (.BinOp ..) _;first
   | refine GE ?_ ?_
   | refine GH ?_ ?_
   | refine GF ?_ ?_
   | refine GG ?_ ?_
   | refine XY ?_ ?_
   | refine z0o ?_ ?_)
  | (show Snd _ _ (.BoolOp ..) _;first
   | refine GN ?_ ?_
   | refine s_or ?_ ?_
   | refine GM ?_)
  | (show UP _ _ _ _;first
   | refine w_or ?_ ?_
   | refine GQ ?_ ?_
   | refine GP ?_
   | refine kb ?_)
  | (show uc _ _ _ _ _;first
   | refine ku (by rfl) (tx.z _ (by kernel_rfl)) ?_
   | refine z0b (by rfl) (tx.z _ (by kernel_rfl)) ?_ ?_
   | refine kv (by rfl) (tx.z _ (by kernel_rfl)) ?_ ?_
   | refine kF (by rfl) (tx.z _ (by kernel_rfl)) ?_
   | refine z0i (by rfl) (tx.z _ (by kernel_rfl)) ?_
   | refine xj (by rfl) (tx.z _ (by kernel_rfl)) ?_
   | refine z08 ?_)
  | (show Snd _ _ (.Compare ..) _;first
   | refine Uu XZ (vo hr.units) ?_ ?_ (ZQ _)
   | refine VC wN wN jA jA ?_ ?_ ?_
   | refine Uu wN jA ?_ ?_ (ZQ _)
   | refine Uu Q7 (vq hr.units) ?_ ?_ (by rfl)
   | refine Uu Q8 vt ?_ ?_ (ZQ _)
   | refine Q9 wN wN wN jA jA jA ?_ ?_ ?_ ?_
   | refine Uu GL k8 ?_ ?_ (ZQ _)
   | refine Uu k3 (vp hr.units) ?_ ?_ (ZQ _))
  | (show Snd _ _ (.Tuple ..) _;first
   | refine GB ?_)
  | (show wR _ _ _ _;first
   | exact kB
   | refine kC ?_)
  | (show Snd _ _ (.List ..) _;first
   | refine GC ?_)
  | (show Snd _ _ (.ListComp ..) _;first
   | refine vD (cr1 hy (by kernel_rfl) (by kernel_rfl) (by rfl) ?_ (λ_ hy _ _ _ _ _ _=> ?_) (λ_ hy _ _ _ _ _ _ _ hp=> ?_))
   | refine vD (cr2 hy (by kernel_rfl) (by kernel_rfl) (by rfl) ?_ (λ_ hy _ _ _ _ _ _=> ?_) (λ_ hy _ _ _ _ _ _ _ hp=> ?_)))
  | (show kx _ _ _ _;first
   | exact vA nd (by rfl) (.inl (by rfl))
   | exact vA nd (by rfl) (.inr (by rfl)))
  | (show Snd _ _ (.IfExp ..) _;first
   | refine s_if ?_ ?_ ?_)
  | (show Snd _ _ (.UnaryOp ..) _;first
   | refine GI ?_
   | refine GO ?_)
  | (show VI _ _ _ _;first
   | refine ke ?_
   | exact kd)
  )
local macro_rules | `(tactic| kd_all)=> `(tactic| (intro cdv A outer s H E Y hy hE hr nd hp;repeat' gp_on))
theorem z0G:qP Z "_law_cell" 2 1 (oP 2 b_1g):=by
 refine okP tx.C_1g ["_law_script","_law_k"] λ_=> ?_
 kd_all
theorem ok_4 (_:qP Z "_law_cell" 2 1 c_1g):qP Z "_law_pick" 3 2 (oP 4 (b_4 c_1g)):=by
 refine okP tx.C_4 ["_law_script","_law_k","_law_many","_law_drawn"] λ_=> ?_
 kd_all
theorem z0H (_:qP Z "_law_pick" 3 2 c_4):qP Z "_law_word_of" 2 3 (oP 3 (gw c_4)):=by
 refine okP tx.C_12 ["_law_script","_law_at","_law_letters"] λ_=> ?_
 kd_all
theorem z0I (_:qP Z "_law_pick" 3 2 c_4)(_:qP Z "_law_word_of" 2 3 c_12):qP Z "_law_leaf_kind" 2 4 (oP 6 (gx c_4 c_12)):=by
 refine okP tx.C_14 ["_law_script","_law_at","_law_low","_law_words","_law_k","_law_word"] λ_=> ?_
 kd_all
theorem ok_j {j:Nat}(hj:4<=j)(_:qP Z "_law_pick" 3 2 c_4)(_:qP Z "_law_leaf_kind" 2 4 c_14)(_:qP Z "_law_kind" 3 j c_j):qP Z "_law_kind" 3 (j+1) (oP 6 (b_j c_4 c_14 c_j)):=by
 refine okP tx.C_j ["_law_script","_law_at","_law_deep","_law_way","_law_some","_law_low"] λ_=> ?_
 kd_all
theorem ok_g:qP Z "_law_rows_of" 1 1 (oP 5 b_g):=by
 refine okP tx.C_g ["_law_lists","_law_made","_law_some","_law_longer","_law_ahead"] λ_=> ?_
 kd_all
theorem ok_6 {j:Nat}(hj:1<=j)(_:qP Z "_law_all" 1 j c_6)(_:qP Z "_law_rows_of" 1 1 c_g):qP Z "_law_all" 1 (j+1) (oP 3 (b_6 c_6 c_g)):=by
 refine okP tx.C_6 ["_law_kind_here","_law_made","_law_size_here"] λ_=> ?_
 kd_all
theorem ok_f {j:Nat}(hj:9<=j)(_:qP Z "_law_all" 1 9 c_6)(_:qP Z "_law_size" 1 j c_f):qP Z "_law_size" 1 (j+1) (oP 5 (b_f c_6 c_f)):=by
 refine okP tx.C_f ["_law_kind_here","_law_sizes","_law_made","_law_size_here","_law_inner"] λ_=> ?_
 kd_all
theorem z0J (_:qP Z "_law_kind" 3 12 c_j)(_:qP Z "_law_size" 1 17 c_f):qP Z "_law_small" 3 18 (oP 5 (gy c_j c_f)):=by
 refine okP tx.C_10 ["_law_script","_law_at","_law_most","_law_kind_here","_law_k"] λ_=> ?_
 kd_all
theorem ok_l {j:Nat}(hj:2<=j)(_:qP Z "_law_pick" 3 2 c_4)(_:qP Z "_law_rule" 3 j c_l):qP Z "_law_rule" 3 (j+1) (oP 6 (b_l c_4 c_l)):=by
 refine okP tx.C_l ["_law_script","_law_at","_law_deep","_law_way","_law_one","_law_low"] λ_=> ?_
 kd_all
theorem ok_b:qP Z "is_whole" 1 1 (oP 1 b_b):=by
 refine okP tx.C_b ["thing"] λ_=> ?_
 kd_all
theorem z0K (_:qP Z "is_whole" 1 1 c_b):qP Z "is_bound" 1 2 (oP 1 (gz c_b)):=by
 refine okP tx.C_1a ["thing"] λ_=> ?_
 kd_all
theorem ok_t:qP Z "is_word" 1 1 (oP 1 b_t):=by
 refine okP tx.C_t ["thing"] λ_=> ?_
 kd_all
theorem ok_p {j:Nat}(hj:2<=j)(_:qP Z "is_word" 1 1 c_t)(_:qP Z "is_rule_within" 2 j c_p)(_:qP Z "is_bound" 1 2 c_1a):qP Z "is_rule_within" 2 (j+1) (oP 2 (b_p c_t c_p c_1a)):=by
 refine okP tx.C_p ["thing","levels"] λ_=> ?_
 kd_all
theorem ok_d (_:qP Z "is_rule_within" 2 10 c_p):qP Z "is_rule" 1 11 (oP 1 (b_d c_p)):=by
 refine okP tx.C_d ["thing"] λ_=> ?_
 kd_all
theorem ok_s (_:qP Z "is_rule" 1 11 c_d):qP Z "need_rule" 1 12 (oP 1 (b_s c_d)):=by
 refine okP tx.C_s ["rule"] λ_=> ?_
 kd_all
theorem z0L (_:qP Z "is_whole" 1 1 c_b):qP Z "is_span" 4 2 (oP 4 (b_1i c_b)):=by
 refine okP tx.C_1i ["low","high","least","most"] λ_=> ?_
 kd_all
theorem ok_i:qP Z "is_tuple_of" 3 1 (oP 3 b_i):=by
 refine okP tx.C_i ["thing","least","most"] λ_=> ?_
 kd_all
theorem z0M (_:qP Z "is_whole" 1 1 c_b)(_:qP Z "is_tuple_of" 3 1 c_i)(_:qP Z "is_word" 1 1 c_t):qP Z "is_choice" 1 2 (oP 1 (gC c_b c_i c_t)):=by
 refine okP tx.C_11 ["thing"] λ_=> ?_
 kd_all
theorem z0N (_:qP Z "is_tuple_of" 3 1 c_i)(_:qP Z "is_choice" 1 2 c_11):qP Z "are_choices" 1 3 (oP 2 (gE c_i c_11)):=by
 refine okP tx.C_17 ["thing","words"] λ_=> ?_
 kd_all
theorem ok_9 {j:Nat}(hj:3<=j)(_:qP Z "is_span" 4 2 c_1i)(_:qP Z "is_kind_within" 2 j c_9)(_:qP Z "are_choices" 1 3 c_17)(_:qP Z "are_kinds_within" 2 j c_1l):qP Z "is_kind_within" 2 (j+1) (oP 2 (b_9 c_1i c_9 c_17 c_1l)):=by
 refine okP tx.C_9 ["thing","levels"] λ_=> ?_
 kd_all
theorem z0O {j:Nat}(hj:3<=j)(_:qP Z "is_tuple_of" 3 1 c_i)(_:qP Z "is_kind_within" 2 j c_9):qP Z "are_kinds_within" 2 (j+1) (oP 2 (gF c_i c_9)):=by
 refine okP tx.C_1l ["thing","levels"] λ_=> ?_
 kd_all
theorem ok_3 (_:qP Z "is_kind_within" 2 23 c_9):qP Z "is_kind" 1 24 (oP 1 (b_3 c_9)):=by
 refine okP tx.C_3 ["thing"] λ_=> ?_
 kd_all
theorem ok_o (_:qP Z "is_kind" 1 24 c_3):qP Z "need_kind" 1 25 (oP 1 (b_o c_3)):=by
 refine okP tx.C_o ["kind"] λ_=> ?_
 kd_all
theorem ok_2 {j:Nat}(hj:0<=j)(_:qP Z "count_of_parts" 1 j c_v)(_:qP Z "count_shorter" 2 j c_q):qP Z "count_of" 1 (j+1) (oP 1 (b_2 c_v c_q)):=by
 refine okP tx.C_2 ["kind"] λ_=> ?_
 kd_all
theorem ok_v {j:Nat}(hj:0<=j)(_:qP Z "count_of" 1 j c_2):qP Z "count_of_parts" 1 (j+1) (oP 3 (b_v c_2)):=by
 refine okP tx.C_v ["kinds","count","kind"] λ_=> ?_
 kd_all
theorem ok_q {j:Nat}(hj:0<=j)(_:qP Z "count_of_parts" 1 j c_v):qP Z "count_shorter" 2 (j+1) (oP 2 (b_q c_v)):=by
 refine okP tx.C_q ["kind","length"] λ_=> ?_
 kd_all
theorem ok_e:qP Z "words_of_pick" 1 1 (oP 1 b_e):=by
 refine okP tx.C_e ["kind"] λ_=> ?_
 kd_all
theorem ok_8 {j:Nat}(hj:20<=j)(_:qP Z "words_of_pick" 1 1 c_e)(_:qP Z "many_at" 2 j c_1j)(_:qP Z "parts_at" 2 j c_w):qP Z "worth_at" 2 (j+1) (oP 2 (b_8 c_e c_1j c_w)):=by
 refine okP tx.C_8 ["kind","number"] λ_=> ?_
 kd_all
theorem z0P {j:Nat}(hj:20<=j)(_:qP Z "count_shorter" 2 20 c_q)(_:qP Z "parts_at" 2 j c_w):qP Z "many_at" 2 (j+1) (oP 3 (Xb c_q c_w)):=by
 refine okP tx.C_1j ["kind","number","length"] λ_=> ?_
 kd_all
theorem ok_w {j:Nat}(hj:20<=j)(_:qP Z "count_of" 1 20 c_2)(_:qP Z "worth_at" 2 j c_8):qP Z "parts_at" 2 (j+1) (oP 6 (b_w c_2 c_8)):=by
 refine okP tx.C_w ["kinds","number","parts","rest","kind","count"] λ_=> ?_
 kd_all
theorem ok_r (_:qP Z "need_kind" 1 25 c_o)(_:qP Z "count_of" 1 20 c_2)(_:qP Z "worth_at" 2 40 c_8):qP Z "all_worths" 1 41 (oP 2 (b_r c_o c_2 c_8)):=by
 refine okP tx.C_r ["kind","count"] λ_=> ?_
 kd_all
theorem ok_k {j:Nat}(hj:0<=j)(_:qP Z "leaves_of" 1 j c_k):qP Z "leaves_of" 1 (j+1) (oP 3 (b_k c_k)):=by
 refine okP tx.C_k ["worth","leaves","part"] λ_=> ?_
 kd_all
theorem z0Q (_:qP Z "is_whole" 1 1 c_b)(_:qP Z "leaves_of" 1 8 c_k):qP Z "numbers_in" 1 9 (oP 1 (gG c_b c_k)):=by
 refine okP tx.C_19 ["worth"] λ_=> ?_
 kd_all
theorem z0R:qP Z "parts_of" 1 1 (oP 1 b_1h):=by
 refine okP tx.C_1h ["worth"] λ_=> ?_
 kd_all
theorem z0S:qP Z "are_rising" 1 1 (oP 1 gK):=by
 refine okP tx.C_1b ["numbers"] λ_=> ?_
 kd_all
theorem z0T:qP Z "are_unlike" 1 1 (oP 1 gM):=by
 refine okP tx.C_1c ["parts"] λ_=> ?_
 kd_all
theorem z0U (_:qP Z "parts_of" 1 1 c_1h)(_:qP Z "leaves_of" 1 8 c_k)(_:qP Z "numbers_in" 1 9 c_19)(_:qP Z "are_rising" 1 1 c_1b)(_:qP Z "are_unlike" 1 1 c_1c):qP Z "is_single_kept" 2 10 (oP 2 (gO c_1h c_k c_19 c_1b c_1c)):=by
 refine okP tx.C_15 ["rule","worth"] λ_=> ?_
 kd_all
theorem ok_c {j:Nat}(hj:10<=j)(_:qP Z "is_kept" 2 j c_c)(_:qP Z "is_single_kept" 2 10 c_15):qP Z "is_kept" 2 (j+1) (oP 2 (b_c c_c c_15)):=by
 refine okP tx.C_c ["rule","worth"] λ_=> ?_
 kd_all
theorem ok_u:qP Z "nearest_to_nought" 1 1 (oP 1 b_u):=by
 refine okP tx.C_u ["kind"] λ_=> ?_
 kd_all
theorem ok_7 {j:Nat}(hj:1<=j)(_:qP Z "words_of_pick" 1 1 c_e)(_:qP Z "nearest_to_nought" 1 1 c_u)(_:qP Z "weight_of_parts" 2 j c_y):qP Z "weight_within" 2 (j+1) (oP 2 (b_7 c_e c_u c_y)):=by
 refine okP tx.C_7 ["kind","worth"] λ_=> ?_
 kd_all
theorem ok_y {j:Nat}(hj:1<=j)(_:qP Z "weight_within" 2 j c_7):qP Z "weight_of_parts" 2 (j+1) (oP 2 (b_y c_7)):=by
 refine okP tx.C_y ["kinds","parts"] λ_=> ?_
 kd_all
theorem ok_n (tp:FT Z.K Z.mg "least_breaking" (top 49) ["kind","rule"] Pt)(hBT:Z.base.BuiltinsAt Z.mg Pt)(_:qP Z "all_worths" 1 41 c_r)(_:qP Z "need_rule" 1 12 c_s)(_:qP Z "is_kept" 2 18 c_c)(U_weight_within:∀b,Z.K.In b->qP { Z with base:=b } "weight_within" 2 21 c_7):qT Z "least_breaking" 2 42 (oP 3 (b_n c_r c_s c_c c_7)) Pt (qlT "least_breaking"):=by
 refine okT tp hBT ["kind","rule","breaking"] λ_=> ?_;intro c A outer s H E Y L hT hy hE hr nd hp
 repeat' gp_on
theorem ok_h {j:Nat}(hj:1<=j)(_:qP Z "is_whole" 1 1 c_b)(_:qP Z "is_tuple_of" 3 1 c_i)(_:qP Z "words_of_pick" 1 1 c_e)(_:qP Z "have_parts" 2 j c_1f):qP Z "has_worth" 2 (j+1) (oP 2 (b_h c_b c_i c_e c_1f)):=by
 refine okP tx.C_h ["kind","thing"] λ_=> ?_
 kd_all
theorem z0V {j:Nat}(hj:1<=j)(_:qP Z "has_worth" 2 j c_h):qP Z "have_parts" 2 (j+1) (oP 2 (Ki c_h)):=by
 refine okP tx.C_1f ["kinds","parts"] λ_=> ?_
 kd_all
theorem z0W (_:qP Z "need_kind" 1 25 c_o)(_:qP Z "has_worth" 2 21 c_h):qP Z "is_worth" 2 26 (oP 2 (gP c_o c_h)):=by
 refine okP tx.C_1e ["kind","thing"] λ_=> ?_
 kd_all
theorem z0X (_:qP Z "is_worth" 2 26 c_1e):qP Z "need_worth" 2 27 (oP 2 (gR c_1e)):=by
 refine okP tx.C_1d ["kind","worth"] λ_=> ?_
 kd_all
theorem ok_1 (_:qP Z "need_worth" 2 27 c_1d)(_:qP Z "weight_within" 2 21 c_7):qP Z "weight" 2 28 (oP 2 (b_1 c_1d c_7)):=by
 refine okP tx.C_1 ["kind","worth"] λ_=> ?_
 kd_all
theorem ok_m {j:Nat}(hj:0<=j)(_:qP Z "_law_leaves" 1 j c_m):qP Z "_law_leaves" 1 (j+1) (oP 3 (b_m c_m)):=by
 refine okP tx.C_m ["_law_worth","_law_made","_law_part"] λ_=> ?_
 kd_all
theorem ok_a {j:Nat}(hj:8<=j)(_:qP Z "_law_leaves" 1 8 c_m)(_:qP Z "_law_keeps" 2 j c_a):qP Z "_law_keeps" 2 (j+1) (oP 7 (b_a c_m c_a)):=by
 refine okP tx.C_a ["_law_rule_here","_law_worth","_law_numbers","_law_parts","_law_total","_law_number","_law_some"] λ_=> ?_
 kd_all
theorem ok_z:qP Z "kinds_of_parts" 2 1 (oP 2 b_z):=by
 refine okP tx.C_z ["kind","length"] λ_=> ?_
 kd_all
theorem z0Y:qP Z "common_whole" 2 1 (oP 4 gT):=by
 refine okP tx.C_16 ["one","other","low","high"] λ_=> ?_
 kd_all
theorem z0Z (_:qP Z "words_of_pick" 1 1 c_e):qP Z "common_pick" 2 2 (oP 4 (gU c_e)):=by
 refine okP tx.C_18 ["one","other","words","choices"] λ_=> ?_
 kd_all
theorem ok_5 {j:Nat}(hj:2<=j)(_:qP Z "kinds_of_parts" 2 1 c_z)(_:qP Z "common_row" 2 j c_1k)(_:qP Z "common_whole" 2 1 c_16)(_:qP Z "common_pick" 2 2 c_18)(_:qP Z "common_many" 2 j c_1m):qP Z "common_kind" 2 (j+1) (oP 2 (b_5 c_z c_1k c_16 c_18 c_1m)):=by
 refine okP tx.C_5 ["one","other"] λ_=> ?_
 kd_all
theorem z10 {j:Nat}(hj:2<=j)(_:qP Z "common_kind" 2 j c_5):qP Z "common_row" 2 (j+1) (oP 3 (gW c_5)):=by
 refine okP tx.C_1k ["one_kinds","other_kinds","shared"] λ_=> ?_
 kd_all
theorem z11 {j:Nat}(hj:2<=j)(_:qP Z "common_kind" 2 j c_5):qP Z "common_many" 2 (j+1) (oP 5 (gX c_5)):=by
 refine okP tx.C_1m ["one","other","low","high","part"] λ_=> ?_
 kd_all
theorem ok_x (_:qP Z "need_kind" 1 25 c_o)(_:qP Z "common_kind" 2 22 c_5):qP Z "both" 2 26 (oP 2 (b_x c_o c_5)):=by
 refine okP tx.C_x ["one","other"] λ_=> ?_
 kd_all
theorem z12 (_:qP Z "all_worths" 1 41 c_r)(_:qP Z "need_rule" 1 12 c_s)(_:qP Z "is_kept" 2 18 c_c):qP Z "keepers" 2 42 (oP 2 (gY c_r c_s c_c)):=by
 refine okP tx.C_13 ["kind","rule"] λ_=> ?_
 kd_all
theorem ok_0 {f:Addr}{fd:FuncData}(C:Fn Z.K Z.mg "law" (top 74) ["_law_script"] f fd)(_:qP Z "_law_all" 1 9 c_6)(_:qP Z "_law_small" 3 18 c_10)(_:qP Z "both" 2 26 c_x)(_:qP Z "_law_rule" 3 10 c_l)(_:qP Z "_law_keeps" 2 16 c_a)(_:qP Z "keepers" 2 42 c_13)(_:qP Z "weight" 2 28 c_1)(_:qT Z "least_breaking" 2 42 c_n Pt (qlT "least_breaking")):Wj Z.P Z.w Z.K Z.mg Z.base (CX1 Z.P Z.w) 43 f fd ["_law_script"] (Y8 Z.cl 1 (oP 15 (b_0 c_6 c_10 c_x c_l c_a c_13 c_1 c_n)) Pt (qlT "least_breaking")):=by
 refine okLT C ["_law_script","_law_kind_here","_law_one","_law_other","_law_every","_law_mine","_law_yours","_law_whole","_law_some","_law_weights","_law_plain","_law_none","_law_small_here","_law_less","_law_off"] ?_;intro cdv A outer s H E Y hT hy hE hr nd hp
 repeat' gp_on
end
section
variable {Z:Zz}{Pt:Addr}(tx:Tx Z.K Z.mg)
include tx
theorem J8:qP Z "weight_within" 2 21 (f_7 20):=by
 have O_e:qP Z "words_of_pick" 1 1 f_e:=ok_e tx;have O_u:qP Z "nearest_to_nought" 1 1 f_u:=ok_u tx;have R_7:∀n:Nat,qP Z "weight_within" 2 (1+n) (S_7 n 0)/\qP Z "weight_of_parts" 2 (1+n) (S_7 n 1):=by
  intro n
  induction n with
  | zero=>exact⟨okB tx.C_7,okB tx.C_y⟩
  | succ n ih=>exact⟨ok_7 tx (aw _ _) O_e O_u ih.2,ok_y tx (aw _ _) ih.1⟩
 have O_7:qP Z "weight_within" 2 21 (f_7 20):=(R_7 20).1;have O_y:qP Z "weight_of_parts" 2 21 (f_y 20):=(R_7 20).2;exact O_7
theorem gf (tp:FT Z.K Z.mg "least_breaking" (top 49) ["kind","rule"] Pt)(hBT:Z.base.BuiltinsAt Z.mg Pt){f:Addr}{fd:FuncData}(C:Fn Z.K Z.mg "law" (top 74) ["_law_script"] f fd):Wj Z.P Z.w Z.K Z.mg Z.base (CX1 Z.P Z.w) 43 f fd ["_law_script"] (Y8 Z.cl 1 f_0 Pt (qlT "least_breaking")):=by
 have U_weight_within:∀b,Z.K.In b->qP { Z with base:=b } "weight_within" 2 21 (f_7 20):=λb _=>J8 (Z:={ Z with base:=b }) tx;have O_1g:qP Z "_law_cell" 2 1 Ke:=z0G tx;have O_4:qP Z "_law_pick" 3 2 f_4:=ok_4 tx O_1g;have O_12:qP Z "_law_word_of" 2 3 X9:=z0H tx O_4;have O_14:qP Z "_law_leaf_kind" 2 4 Kf:=z0I tx O_4 O_12;have R_j:∀n:Nat,qP Z "_law_kind" 3 (4+n) (S_j n 0):=by
  intro n
  induction n with
  | zero=>exact okB tx.C_j
  | succ n ih=>exact ok_j tx (aw _ _) O_4 O_14 ih
 have O_j:qP Z "_law_kind" 3 12 (f_j 8):=(R_j 8);have O_g:qP Z "_law_rows_of" 1 1 f_g:=ok_g tx;have R_6:∀n:Nat,qP Z "_law_all" 1 (1+n) (S_6 n 0):=by
  intro n
  induction n with
  | zero=>exact okB tx.C_6
  | succ n ih=>exact ok_6 tx (aw _ _) ih O_g
 have O_6:qP Z "_law_all" 1 9 (f_6 8):=(R_6 8);have R_f:∀n:Nat,qP Z "_law_size" 1 (9+n) (S_f n 0):=by
  intro n
  induction n with
  | zero=>exact okB tx.C_f
  | succ n ih=>exact ok_f tx (aw _ _) O_6 ih
 have O_f:qP Z "_law_size" 1 17 (f_f 8):=(R_f 8);have O_10:qP Z "_law_small" 3 18 Xa:=z0J tx O_j O_f;have R_l:∀n:Nat,qP Z "_law_rule" 3 (2+n) (S_l n 0):=by
  intro n
  induction n with
  | zero=>exact okB tx.C_l
  | succ n ih=>exact ok_l tx (aw _ _) O_4 ih
 have O_l:qP Z "_law_rule" 3 10 (f_l 8):=(R_l 8);have O_b:qP Z "is_whole" 1 1 f_b:=ok_b tx;have O_1a:qP Z "is_bound" 1 2 gA:=z0K tx O_b;have O_t:qP Z "is_word" 1 1 f_t:=ok_t tx;have R_p:∀n:Nat,qP Z "is_rule_within" 2 (2+n) (S_p n 0):=by
  intro n
  induction n with
  | zero=>exact okB tx.C_p
  | succ n ih=>exact ok_p tx (aw _ _) O_t ih O_1a
 have O_p:qP Z "is_rule_within" 2 10 (f_p 8):=(R_p 8);have O_d:qP Z "is_rule" 1 11 f_d:=ok_d tx O_p;have O_s:qP Z "need_rule" 1 12 f_s:=ok_s tx O_d;have O_1i:qP Z "is_span" 4 2 gB:=z0L tx O_b;have O_i:qP Z "is_tuple_of" 3 1 f_i:=ok_i tx;have O_11:qP Z "is_choice" 1 2 xu:=z0M tx O_b O_i O_t;have O_17:qP Z "are_choices" 1 3 Kg:=z0N tx O_i O_11;have R_9:∀n:Nat,qP Z "is_kind_within" 2 (3+n) (S_9 n 0)/\qP Z "are_kinds_within" 2 (3+n) (S_9 n 1):=by
  intro n
  induction n with
  | zero=>exact⟨okB tx.C_9,okB tx.C_1l⟩
  | succ n ih=>exact⟨ok_9 tx (aw _ _) O_1i ih.1 O_17 ih.2,z0O tx (aw _ _) O_i ih.1⟩
 have O_9:qP Z "is_kind_within" 2 23 (f_9 20):=(R_9 20).1;have O_1l:qP Z "are_kinds_within" 2 23 (f_1l 20):=(R_9 20).2;have O_3:qP Z "is_kind" 1 24 f_3:=ok_3 tx O_9;have O_o:qP Z "need_kind" 1 25 f_o:=ok_o tx O_3;have R_2:∀n:Nat,qP Z "count_of" 1 (0+n) (S_2 n 0)/\qP Z "count_of_parts" 1 (0+n) (S_2 n 1)/\qP Z "count_shorter" 2 (0+n) (S_2 n 2):=by
  intro n
  induction n with
  | zero=>exact⟨okB tx.C_2,okB tx.C_v,okB tx.C_q⟩
  | succ n ih=>exact⟨ok_2 tx (aw _ _) ih.2.1 ih.2.2,ok_v tx (aw _ _) ih.1,ok_q tx (aw _ _) ih.2.1⟩
 have O_2:qP Z "count_of" 1 20 (f_2 20):=(R_2 20).1;have O_v:qP Z "count_of_parts" 1 20 (f_v 20):=(R_2 20).2.1;have O_q:qP Z "count_shorter" 2 20 (f_q 20):=(R_2 20).2.2;have O_e:qP Z "words_of_pick" 1 1 f_e:=ok_e tx;have R_8:∀n:Nat,qP Z "worth_at" 2 (20+n) (S_8 n 0)/\qP Z "many_at" 2 (20+n) (S_8 n 1)/\qP Z "parts_at" 2 (20+n) (S_8 n 2):=by
  intro n
  induction n with
  | zero=>exact⟨okB tx.C_8,okB tx.C_1j,okB tx.C_w⟩
  | succ n ih=>exact⟨ok_8 tx (aw _ _) O_e ih.2.1 ih.2.2,z0P tx (aw _ _) O_q ih.2.2,ok_w tx (aw _ _) O_2 ih.1⟩
 have O_8:qP Z "worth_at" 2 40 (f_8 20):=(R_8 20).1;have O_1j:qP Z "many_at" 2 40 (f_1j 20):=(R_8 20).2.1;have O_w:qP Z "parts_at" 2 40 (f_w 20):=(R_8 20).2.2;have O_r:qP Z "all_worths" 1 41 f_r:=ok_r tx O_o O_2 O_8;have R_k:∀n:Nat,qP Z "leaves_of" 1 (0+n) (S_k n 0):=by
  intro n
  induction n with
  | zero=>exact okB tx.C_k
  | succ n ih=>exact ok_k tx (aw _ _) ih
 have O_k:qP Z "leaves_of" 1 8 (f_k 8):=(R_k 8);have O_19:qP Z "numbers_in" 1 9 gH:=z0Q tx O_b O_k;have O_1h:qP Z "parts_of" 1 1 gJ:=z0R tx;have O_1b:qP Z "are_rising" 1 1 gL:=z0S tx;have O_1c:qP Z "are_unlike" 1 1 gN:=z0T tx;have O_15:qP Z "is_single_kept" 2 10 Kh:=z0U tx O_1h O_k O_19 O_1b O_1c;have R_c:∀n:Nat,qP Z "is_kept" 2 (10+n) (S_c n 0):=by
  intro n
  induction n with
  | zero=>exact okB tx.C_c
  | succ n ih=>exact ok_c tx (aw _ _) ih O_15
 have O_c:qP Z "is_kept" 2 18 (f_c 8):=(R_c 8);have O_u:qP Z "nearest_to_nought" 1 1 f_u:=ok_u tx;have R_7:∀n:Nat,qP Z "weight_within" 2 (1+n) (S_7 n 0)/\qP Z "weight_of_parts" 2 (1+n) (S_7 n 1):=by
  intro n
  induction n with
  | zero=>exact⟨okB tx.C_7,okB tx.C_y⟩
  | succ n ih=>exact⟨ok_7 tx (aw _ _) O_e O_u ih.2,ok_y tx (aw _ _) ih.1⟩
 have O_7:qP Z "weight_within" 2 21 (f_7 20):=(R_7 20).1;have O_y:qP Z "weight_of_parts" 2 21 (f_y 20):=(R_7 20).2;have O_n:qT Z "least_breaking" 2 42 f_n Pt (qlT "least_breaking"):=ok_n tx tp hBT O_r O_s O_c U_weight_within;have R_h:∀n:Nat,qP Z "has_worth" 2 (1+n) (S_h n 0)/\qP Z "have_parts" 2 (1+n) (S_h n 1):=by
  intro n
  induction n with
  | zero=>exact⟨okB tx.C_h,okB tx.C_1f⟩
  | succ n ih=>exact⟨ok_h tx (aw _ _) O_b O_i O_e ih.2,z0V tx (aw _ _) ih.1⟩
 have O_h:qP Z "has_worth" 2 21 (f_h 20):=(R_h 20).1;have O_1f:qP Z "have_parts" 2 21 (f_1f 20):=(R_h 20).2;have O_1e:qP Z "is_worth" 2 26 gQ:=z0W tx O_o O_h;have O_1d:qP Z "need_worth" 2 27 gS:=z0X tx O_1e;have O_1:qP Z "weight" 2 28 f_1:=ok_1 tx O_1d O_7;have R_m:∀n:Nat,qP Z "_law_leaves" 1 (0+n) (S_m n 0):=by
  intro n
  induction n with
  | zero=>exact okB tx.C_m
  | succ n ih=>exact ok_m tx (aw _ _) ih
 have O_m:qP Z "_law_leaves" 1 8 (f_m 8):=(R_m 8);have R_a:∀n:Nat,qP Z "_law_keeps" 2 (8+n) (S_a n 0):=by
  intro n
  induction n with
  | zero=>exact okB tx.C_a
  | succ n ih=>exact ok_a tx (aw _ _) O_m ih
 have O_a:qP Z "_law_keeps" 2 16 (f_a 8):=(R_a 8);have O_z:qP Z "kinds_of_parts" 2 1 f_z:=ok_z tx;have O_16:qP Z "common_whole" 2 1 Kj:=z0Y tx;have O_18:qP Z "common_pick" 2 2 Kk:=z0Z tx O_e;have R_5:∀n:Nat,qP Z "common_kind" 2 (2+n) (S_5 n 0)/\qP Z "common_row" 2 (2+n) (S_5 n 1)/\qP Z "common_many" 2 (2+n) (S_5 n 2):=by
  intro n
  induction n with
  | zero=>exact⟨okB tx.C_5,okB tx.C_1k,okB tx.C_1m⟩
  | succ n ih=>exact⟨ok_5 tx (aw _ _) O_z ih.2.1 O_16 O_18 ih.2.2,z10 tx (aw _ _) ih.1,z11 tx (aw _ _) ih.1⟩
 have O_5:qP Z "common_kind" 2 22 (f_5 20):=(R_5 20).1;have O_1k:qP Z "common_row" 2 22 (f_1k 20):=(R_5 20).2.1;have O_1m:qP Z "common_many" 2 22 (f_1m 20):=(R_5 20).2.2;have O_x:qP Z "both" 2 26 f_x:=ok_x tx O_o O_5;have O_13:qP Z "keepers" 2 42 Xc:=z12 tx O_r O_s O_c;exact ok_0 tx C O_6 O_10 O_x O_l O_a O_13 O_1 O_n
end
theorem lz1 {fd:FuncData}{p0:Str}(us:List Value)(hl:us.length=1)(h:∀a0,bindArgs fd ⟨[a0],[]⟩=pure ([p0].zip [a0])):bindArgs fd ⟨us,[]⟩=pure ([p0].zip us):=match us,hl with | [a0],_=>h a0
theorem lz2 {fd:FuncData}{p0 p1:Str}(us:List Value)(hl:us.length=2)(h:∀a0 a1,bindArgs fd ⟨[a0,a1],[]⟩=pure ([p0,p1].zip [a0,a1])):bindArgs fd ⟨us,[]⟩=pure ([p0,p1].zip us):=match us,hl with | [a0,a1],_=>h a0 a1
theorem lz3 {fd:FuncData}{p0 p1 p2:Str}(us:List Value)(hl:us.length=3)(h:∀a0 a1 a2,bindArgs fd ⟨[a0,a1,a2],[]⟩=pure ([p0,p1,p2].zip [a0,a1,a2])):bindArgs fd ⟨us,[]⟩=pure ([p0,p1,p2].zip us):=match us,hl with | [a0,a1,a2],_=>h a0 a1 a2
theorem lz4 {fd:FuncData}{p0 p1 p2 p3:Str}(us:List Value)(hl:us.length=4)(h:∀a0 a1 a2 a3,bindArgs fd ⟨[a0,a1,a2,a3],[]⟩=pure ([p0,p1,p2,p3].zip [a0,a1,a2,a3])):bindArgs fd ⟨us,[]⟩=pure ([p0,p1,p2,p3].zip us):=match us,hl with | [a0,a1,a2,a3],_=>h a0 a1 a2 a3
theorem fn1 {K:ae}{h:Heap}{mg:Str->Option Value}{f:Addr}{od an:Option Addr}{sl:Array (Option Value)}{oc kV dc pm cd ct:Value}{x:Str}{st:Stmt}{ps:List Str}(X:K.In h)(G:h.Ns mainGlobals mg)(e:PySem.W.nsIn K mainGlobals x=some (some (.ref f)))(l:K.lookup f=some ⟨oc,od,.func (bO x x (ZW st) (Z1 st) (zk st) .none kV dc pm an cd ct),sl⟩)(g:dI K cd x=true)(k:cK K (.ref f)=true)
  (hb:∀F:Fun K x x st f (bO x x (ZW st) (Z1 st) (zk st) .none kV dc pm an cd ct),L2.Binds K (bO x x (ZW st) (Z1 st) (zk st) .none kV dc pm an cd ct) ps []):Fn K mg x st ps f (bO x x (ZW st) (Z1 st) (zk st) .none kV dc pm an cd ct):=
 have F:=XS (st:=st) l g k
 ⟨F,hb F,PySem.W.mg_of X G e⟩
theorem zs_of {K:ae}{h:Heap}{mg:Str->Option Value}{zs:List Str}(X:K.In h)(G:h.Ns mainGlobals mg)(hz:(zs.all λx=>PySem.W.nsIn K mainGlobals x == some none)=true):∀x,zs.contains x=true->mg x=none:=λx hx=>PySem.W.mg_none_of X G (beq_iff_eq.mp (aG.mp hz x (List.contains_iff_mem.mp hx)))
noncomputable abbrev Tx' {K:ae}{h:Heap}(_:K.In h)(mg:Str->Option Value):Prop:=Tx K mg
noncomputable def qH (K:ae):Bool:=K.all λp=> !(p.2.cls == Value.type "list")
theorem X2 {K:ae}(h:qH K=true){a:Addr}{o:Obj}(e:K.lookup a=some o)(c:o.cls=Value.type "list"):False:=by
 have hm:(a,o)∈K:=by
  clear h
  induction K with
  | nil=>cases e
  | cons p r ih=>
   obtain⟨b,u⟩:=p
   by_cases hb:a=b
   ·subst hb;have e' :some u=some o:=by simpa[aP] using e
    cases e';exact aa
   ·have e' :r.lookup a=some o:=by rw[aP,(beq_eq_false_iff_ne.mpr hb)]at e;exact e
    exact a8 _ (ih e')
 have:=aG.mp h _ hm;rw[c]at this;simp at this
noncomputable def tabO (o:Obj):Option Addr:=match o.data with
 | .fields vs=>(match (vs[11]? :Option Value) with | some (.ref P)=>some P | _=>none)
 | _=>none
structure z13 (K:ae) (c P:Addr) (o:Obj):Prop where
 t:K.lookup c=some o
 u:tabO o=some P
 h:dC K c P=true
 n:K.lookup P=none
noncomputable abbrev TP {K:ae}{h:Heap}(_:K.In h)(mg:Str->Option Value):Prop:=∃f fd c Pt o,Fn K mg "least_breaking" (top 49) ["kind","rule"] f fd/\fd.code= .ref c/\z13 K c Pt o/\h.get? Pt=some (du #[])
theorem fin_ {l:PySem.W.OpenLaw}{w:World}{K:ae}{h:Heap}{mg:Str->Option Value}{fa:Addr}(X:K.In h)(G:h.Ns mainGlobals mg)(hfa:mg "law"=some (.ref fa))(tx:Tx K mg)(tp:TP X mg):∃(fd:FuncData) (c Pt:Addr),(∀(s:Shared) (v:Value),BindsTo s fd ⟨[v],[]⟩ [("_law_script",v)])/\h.get? Pt=some (du #[])/\K.lookup Pt=none/\dC K c Pt=true/\∀base:Heap,K.In base->base.BuiltinsAt mg Pt->Wj l.prog w K mg base (CX1 l.prog w) 43 fa fd ["_law_script"] (Y8 (λ_=> .none) 1 f_0 Pt (qlT "least_breaking")):=by
 obtain⟨f,fd,C⟩:=tx.C_0;have e:=hfa.symm.trans C.m;cases e;obtain⟨oc,od,kV,doc,pm,an,cdv,ct,osl,rfl,lk,hcd⟩:=C.F.ex;obtain⟨f2,fd2,c,Pt,o,C2,ec,tk,hm⟩:=tp;exact⟨_,c,Pt,λs v=> .of_eq rfl,hm,tk.n,tk.h,λbase KB hBT=>gf (Z:=⟨l.prog,w,K,mg,base,(λ_=> .none)⟩) tx ⟨f2,fd2,c,C2,ec,tk.h⟩ hBT C⟩
theorem gh {cl:Nat->Value}{H:Hp}{a Pt:Addr}{o:Obj}{q:Str}{ns:List Int}(hL:f_0 [.fz (ns.map T.int)]= .ok (.bl true))(h:H a=some (.frz o (.lst (ns.map V.int))))(h2:H Pt=some (.tbl #[] q)):Y8 cl 1 f_0 Pt q [.ref a] H (λv _=>v= .bl true) λ_ _ _=>False:=by
 have scrR:∀ns:List Int,zD H (ns.map V.int) (ns.map T.int):=λns=>by
  induction ns with
  | nil=>exact .nil
  | cons n r ih=>exact .cons (.int n) ih
 refine⟨h2,H,[.fz (ns.map T.int)],rfl,zm.refl H,.cons (.fz h (scrR ns)) .nil, ?_⟩;rw[hL];intro v H' _ r;cases r;rfl
theorem walk {l:PySem.W.OpenLaw}{q:Program}{loose:List Str}{XP:(Str->Option Value)->Heap->Prop}{YP:World->Heap->Prop}{d:DefRec}{K:Params->ae}{ts:List Addr}(hn:l.most=some 63)(hdf:d.params.defaults=[])
  (hL:∀ns:List Int,ns.length<=63->f_0 [.fz (ns.map T.int)]= .ok (.bl true)) (hK:∀p,qH (K p)=true)
  (hY:∀(w:World) (h:Heap),YP w h->(K w.params).In h/\∀P∈ts,h.get? P=some (du #[]))
  (F:∀(w:World) (mg:Str->Option Value) (fa:Addr) (h:Heap),(K w.params).In h->h.Ns mainGlobals mg->mg d.name=some (.ref fa)->(∀P∈ts,h.get? P=some (du #[]))->
   ∃(fd:FuncData) (c Pt:Addr),(∀(s:Shared) (u:Value),BindsTo s fd ⟨[u],[]⟩ [("_law_script",u)])/\h.get? Pt=some (du #[])/\(K w.params).lookup Pt=none/\dC (K w.params) c Pt=true/\∀base:Heap,(K w.params).In base->base.BuiltinsAt mg Pt->Wj l.prog w (K w.params) mg base (CX1 l.prog w) 43 fa fd ["_law_script"] (Y8 (λ_=> .none) 1 f_0 Pt (qlT "least_breaking"))):
  PySem.W.WalkO q loose XP YP l.row.toRowW d [] (λf vs=>ip f vs):=
 L2.walk_ofT (n:=63) (k:=43) (x:="_law_script") (nm:=(qlT "least_breaking")) (CX:=λw=>(CX1 l.prog w)) (sp:=λw Pt=>Y8 (λ_=> .none) 1 f_0 Pt (qlT "least_breaking")) hn (by decide) hdf ⟨rfl,by decide,by decide,rfl⟩ hY (λw a o e c=>X2 (hK w.params) e c) F (λw H a Pt o ns hl h1 h2=>gh (hL ns hl) h1 h2) λ_ _ _ _ _ ⟨_,_,_,_,_,_,_,z⟩=>z
end G
namespace PySem.W.Fast
noncomputable def tw12281000562174555128:=0
noncomputable def tw8008436809876705537:=0
noncomputable def tw3342079287199274713:=0
noncomputable def tw12825987096323372615:=0
noncomputable def tw16772554956273635964:=0
noncomputable def tw952475271004609904:=0
noncomputable def tw13138839133331751518:=0
noncomputable def tw15211858270253944292:=0
noncomputable def tw11569756115546690264:=0
noncomputable def tw15009235622664523183:=0
noncomputable def tw10472878836770530068:=0
noncomputable def tw11448014026314477787:=0
noncomputable def tw941138614794479102:=0
noncomputable def tw4872992485137420074:=0
noncomputable def tw14680456565812523884:=0
noncomputable def tw9566556999901409957:=0
noncomputable def tw17255554613441111481:=0
noncomputable def tw15714800762034966066:=0
noncomputable def tw2436909426962075364:=0
noncomputable def tw9052880658018633107:=0
noncomputable def tw16527350976672389267:=0
noncomputable def tw15404438637050069267:=0
noncomputable def tw10179137671767442849:=0
noncomputable def tw17745998820539942537:=0
noncomputable def tw14822572735254168212:=0
noncomputable def tw4165800097295332331:=0
noncomputable def tw373518406558011258:=0
noncomputable def tw16652143735861038941:=0
noncomputable def tw1522885774047729767:=0
noncomputable def tw18088767584878106739:=0
noncomputable def tw2709955159417834407:=0
noncomputable def tw11915262844374414300:=0
noncomputable def tw5434110118131528146:=0
noncomputable def tw17062632412433164293:=0
noncomputable def tw12009525860192563680:=0
noncomputable def tw6036587885290999476:=0
noncomputable def tw5259423718696960675:=0
noncomputable def tw591748228859996282:=0
noncomputable def tw9573114927304641368:=0
noncomputable def tw5669287192699802722:=0
noncomputable def tw11755784027647455265:=0
noncomputable def tw6909514105822064144:=0
noncomputable def tw2786479214358316184:=0
noncomputable def tw17313056892485031948:=0
noncomputable def tw17810947491619021234:=0
noncomputable def tw16468189335788288394:=0
noncomputable def tw11198621920605064094:=0
noncomputable def tw7223153317410791746:=0
noncomputable def tw9897562987642658904:=0
noncomputable def tw4279097714112085211:=0
noncomputable def tw11275540091478056005:=0
noncomputable def tw16569742286486308531:=0
noncomputable def tw3737240149018603477:=0
noncomputable def tw7429504445566519886:=0
noncomputable def tw426779839109254243:=0
noncomputable def tw17286754089952065476:=0
noncomputable def tw11871267214122989716:=0
noncomputable def tw11117092164731332414:=0
noncomputable def tw15313202656873580660:=0
noncomputable def tw3115891958056746007:=0
noncomputable def tw6660229178250370113:=0
noncomputable def tw18339418742655357577:=0
noncomputable def tw15768413956178131723:=0
noncomputable def tw17057953069432304876:=0
noncomputable def tw2515791925103962860:=0
noncomputable def tw13483829307948079906:=0
noncomputable def tw8233495933097682732:=0
noncomputable def tw15356669695758453796:=0
noncomputable def tw16858408587543971196:=0
noncomputable def tw3428954394852063791:=0
noncomputable def tw4000096978679022537:=0
noncomputable def tw1154496382946285530:=0
noncomputable def tw2209229241815415518:=0
noncomputable def tw1049752806565152592:=0
noncomputable def tw7156300784813987219:=0
noncomputable def tw5359504785584272789:=0
noncomputable def tw9675956516817959057:=0
noncomputable def tw4190710480559037816:=0
noncomputable def tw17367736895642552983:=0
noncomputable def tw2635491107543727149:=0
noncomputable def tw15419241620798521125:=0
noncomputable def tw7562491341877435954:=0
noncomputable def tw7345395018289980982:=0
noncomputable def tw1559668687400942663:=0
noncomputable def tw16731885315810326852:=0
noncomputable def tw10286301895922257724:=0
noncomputable def tw879714618028946829:=0
noncomputable def tw4566766622252313493:=0
noncomputable def tw12230651454289521810:=0
noncomputable def tw14625756959561246068:=0
noncomputable def tw17943009011753207512:=0
noncomputable def tw17234444881715767557:=0
noncomputable def tw7536629702561531852:=0
noncomputable def tw15524146340221003607:=0
noncomputable def tw9427820098054650333:=0
noncomputable def tw11216857590737509575:=0
noncomputable def tw9717777429218309404:=0
noncomputable def tw11787360990554853873:=0
noncomputable def tw14898479593933416727:=0
noncomputable def tw9623087840445407922:=0
noncomputable def tw10768592443445998380:=0
noncomputable def tw14415447505662694742:=0
noncomputable def tw14643611004700005009:=0
noncomputable def tw2108113389344901441:=0
noncomputable def tw17628285081403680108:=0
noncomputable def tw4122113171378708692:=0
noncomputable def tw1516314002573449181:=0
noncomputable def tw2855883321774516088:=0
noncomputable def tw8538308443110625851:=0
noncomputable def tw9696393019512245102:=0
noncomputable def tw8928548205030094792:=0
noncomputable def tw1010898718836058968:=0
noncomputable def tw11048788151381624071:=0
noncomputable def tw3705771234902122869:=0
noncomputable def tw16653816243282003698:=0
noncomputable def tw13650084217772840254:=0
noncomputable def tw5226501382507260365:=0
noncomputable def tw8944266204959209084:=0
noncomputable def tw926331800407796425:=0
noncomputable def tw18036266112828760449:=0
noncomputable def tw11017765838765158924:=0
noncomputable def tw14081997613942521881:=0
noncomputable def tw5554142587749659210:=0
noncomputable def tw5542530227729499122:=0
noncomputable def tw7374357207231407673:=0
noncomputable def tw14679642606285636623:=0
noncomputable def tw25418672783517463:=0
noncomputable def tw8252857781282035412:=0
noncomputable def tw6877639236379363054:=0
noncomputable def tw5960118762253382614:=0
noncomputable def tw9524049101597128925:=0
noncomputable def tw163185119174736802:=0
noncomputable def tw8628603280860256954:=0
noncomputable def tw9231540036873066952:=0
noncomputable def tw10372602747833659293:=0
noncomputable def tw13488751332471510148:=0
noncomputable def tw5493026398389701137:=0
noncomputable def tw5907895512137794444:=0
noncomputable def tw15934792707331075929:=0
noncomputable def tw4155939497085982765:=0
noncomputable def tw11070501470754894843:=0
noncomputable def tw12565283803484072313:=0
noncomputable def tw1992339019207410415:=0
end PySem.W.Fast
open PySem PySem.W PyProof.Rows
set_option maxRecDepth 100000 in
set_option maxHeartbeats 0 in
theorem PySem.Challenge.cw_worthkinds_k52_whole_least_by_kinds_holds : PySem.Challenge.rw_worthkinds_k52_whole_least_by_kinds.Holds := by
 w_on; o_law; k_head; (case hw=>w_witness2)
 k_fill
 refine G.walk (l:=PySem.Challenge.rw_worthkinds_k52_whole_least_by_kinds) rfl rfl G.law_ok ?nl (fun w h Y=>⟨PySem.W.km_in_of Y,PySem.W.km_tabs_of Y⟩) ?F
 case nl=>intro p; kernel_rfl
 case F=>
  intro w mg fa h KX G0 hmg hT
  have tx:G.Tx' KX mg:=by
   constructor
   all_goals first
    | (refine' ⟨_,_,G.fn1 KX G0 ?e ?l ?g ?k (fun F=>F.binds fun _ _ _ _ _ _ us hl=>by first | exact G.lz1 us hl fun _=>rfl | exact G.lz2 us hl fun _ _=>rfl | exact G.lz3 us hl fun _ _ _=>rfl | exact G.lz4 us hl fun _ _ _ _=>rfl)⟩; (case e | l | g | k=>k_is))
    | exact ⟨_,PySem.W.mg_of KX G0 (by k_is),_,rfl⟩
    | exact G.zs_of KX G0 (by kernel_rfl)
  have tp:G.TP KX mg:=by
   refine' ⟨_,_,_,_,_,G.fn1 KX G0 ?e ?l ?g ?k (fun F=>F.binds fun _ _ _ _ _ _ us hl=>by first | exact G.lz1 us hl fun _=>rfl | exact G.lz2 us hl fun _ _=>rfl | exact G.lz3 us hl fun _ _ _=>rfl | exact G.lz4 us hl fun _ _ _ _=>rfl),rfl,⟨?t, ?u, ?h, ?n⟩, ?m⟩; (case e | l | g | k | t=>k_is); (case u=>exact rfl); (case h | n=>kernel_rfl); (case m=>exact hT _ (by decide))
  refine' G.fin_ KX G0 hmg tx tp
