import PyProof.Rows.All
import Wide.All
import OpenK.AllK
import Wide.FinOn
import Lean
import PyProof.EqAt
import PyProof.EqKinds
import PyProof.TupleCall
import PyProof.NeKinds
import PyProof.WalksEnum
import PyProof.StrWalks
import PyProof.ExcAttrAll.ValueError
import PyProof.ZipIter
import KE.KRevIter
import PyProof.ListNew
import PyProof.WalksMore
import PyProof.ReprLoop
import PyProof.FactsAll.list
import PyProof.CollectIter
import PyProof.TupleOfGen
import PyProof.Draws
import PyProof.EnumMake
import PyProof.SeqI3
import KE.KMinBuiltin
import PyProof.SetRoads
import PyProof.CollectWalk
import KE.KDictSum
import PyProof.AttrMiss
import PyProof.IsiH_tuple
import KE.KDictOf
import PyProof.FitsBits
import PyProof.SliceList
import PyProof.InstFacts
import PyProof.Rows.StrNews2
import PyProof.StrBlockH
import PyProof.CallStr
import KE.KIntText
import PyProof.Rows.RuleB_pow
import KE.KSortTup
import PyProof.ReprRoads
import KE.KLam
import PyProof.MaxThree
import PyProof.DictRoadsH
import PySem.Challenge.RW_worthkinds_k87_whole_told_lists
open PySem renaming wpAny_bind->a7,wpAny_pure->ax,mem_of_lookup->aZ,wpAny_truthy_bool->b9,wpAny_field->ba,wpAny_newObj_type->be,wpAny_callSpecial?_slot->bn,wpAny_Call_Name_kw->bq,wpAny_setField_rec->br,wpAny_call_entry->bF,wpAny_seqItems->bQ,wpAny_passesOwn->bR,sizeLine_eq->bU,wpAny_holding->bW,wpAny_of_eq->cf,codeAny_mono->cg,codeAny_builtin->cq,wpAny_mono->cW,call_meets->df,Within->eA,seqSlot_of->fV,call->ik
open List renaming mem_cons_of_mem->a8,mem_cons_self->ab,length_map->ae,replicate->af,mem_cons->ah,getElem?_eq_getElem->aj,getElem?_map->ak,getElem?_eq_some_iff->am,length_cons->ar,getElem?_append_right->au,lookup_cons->av,getElem?_set_ne->ay,size_toArray->az,length_append->aA,getElem?_append_left->aB,length_set->aF,map_cons->aI,length_replicate->aJ,length_singleton->aK,getElem?_replicate->aL,not_mem_nil->aM,mem_map->aN,map_replicate->aP,all_eq_true->aQ,getElem?_eq_none->aR,mem_singleton->aT,getElem?_set_self->aU,mem_append_right->aV,append_nil->aW,range->a_,map_map->bb,append_assoc->bf,mem_range->bo,length_range->bx,eq_of_mem_replicate->bz,map_append->bA,reverse_cons->bC,replicate_succ->bE,mem_of_getElem?->bH,flatMap_cons->bK,nil_append->bL,length_nil->bM,getElem?_range->bN,length_reverse->bO,map_congr_left->bX,prefix_refl->bZ,getElem?_cons_succ->c8,mem_flatMap->ce,range_succ_eq_map->ci,all_cons->cu,mem_append_left->cC,reverse_reverse->cF,length_take->cH,map_nil->cI,cons_append->cJ,drop_eq_getElem_cons->cM,filterMap_cons->cN,getElem?_take_of_lt->cO,mem_filter->cT,nodup_cons->cU,of_mem_zip->cV,lookup->cX,ext_getElem?->d6,mem_append->dh,mem_filterMap->dv,foldl->dC,flatten_cons->dI,sum_cons->dP,length_drop->dR,length_eq_zero_iff->dU,drop_length->dW,take_of_length_le->eK,getElem?_reverse->eR,contains_iff_mem->eT,drop_zero->eV,getElem_toArray->eX,mem_iff_getElem->e_,mem_of_mem_take->f8,set_comm->fg,length_zipIdx->fw,map_singleton->fx,all_map->fI,getElem_inj->fO,getElem_mem->fY,any_eq_true->g7,map_reverse->g_,mem_reverse->h9,length->hJ,range'->hU,forIn_cons->i6,range_succ->ia,length_zip->ib
open PySem.W renaming Frag->a9,kitOne->bi,findIn->bp,kia_one->bu,fnOf->bv,keepIn->bG,kia_tup->bS,instObj->cn,emptyDict->cz,codeHdIn->cK,kitx_list->c_,codeIn->d3,kitAny->d8,tabObj->d9,methodCall_KW->db,plainGet->de,plainGet_of->dk,lookIn->dy,callWith_K->dA,hasDictIn->dG,isFn->eC,cellsFrom_some->eG,nsIn->eM,takerIn->eN,kitx_tuple->fk,plainOver->fy,kitx_none->fA,kitx_bool->fB,kitx_dict->fD,handedIn->fP,kitx_int->fQ,kitx_str->fR,makesIn->hZ
open PySem.Heap renaming get?_push_of_some->aa,get?_push_size->ag,lt_size->ao,size_push->bh,SameBut->bT,get?_update_other->eH,get?_update_self->eQ,ExtBut->eW
open Bool renaming and_eq_true->ac,false_ne_true->aH,false_eq_true->aO,not_true->dL,or_eq_false_iff->f7,true_and->fj,eq_iff_iff->ig
open Nat renaming le_refl->ai,le_add_right->aw,le_trans->aC,ne_of_lt->aE,lt_of_lt_of_le->aG,lt_irrefl->aY,zero_le->bg,lt_of_le_of_lt->bB,lt_succ_of_lt->bJ,mul_comm->bP,one_mul->bV,lt_succ_self->bY,le_mul_of_pos_right->cb,mul_assoc->cx,le_of_succ_le->cA,mul_le_mul->cD,ne_of_gt->cG,pow_le_pow_right->dg,add_le_add_left->dm,sub_self->dr,le_succ->dH,mul_pos->dJ,add_sub_cancel_left->d_,le_of_lt->eB,le_of_eq->eF,zero_add->eL,div_add_mod->eO,div_lt_of_lt_mul->f6,not_lt->fu,succ_mul->fG,pow_succ->fM,lt_succ_of_le->fN,succ_ne_self->fX,succ_ne_zero->fZ,add_mul->hW,not_lt_zero->i9,min_eq_left->ie,mod_lt->ip
open Option.some renaming inj->aq
open PySem.Str renaming ofString->aD
open PyProof.Rows renaming callWith_type1->aS,slot_tuple_getitem->bc
open Ne renaming symm->aX
open False renaming elim->bj
open Int renaming toNat_natCast->bw,eq_ofNat_of_zero_le->c9,le_trans->dq,emod_lt_of_pos->fv,natCast_mul->i5,le_antisymm->i7,emod_nonneg->i8
open PySem.F renaming plainAttrs_list->bI,called_set->ck,slot_zip_next->cy,args_tuple_add_2->cP,slot_list_append->cR,type_list_append->cS,entry_tuple_add->cY,slot_tuple_add->d4,slot_tuple_iterator_next->d7,slot_int_rmul->di,slot_tuple_mul->dS,args_zip_next_1->dY,slot_list_index->dZ,entry_zip_next->eJ,called_tuple->eY,args_object_init_2->eZ,args_int_rmul_2->fH,slot_tuple_rmul->fJ,plain_tuple_new->fK,slot_int_index->fT,entry_int_rmul->fU,fills_int_mul->h_
open PySem.AutoSeq1 renaming wpAny_loadPart'->b_
open Array renaming getElem?_eq_none->cj,length_toList->dj,append_assoc->dE,getD->im
open PySem.SeqAt renaming EqAt->cB,RcNeAt->d5,RcAt->eI
open PySem.Builtin.Slice renaming slicePlaces->cL,sliceAdjust->dF
open PySem.Builtin.List renaming listTooLong->cQ,listSameRef->dM
open PySem.Calls renaming Name_function_global->du,spliced_cons->dz,spliced_nil->fF
open PySem.Builtin.Tuple renaming tupleItemsOf->dB,tupleTooMany->dD,tupleExact->dN
open PyProof.Rows.KeyOrd renaming klt_of_klt_of_kle->dO,kle_of_klt->fL
open PySem.Builtin.Range renaming rangeSize->dQ
open PyProof.Rows.F renaming entry_set_update_loop->dX
open PySem.Around renaming frames_deeper->eU
open PySem.Heap.SameBut renaming update->f9
open Option renaming some_ne_none->ff,getD_none->fS,map->io
open PySem.SeqAt.EqAt renaming of_refs->fo,same->i4
open PySem.Obj renaming data_mapFields->fq,mapSeq->ij
open PySem.Code renaming isFrame->fE
open PySem.WalksT renaming enumerate->fW
open Classical renaming skolem->f_
open PySem.Shared renaming heap->hV
open PySem.PassesOwn renaming never->ii
open PySem.Walks renaming list->il
noncomputable section
set_option maxHeartbeats 4000000
set_option Elab.async false
set_option linter.all false
set_option compiler.extract_closed false
set_option maxRecDepth 100000
namespace L2
open PySem PySem.Spec PyProof.Rows
noncomputable abbrev Key:=Sum Int Str
def XO:Key->Value->Bool
 | .inl k,v=>Value.isInt k v
 | .inr x,v=>Value.isStrOf x v
def keyH (w:World):Key->Int
 | .inl k=>hashInt k
 | .inr x=>hashStr w x
theorem zY:∀{k:Key} {v:Value},XO k v=true->(∃i t,k=Sum.inl i/\v=Value.int i t)\/(∃x t,k=Sum.inr x/\v=Value.str x t)
 | .inl i,v,h=>by
  obtain⟨t,e⟩:=Value.isInt_shape h;exact .inl ⟨i,t,rfl,e⟩
 | .inr x,v,h=>by
  obtain⟨t,e⟩:=Value.isStrOf_shape h;exact .inr ⟨x,t,rfl,e⟩
theorem XQ (a b:Int):decide ((Sum.inl a:Key)=Sum.inl b)=(a == b):=by
 by_cases e:a=b
 ·subst e;simp
 ·have h:¬ (Sum.inl a:Key)=Sum.inl b:=λq=>e (Sum.inl.inj q);rw[decide_eq_false h];exact(beq_eq_false_iff_ne.mpr e).symm
theorem XR (a b:Str):decide ((Sum.inr a:Key)=Sum.inr b)=decide (a=b):=by
 by_cases e:a=b
 ·simp
 ·have h:¬ (Sum.inr a:Key)=Sum.inr b:=λq=>e (Sum.inr.inj q);rw[decide_eq_false h,decide_eq_false e]
theorem XS (a:Int)(b:Str):decide ((Sum.inl a:Key)=Sum.inr b)=false:=decide_eq_false (λq=>nomatch q)
theorem XT (a:Str)(b:Int):decide ((Sum.inr a:Key)=Sum.inl b)=false:=decide_eq_false (λq=>nomatch q)
def yk (prog:Program)(w:World):PySem.KeyKind prog w Key where
 is:=XO
 hash:=keyH w
 inj:=λv a b ha hb=>by
  rcases zY ha with ⟨i,t,rfl,rfl⟩ | ⟨x,t,rfl,rfl⟩
  ·rcases zY hb with ⟨j,u,rfl,e⟩ | ⟨y,u,rfl,e⟩
   ·injection e with e1 _;rw[e1]
   ·exact nomatch e
  ·rcases zY hb with ⟨j,u,rfl,e⟩ | ⟨y,u,rfl,e⟩
   ·exact nomatch e
   ·injection e with e1 _;rw[e1]
 byValue:=λk v h=>by
  rcases zY h with ⟨i,t,rfl,rfl⟩ | ⟨x,t,rfl,rfl⟩ <;> rfl
 pyHash:=λhv h=>by
  rcases zY hv with ⟨i,t,rfl,rfl⟩ | ⟨x,t,rfl,rfl⟩
  ·exact wpAny_pyHash_int h
  ·exact wpAny_pyHash_str h
 eqBool:=λhu hv h=>by
  rcases zY hu with ⟨i,t,rfl,rfl⟩ | ⟨x,t,rfl,rfl⟩
  ·rcases zY hv with ⟨j,u,rfl,rfl⟩ | ⟨y,u,rfl,rfl⟩
   ·rw[XQ]at h;exact wpAny_eqBool_int h
   ·rw[XS]at h;exact cB.int_str i t y u _ _ _ _ h
  ·rcases zY hv with ⟨j,u,rfl,rfl⟩ | ⟨y,u,rfl,rfl⟩
   ·rw[XT]at h;exact cB.str_int x t j u _ _ _ _ h
   ·rw[XR]at h;exact wpAny_eqBool_str h
 «strs»:=λk x t v h=>by
  rcases zY h with ⟨i,u,rfl,e⟩ | ⟨y,u,rfl,e⟩
  ·exact nomatch e
  ·injection e with e1 _;subst e1;cases v <;> rfl
end L2
namespace L2
open PySem PySem.Spec PyProof.Rows
inductive V where
 | non | bl (b:Bool) | int (i:Int) | str (x:Str) | byt (b:Array UInt8) | flt (b:UInt64) | ref (a:Addr) | ty (n:String)
 deriving DecidableEq
noncomputable def Za:V->Value->Prop
 | .non,u=>u=Value.none
 | .bl b,u=>u=Value.bool b
 | .int i,u=>∃t,u=Value.int i t
 | .str x,u=>∃t,u=Value.str x t
 | .byt b,u=>∃t,u=Value.bytes b t
 | .flt b,u=>∃t,u=Value.float b t
 | .ref a,u=>u=Value.ref a
 | .ty n,u=>u=Value.type n
abbrev zR:List V->List Value->Prop:=Paired Za
theorem zR.length (r:zR xs us):xs.length=us.length:=Paired.length r
theorem zR.get:∀{xs:List V} {us:List Value} {i:Nat} {x:V},zR xs us->xs[i]? =some x->∃u,us[i]? =some u/\Za x u
 | _,_,_,_,.nil,e=>by simp at e
 | _,_,0,_,.cons r _,e=>by simp at e;subst e;exact⟨_,rfl,r⟩
 | _,_,i+1,x,.cons _ t,e=>by
  obtain⟨u,h1,h2⟩:=zR.get t (by simpa using e)
  exact⟨u,by simpa using h1,h2⟩
theorem zR.set {x:V}{u:Value}(r:Za x u):∀{xs:List V} {us:List Value} (i:Nat),zR xs us->zR (xs.set i x) (us.set i u)
 | _,_,_,.nil=> .nil
 | _,_,0,.cons _ t=> .cons r t
 | _,_,i+1,.cons q t=> .cons q (zR.set r i t)
theorem zR.append:∀{xs ys:List V} {us ws:List Value},zR xs us->zR ys ws->zR (xs++ys) (us++ws)
 | _,_,_,_,.nil,s=>s
 | _,_,_,_,.cons r t,s=> .cons r (zR.append t s)
theorem zR.take:∀{xs:List V} {us:List Value} (n:Nat),zR xs us->zR (xs.take n) (us.take n)
 | _,_,0,_=> .nil
 | _,_,_+1,.nil=> .nil
 | _,_,n+1,.cons r t=> .cons r (zR.take n t)
theorem zR.drop:∀{xs:List V} {us:List Value} (n:Nat),zR xs us->zR (xs.drop n) (us.drop n)
 | _,_,0,r=>r
 | _,_,_+1,.nil=> .nil
 | _,_,n+1,.cons _ t=>zR.drop n t
def Qc:Option V->Option Value->Prop
 | some v,some u=>Za v u
 | none,none=>True
 | _,_=>False
def KV {κ:Type}:List (κ×V)->List (κ×Value)->Prop:=Paired λ(p:κ×V) (q:κ×Value)=>p.1=q.1/\Za p.2 q.2
def kV:Key->V
 | .inl i=> .int i
 | .inr x=> .str x
inductive HO where
 | lst (xs:List V)
 | tup (xs:List V)
 | dK (kvs:List (Key×V)) | dT (kvs:List (List Key×V))
 | set (S:Int->Bool) (n:Nat)
 | ins (C dx:Addr) (fs:List (Str×V))
 | own (x:Addr)
 | xd (fs:List (Str×V))
 | met (f x:Addr)
 | rng (lo hi:Int)
 | frz (o:Obj) (u:HO)
 | tbl (ps:Array Value) (q:Str)
 | ext (φ:Heap->Prop)
noncomputable abbrev Hp:=Addr->Option HO
def upd (H:Hp)(a:Addr)(o:HO):Hp:=λb=>if b=a then some o else H b
theorem zw:upd H a o a=some o:=by unfold upd;rw[if_pos rfl]
theorem zu (h:b ≠ a):upd H a o b=H b:=by unfold upd;rw[if_neg h]
theorem zJ {H:Hp}{a b:Addr}{o:HO}(h:H a=some o)(h' :H b=none):a ≠ b:=by
 intro e;subst e;rw[h]at h';cases h'
noncomputable def ITN (h:Heap)(a:Addr)(its:Array Value):Prop:=IsTup h a its/\((∃i t,its[0]? =some (Value.int i t))\/∃o,h.get? a=some o/\o.dict=none)
theorem ITN.new (h:Heap)(its:Array Value):ITN (h.push { cls:= .type "tuple",data:= .seq its }) h.objs.size its:=⟨IsTup.new h its,.inr ⟨_,ag _ rfl,rfl⟩⟩
section
variable (P:Program)(w:World)
def Zc (H:Hp)(h:Heap)(a:Addr):HO->Prop
 | .lst xs=>xs.length<=sizeLine/\∃(its:List Value) (n:Nat),zR xs its/\h.get? a=some { cls:= .type "list",data:= .seq its.toArray n }
 | .tup xs=>xs.length<=sizeLine/\∃its:List Value,zR xs its/\ITN h a its.toArray
 | .dK kvs=>kvs.length<=sizeLine/\(a == sysModules)=false/\∃vs,KV kvs vs/\h.DictOf (yk P w) a vs
 | .dT kvs=>kvs.length<=sizeLine/\(a == sysModules)=false/\∃xs:List (List Key×Addr×Value),
   Paired (λ(p:List Key×V) (q:List Key×Addr×Value)=>p.1=q.1/\H q.2.1=some (.tup (p.1.map kV))/\Za p.2 q.2.2) kvs xs/\
   ∃o es ep,h.get? a=some o/\o.ExactDict/\o.data= .dict es ep/\es.toList=xs.map (entryOfKey (tupleKind (yk P w)))/\(xs.map (·.1)).Nodup
 | .set S n=>h.SetOf (intKind P w) a S n
 | .ins C dx fs=>H dx=some (.own a)/\fs.length<=1000/\dx ≠ a/\h.get? a=some (cn C dx)/\
   ∃mA,h.Ns1 dx mA/\(∀f,Qc (fs.lookup f) (mA f))/\eA mA (fs.map (·.1))
 | .own _=>∃o,h.get? a=some o
 | .xd fs=>∃mA,h.Ns1 a mA/\∀f,Qc (fs.lookup f) (mA f)
 | .rng lo hi=>∃t u v,h.get? a=some { cls:= .type "range",data:= .fields #[.int lo t,.int hi u,.int 1 v] }
 | .frz o u=>h.get? a=some o/\Zc H h a u
 | .tbl ps q=>∃more:Array Value,h.get? a=some { cls:= .none,data:= .fields (ps++more) }/\TriplesOk (ps++more).toList/\∀p cv,codeAmong p (ps++more).toList=some cv->∃c oc vs t,cv= .ref c/\H c=some (.frz oc (.own c))/\oc.data= .fields vs/\vs[1]? =some (.str q t)
 | .met f x=>h.get? a=some (PySem.W.methodObj (.ref f) (.ref x))
 | .ext φ=>φ h/\(∃o,h.get? a=some o)/\∀h1 h2:Heap,φ h1->(∀o,h1.get? a=some o->h2.get? a=some o)->φ h2
def HOk (H:Hp)(h:Heap):Prop:=∀a o,H a=some o->Zc P w H h a o
end
section
variable {P:Program}{w:World}{H H' :Hp}{h h' :Heap}{a:Addr}{o:HO}
theorem Zc.lt (x:Zc P w H h a o):a < h.objs.size:=by
 cases o with
 | lst xs=>obtain⟨_,_,_,_,e⟩:=x;exact ao e
 | tup xs=>obtain⟨_,_,_,p,_⟩:=x;exact p.lt
 | dK kvs=>obtain⟨_,_,_,_,o,_,_,e,_⟩:=x;exact ao e
 | dT kvs=>obtain⟨_,_,_,_,o,_,_,e,_⟩:=x;exact ao e
 | set S n=>obtain⟨o,_,_,_,e,_⟩:=x;exact ao e
 | ins C dx fs=>obtain⟨_,_,_,e,_⟩:=x;exact ao e
 | own y=>obtain⟨_,e⟩:=x;exact ao e
 | xd fs=>obtain⟨_,⟨_,_,_,e,_⟩,_⟩:=x;exact ao e
 | rng lo hi=>obtain⟨_,_,_,e⟩:=x;exact ao e
 | frz ob u=>obtain⟨e,_⟩:=x;exact ao e
 | tbl ps q=>obtain⟨_,e,_⟩:=x;exact ao e
 | met f y=>exact ao (x)
 | ext φ=>obtain⟨_,⟨_,e⟩,_⟩:=x;exact ao e
theorem Paired.mapP {α β:Type}{F G:α->β->Prop}:∀{l₁:List α} {l₂:List β},Paired F l₁ l₂->(∀a b,F a b->G a b)->Paired G l₁ l₂
 | _,_,.nil,_=> .nil
 | _,_,.cons r t,f=> .cons (f _ _ r) (Paired.mapP t f)
theorem Zc.stay (x:Zc P w H h a o)(k:∀b u,(b=a\/H b=some (.own a))->h.get? b=some u->h'.get? b=some u)
  (ho:∀b,H b=some (.own a)->H' b=some (.own a)) (ht:∀b xs,H b=some (.tup xs)->H' b=some (.tup xs)) (hf:∀b o u,H b=some (.frz o u)->H' b=some (.frz o u):=by exact λ_ _ _ q=>q):Zc P w H' h' a o:=by
 induction o with
 | lst xs=>obtain⟨z,its,n,r,e⟩:=x;exact⟨z,its,n,r,k _ _ (.inl rfl) e⟩
 | tup xs=>obtain⟨z,its,r,⟨ob,e,c⟩,q⟩:=x;exact⟨z,its,r,⟨ob,k _ _ (.inl rfl) e,c⟩,q.imp id λ⟨o2,e2,d2⟩=>⟨o2,k _ _ (.inl rfl) e2,d2⟩⟩
 | dK kvs=>obtain⟨z,y,vs,r,ob,es,ep,e,c⟩:=x;exact⟨z,y,vs,r,ob,es,ep,k _ _ (.inl rfl) e,c⟩
 | dT kvs=>
  obtain⟨z,y,xs,r,ob,es,ep,e,c⟩:=x;exact⟨z,y,xs,Paired.mapP r λp q z=>⟨z.1,ht _ _ z.2.1,z.2.2⟩,ob,es,ep,k _ _ (.inl rfl) e,c⟩
 | set S n=>obtain⟨ob,es,ep,t,e,c⟩:=x;exact⟨ob,es,ep,t,k _ _ (.inl rfl) e,c⟩
 | ins C dx fs=>
  obtain⟨d,z,ne,e,mA,⟨od,es,ep,e2,c⟩,r⟩:=x;exact⟨ho _ d,z,ne,k _ _ (.inl rfl) e,mA,⟨od,es,ep,k _ _ (.inr d) e2,c⟩,r⟩
 | own y=>obtain⟨ob,e⟩:=x;exact⟨ob,k _ _ (.inl rfl) e⟩
 | xd fs=>obtain⟨mA,⟨od,es,ep,e,c⟩,r⟩:=x;exact⟨mA,⟨od,es,ep,k _ _ (.inl rfl) e,c⟩,r⟩
 | rng lo hi=>obtain⟨t,u,v,e⟩:=x;exact⟨t,u,v,k _ _ (.inl rfl) e⟩
 | frz ob u ih=>obtain⟨e,q⟩:=x;exact⟨k _ _ (.inl rfl) e,ih q⟩
 | tbl ps q=>
  obtain⟨m,e,tr,al⟩:=x;exact⟨m,k a _ (.inl rfl) e,tr,λp cv z=>let ⟨c,oc,vs,t,e1,e2,e3⟩:=al p cv z;⟨c,oc,vs,t,e1,hf _ _ _ e2,e3⟩⟩
 | met f y=>
  have e:=x;exact k a _ (.inl rfl) e
 | ext φ=>obtain⟨p,⟨o,e⟩,st⟩:=x;exact⟨st _ _ p λo q=>k _ _ (.inl rfl) q,⟨o,k _ _ (.inl rfl) e⟩,st⟩
theorem HOk.lt (x:HOk P w H h)(e:H a=some o):a < h.objs.size:=(x a o e).lt
theorem HOk.fresh (x:HOk P w H h)(e:h.objs.size<=a):H a=none:=by
 cases q:H a with
 | none=>rfl
 | some u=>exact absurd (aG (x.lt q) e) (aY _)
theorem HOk.kept (x:HOk P w H h)(k:∀b u,h.get? b=some u->h'.get? b=some u):HOk P w H h' :=λa o e=>
 (x a o e).stay (λb u _ q=>k b u q) (λ_ q=>q) λ_ _ q=>q
theorem HOk.laid (x:HOk P w H h)(k:∀b u,h.get? b=some u->h'.get? b=some u)(hp:h.objs.size<=a)(new:Zc P w (upd H a o) h' a o):HOk P w (upd H a o) h' :=λb u e=>by
 have hn:=x.fresh hp
 by_cases hb:b=a
 ·subst hb;rw[zw]at e;cases e;exact new
 ·rw[zu hb]at e;exact(x b u e).stay (λc v _ q=>k c v q) (λc q=>by rw[zu (zJ q hn)];exact q) (λc xs q=>by rw[zu (zJ q hn)];exact q) λc o u q=>by rw[zu (zJ q hn)];exact q
end
def Rd (H:Hp)(a:Addr)(u:HO):Prop:=H a=some u\/∃o,H a=some (.frz o u)
theorem Rd.ok (r:Rd H a u)(x:HOk P w H h):Zc P w H h a u:=by
 rcases r with r | ⟨o,r⟩
 ·exact x a u r
 ·obtain⟨_,q⟩:=x a _ r;exact q
noncomputable def Mut:Option HO->Prop
 | some (.lst _)=>True
 | some (.dK _)=>True
 | some (.dT _)=>True
 | some (.set _ _)=>True
 | some (.ins _ _ _)=>True
 | some (.ext _)=>True
 | _=>False
section
theorem HOk.write (ok:HOk P w H h)(mu:Mut (H x))(he:e=x\/H e=some (.own x))(k:∀b u,b ≠ e->h.get? b=some u->h'.get? b=some u)(heo:∃u,h'.get? e=some u)
  (new:Zc P w (upd H x o') h' x o'):HOk P w (upd H x o') h' :=λb u q=>by
 have nown:∀c y,H c=some (.own y)->c ≠ x:=λc y r z=>by subst z;rw[r]at mu;exact mu
 have ntup:∀c xs,H c=some (.tup xs)->c ≠ x:=λc xs r z=>by subst z;rw[r]at mu;exact mu
 by_cases hb:b=x
 ·subst hb;rw[zw]at q;cases q;exact new
 ·rw[zu hb]at q
  by_cases hbe:b=e
  ·have q' :H b=some (.own x):=by
    rcases he with z | z
    ·exact absurd (hbe.trans z) hb
    ·rw[hbe];exact z
   rw[q]at q';cases q';obtain⟨v,hv⟩:=heo;exact⟨v,by rw[hbe];exact hv⟩
  ·refine(ok b u q).stay (λc v hc r=>k c v ?_ r) (λc r=>by rw[zu (nown c b r)];exact r) (λc xs r=>by rw[zu (ntup c xs r)];exact r) λc o u r=>by rw[zu (λz=>by subst z;rw[r]at mu;exact mu)];exact r
   rcases hc with rfl | hc
   ·exact hbe
   ·rintro rfl
    rcases he with z | z
    ·exact nown c b hc z
    ·rw[hc]at z;cases z;exact hb rfl
end
structure Un (fs ex:List Addr) (H H' :Hp) (h h' :Heap):Prop where
 keep:∀b o,h.get? b=some o->H b=none->b ∉ fs->b ∉ ex->h'.get? b=some o
 slot:∀b o,h.get? b=some o->H b=none->b∈fs->b ∉ ex->∃sl,h'.get? b=some { o with slots:=sl }
 free:∀b o,h.get? b=some o->H b=none->b ∉ ex->H' b=none
 there:∀b o,h.get? b=some o->b ∉ ex->∃o',h'.get? b=some o'
 tups:∀b xs,H b=some (.tup xs)->H' b=some (.tup xs)
 frzs:∀b o u,H b=some (.frz o u)->H' b=some (.frz o u)
 tbls:∀b ps q,H b=some (.tbl ps q)->H' b=some (.tbl ps q)
section
variable {fs fs' ex ex' :List Addr}{H H1 H2:Hp}{h h1 h2 h' :Heap}{a x e:Addr}{o:HO}
theorem Un.any (u:Un fs ex H H1 h h1)(q:h.get? b=some ob)(n:H b=none)(hx:b ∉ ex):∃sl,h1.get? b=some { ob with slots:=sl }:=by
 by_cases hb:b∈fs
 ·exact u.slot b ob q n hb hx
 ·exact⟨ob.slots,u.keep b ob q n hb hx⟩
theorem Un.kept (k:∀b u,h.get? b=some u->h'.get? b=some u):Un fs ex H H h h' :=
 ⟨λb ob q _ _ _=>k b ob q,λb ob q _ _ _=>⟨ob.slots,k b ob q⟩,λ_ _ _ n _=>n,λb ob q _=>⟨ob,k b ob q⟩,λ_ _ q=>q,λ_ _ _ q=>q,λ_ _ _ q=>q⟩
theorem Un.refl:Un fs ex H H h h:=Un.kept λ_ _ q=>q
theorem Un.laid (k:∀b u,h.get? b=some u->h'.get? b=some u)(hp:h.objs.size<=a)(hn:H a=none):Un fs ex H (upd H a o) h h' where
 keep:=λb u q _ _ _=>k b u q
 slot:=λb u q _ _ _=>⟨u.slots,k b u q⟩
 free:=λb u q n _=>by rw[zu (aE (aG (ao q) hp))];exact n
 there:=λb u q _=>⟨u,k b u q⟩
 tups:=λb xs q=>by rw[zu (zJ q hn)];exact q
 frzs:=λb u xs q=>by rw[zu (zJ q hn)];exact q
 tbls:=λb ps q e=>by rw[zu (zJ e hn)];exact e
theorem Un.write (mu:Mut (H x))(he:e=x\/H e=some (.own x))(k:∀b u,b ≠ e->h.get? b=some u->h'.get? b=some u)(heo:∃u,h'.get? e=some u):Un fs ex H (upd H x o) h h' :=by
 have hx:∀b,H b=none->b ≠ x:=λb n z=>by subst z;rw[n]at mu;exact mu
 have hb:∀b,H b=none->b ≠ e:=λb n z=>by
  subst z;rcases he with r | r
  ·exact hx b n r
  ·rw[n]at r;cases r
 have hm:∀b u,H b=some u->¬ Mut (some u)->b ≠ x:=λb u q nm z=>by subst z;rw[q]at mu;exact nm mu
 refine⟨λb u q n _ _=>k b u (hb b n) q,λb u q n _ _=>⟨u.slots,k b u (hb b n) q⟩,λb u q n _=>by rw[zu (hx b n)];exact n,λb u q _=> ?_,
  λb xs q=>by rw[zu (hm b _ q λz=>z)];exact q,λb u xs q=>by rw[zu (hm b _ q λz=>z)];exact q,λb ps q e=>by rw[zu (hm b _ e λz=>z)];exact e⟩
 by_cases hbe:b=e
 ·subst hbe;exact heo
 ·exact⟨u,k b u hbe q⟩
end
def trk (h:Heap)(H:Hp):List Addr:=(a_ h.objs.size).filter λa=>(H a).isSome
def XA (h:Heap)(H:Hp):Heap:=PySem.W.hideAll h (trk h H)
theorem yl (h:Heap)(H:Hp):(XA h H).objs.size=h.objs.size:=PySem.W.hideAll_size _ _
theorem wq (e:h.get? b=some o)(n:H b=none):(XA h H).get? b=some o:=
 PySem.W.hideAll_get _ e λhm=>by
  have q:=(cT.mp hm).2;rw[n]at q;simp at q
theorem Vl (e:(XA h H).get? b=some o):h.get? b=some o/\H b=none:=by
 have e' :=PySem.W.of_hideAll _ e;refine⟨e', ?_⟩;cases q:H b with
 | none=>rfl
 | some x=>
  have hm:b∈trk h H:=cT.mpr ⟨bo.mpr (ao e'),by simp[q]⟩
  have z:(XA h H).get? b=none:=PySem.W.hideAll_none _ hm;rw[z]at e;cases e
end L2
namespace L2
open PySem PySem.Spec PyProof.Rows
structure Mod (K:a9) (mg:Str->Option Value) (base:Heap):Prop where
 kin:K.In base
 glob:base.Ns mainGlobals mg
 blt:∃mb,base.Ns builtinsNs mb/\∀x:Str,x ≠ "__name__"->mb x=bootBuiltins x
 nolimit:base.NoLimit
structure Cx where
 prog:Program
 w:World
 K:a9
 mg:Str->Option Value
 base:Heap
 A:Around
 N:List Str
 s₀:Shared
 H₀:Hp
 env:Env
 outer:List Env
 stack:List Env
 ex:List Addr
 fn:Str->Bool
 calm:Bool
 pn:List (Addr×Obj)
 xe:Value->Shared->Prop
noncomputable def frs (l:List Env):List Addr:=l.filterMap (·.frame)
abbrev Cx.fs (X:Cx):List Addr:=frs X.outer
noncomputable def Vis (sc:Scope)(x:Str):Prop:=sc.names.lookup x=some .local\/sc.names.lookup x=some .cell\/sc.names.lookup x=some .free
noncomputable def Loc (sc:Scope)(x:Str):Prop:=sc.names.lookup x=some .local\/sc.names.lookup x=some .cell
noncomputable def Look (env:Env)(h:Heap)(m:Str->Option Value)(x:Str)(u:Value):Prop:=
 (env.kindOf x=some .local/\m x=some u)\/((env.kindOf x=some .cell\/env.kindOf x=some .free)/\∃c,env.cells.lookup x=some c/\h.IsCell c (some u))
structure Cx.Ok (X:Cx):Prop where
 mod:Mod X.K X.mg X.base
 kind:X.env.scope.kind= .function
 glob:X.env.globals=mainGlobals
 blt:X.env.builtins=builtinsNs
 above:X.s₀.heap.objs.size<=X.env.locals
 inj:∀x y c,X.env.cells.lookup x=some c->X.env.cells.lookup y=some c->x=y
 has:∀x,(X.env.kindOf x=some .cell\/X.env.kindOf x=some .free)->∃c,X.env.cells.lookup x=some c
 cab:∀x c,X.fn x=true->X.env.cells.lookup x=some c->X.s₀.heap.objs.size<=c
 hd:X.calm=true->X.A.handled=none
 frames:X.A.frames=some X.stack
 stk:X.stack=X.outer\/(X.stack=X.env :: X.outer/\X.env.frame=some X.env.locals)
 exf:∀b∈X.ex,b ≠ X.env.locals/\∀x c,X.env.cells.lookup x=some c->c ≠ b
 bs:∀b o,X.base.get? b=some o->X.s₀.heap.get? b=some o/\X.H₀ b=none
 bsz:X.base.objs.size<=X.s₀.heap.objs.size
 noex:∀b o,X.base.get? b=some o->b ∉ X.ex
 exfs:∀b∈X.ex,b ∉ X.fs
 funs:X.s₀.heap.FunFrames X.base X.outer
 frf:∀b∈X.fs,X.H₀ b=none
structure Inv (X:Cx) (pins:List (Addr×Obj)) (σ:List (Option V)) (H:Hp) (s:Shared):Prop where
 ok:X.Ok
 os:s.os=X.s₀.os
 bare:AllBare s.gens
 base:Un X.fs X.ex X.H₀ H X.s₀.heap s.heap
 loc:∃m,s.heap.Ns X.env.locals m/\∀(i:Nat) (x:Str) (v:V),X.N[i]? =some x->σ[i]? =some (some v)->Vis X.env.scope x->∃u,Za v u/\Look X.env s.heap m x u
 cell:∀x c,X.env.cells.lookup x=some c->∃v,s.heap.IsCell c v
 free:H X.env.locals=none
 freeC:∀x c,X.env.cells.lookup x=some c->H c=none
 pin:∀p∈X.pn++pins,s.heap.get? p.1=some p.2/\H p.1=none/\p.1 ≠ X.env.locals/\p.1 ∉ X.fs/\∀v,p.2.data ≠ .cell v
 hok:HOk X.prog X.w H s.heap
 len:σ.length=X.N.length
section
variable {X:Cx}{pins:List (Addr×Obj)}{σ:List (Option V)}{H H' :Hp}{s:Shared}{h' :Heap}
theorem Cx.Ok.nofr (ok:X.Ok){b:Addr}{o:Obj}(e:X.base.get? b=some o):b ∉ X.fs:=λhb=>by
 have:=(ok.funs.mem hb).1;rw[e]at this;cases this
theorem Inv.bs (I:Inv X pins σ H s):∀b o,X.base.get? b=some o->s.heap.get? b=some o/\H b=none:=λb o e=>
 ⟨I.base.keep b o (I.ok.bs b o e).1 (I.ok.bs b o e).2 (I.ok.nofr e) (I.ok.noex b o e),I.base.free b o (I.ok.bs b o e).1 (I.ok.bs b o e).2 (I.ok.noex b o e)⟩
theorem Inv.bk (I:Inv X pins σ H s):∀b o,X.base.get? b=some o->s.heap.get? b=some o:=λb o e=>(I.bs b o e).1
theorem Inv.mod (I:Inv X pins σ H s):Mod X.K X.mg X.base:=I.ok.mod
theorem Inv.kIn (I:Inv X pins σ H s):X.K.In s.heap:=I.ok.mod.kin.keeps I.bk
theorem Inv.lt (I:Inv X pins σ H s):X.env.locals < s.heap.objs.size:=let ⟨_,hn,_⟩:=I.loc;hn.lt
theorem Inv.sz (I:Inv X pins σ H s):X.s₀.heap.objs.size<=s.heap.objs.size:=aC I.ok.above (eB I.lt)
theorem Inv.nofs (I:Inv X pins σ H s)(h:s.heap.objs.size<=a):a ∉ X.fs:=λhb=>by
 obtain⟨_,o,ho,_⟩:=I.ok.funs.mem hb;exact absurd (aG (ao ho) (aC I.sz h)) (aY _)
theorem Inv.cne (I:Inv X pins σ H s):∀x c,X.env.cells.lookup x=some c->c ≠ X.env.locals:=λx c e z=>by
 obtain⟨v,o,ho,hd⟩:=I.cell x c e;obtain⟨m,⟨o',es,ep,ho',hd',_⟩,_⟩:=I.loc;rw[z,ho']at ho;cases ho;rw[hd']at hd;cases hd
theorem Inv.funs (I:Inv X pins σ H s):s.heap.FunFrames X.base X.outer:=by
 have all:∀(l:List Env),(∀b∈frs l,b∈X.fs)->X.s₀.heap.FunFrames X.base l->s.heap.FunFrames X.base l:=by
  intro l
  induction l with
  | nil=>intro _ _;trivial
  | cons env r ih=>
   intro hs hl;obtain⟨hk,⟨L,o,hf,hn,ho,hd⟩,hr⟩:=hl;have hL:=hs L (by unfold frs;rw[cN,hf];exact ab)
   obtain⟨sl,e⟩:=I.base.slot L o ho (I.ok.frf L hL) hL λz=>I.ok.exfs L z hL;exact⟨hk,⟨L,_,hf,hn,e,hd⟩,ih (λb hb=>hs b (by unfold frs;rw[cN,hf];exact a8 _ hb)) hr⟩
 exact all _ (λ_ hb=>hb) I.ok.funs
theorem Inv.stack (I:Inv X pins σ H s):s.heap.FunFrames X.base X.stack:=by
 rcases I.ok.stk with e | ⟨e,hf⟩
 ·rw[e];exact I.funs
 ·rw[e];obtain⟨m,hn,_⟩:=I.loc;refine .cons (by rw[I.ok.kind];decide) hf hn ?_ I.funs
  exact Heap.get?_none_of_le (aC I.ok.bsz I.ok.above)
theorem Inv.stkSub (I:Inv X pins σ H s):∀b∈frs X.stack,b∈X.env.locals :: X.fs:=λb hb=>by
 rcases I.ok.stk with e | ⟨e,hf⟩
 ·rw[e]at hb;exact a8 _ hb
 ·rw[e]at hb;unfold frs at hb;rw[cN,hf]at hb;exact hb
theorem Inv.stkFree (I:Inv X pins σ H s):∀b∈frs X.stack,H b=none:=λb hb=>by
 rcases ah.mp (I.stkSub b hb) with e | hb
 ·rw[e];exact I.free
 ·obtain⟨_,o,ho,_⟩:=I.ok.funs.mem hb;exact I.base.free b o ho (I.ok.frf b hb) λz=>I.ok.exfs b z hb
theorem Inv.step {g' :Array GenState}{t' :Nat}{d' :Drawn}{ch:List Addr}(I:Inv X pins σ H s)
  (hch:∀b∈ch,(b∈X.ex\/X.s₀.heap.objs.size<=b)/\b ≠ X.env.locals/\(∀x c,X.env.cells.lookup x=some c->c ≠ b)/\∀p∈X.pn++pins,p.1 ≠ b)
  (keep:∀b o,b ≠ X.env.locals->b ∉ X.fs->b ∉ ch->s.heap.get? b=some o->H b=none->h'.get? b=some o)
  (slot:∀b o,b ≠ X.env.locals->b∈X.fs->b ∉ ch->s.heap.get? b=some o->H b=none->∃sl,h'.get? b=some { o with slots:=sl }) (free:∀b o,b ∉ ch->s.heap.get? b=some o->H b=none->H' b=none)
  (there:∀b o,b ∉ ch->s.heap.get? b=some o->∃o',h'.get? b=some o')
  (tups:∀b xs,H b=some (.tup xs)->H' b=some (.tup xs)) (frzs:∀b o u,H b=some (.frz o u)->H' b=some (.frz o u)) (tbls:∀b ps q,H b=some (.tbl ps q)->H' b=some (.tbl ps q))
  (ns:∀m,s.heap.Ns X.env.locals m->h'.Ns X.env.locals m) (hok:HOk X.prog X.w H' h') (hg:AllBare g'):
  Inv X pins σ H' { s with heap:=h',gens:=g',drawn:=d',toks:=t' }:=by
 have neL:∀b o,X.s₀.heap.get? b=some o->b ≠ X.env.locals:=λb o e=>aE (aG (ao e) I.ok.above);have neC:∀b o,X.s₀.heap.get? b=some o->b ∉ X.ex->b ∉ ch:=λb o e hx hb=>by
  rcases(hch b hb).1 with z | z
  ·exact hx z
  ·exact absurd (aG (ao e) z) (aY _)
 have cellK:∀x c,X.env.cells.lookup x=some c->∀v,s.heap.IsCell c v->h'.IsCell c v:=λx c e v ⟨o,ho,hd⟩=>by
  have nch:=λz=>(hch c z).2.2.1 x c e rfl
  by_cases hc:c∈X.fs
  ·obtain⟨sl,q⟩:=slot c o (I.cne x c e) hc nch ho (I.freeC x c e);exact⟨_,q,hd⟩
  ·exact⟨o,keep c o (I.cne x c e) hc nch ho (I.freeC x c e),hd⟩
 refine⟨I.ok,I.os,hg,⟨λb o e n hb hx=> ?_,λb o e n hb hx=> ?_,λb o e n hx=> ?_,λb o e hx=> ?_,λb xs e=>tups b xs (I.base.tups b xs e),λb o xs e=>frzs b o xs (I.base.frzs b o xs e),λb ps q e=>tbls b ps q (I.base.tbls b ps q e)⟩, ?_,λx c e=> ?_, ?_,λx c e=> ?_,λp hp=> ?_,hok,I.len⟩
 ·exact keep b o (neL b o e) hb (neC b o e hx) (I.base.keep b o e n hb hx) (I.base.free b o e n hx)
 ·obtain⟨sl,e1⟩:=I.base.slot b o e n hb hx;obtain⟨sl',e2⟩:=slot b _ (neL b o e) hb (neC b o e hx) e1 (I.base.free b o e n hx);exact⟨sl',e2⟩
 ·obtain⟨o',e1⟩:=I.base.there b o e hx;exact free b o' (neC b o e hx) e1 (I.base.free b o e n hx)
 ·obtain⟨o',e1⟩:=I.base.there b o e hx;exact there b o' (neC b o e hx) e1
 ·obtain⟨m,hn,hl⟩:=I.loc;refine⟨m,ns m hn,λi x v e1 e2 e3=> ?_⟩;obtain⟨u,r,l⟩:=hl i x v e1 e2 e3;refine⟨u,r, ?_⟩;rcases l with l | ⟨k,c,e,z⟩
  ·exact .inl l
  ·exact .inr ⟨k,c,e,cellK x c e _ z⟩
 ·obtain⟨v,z⟩:=I.cell x c e;exact⟨v,cellK x c e v z⟩
 ·obtain⟨m,⟨o,_,_,ho,_⟩,_⟩:=I.loc;exact free _ o (λz=>(hch _ z).2.1 rfl) ho I.free
 ·obtain⟨v,o,ho,hd⟩:=I.cell x c e;exact free c o (λz=>(hch c z).2.2.1 x c e rfl) ho (I.freeC x c e)
 ·obtain⟨e,n,ne,nf,d⟩:=I.pin p hp;have nch:=λz=>(hch p.1 z).2.2.2 p hp rfl;exact⟨keep p.1 p.2 ne nf nch e n,free p.1 p.2 nch e n,ne,nf,d⟩
theorem Inv.un {t' :Nat}(I:Inv X pins σ H s)(u:Un X.fs [] H H' s.heap h')(hok:HOk X.prog X.w H' h'):Inv X pins σ H' { s with heap:=h',toks:=t' }:=by
 obtain⟨m,⟨o,es,ep,ho,r⟩,_⟩:=id I.loc;obtain⟨sl,hL⟩:=u.any ho I.free (by simp)
 exact I.step (ch:=[]) (λ_ z=>nomatch z) (λb o _ hb _ e n=>u.keep b o e n hb (by simp)) (λb o _ hb _ e n=>u.slot b o e n hb (by simp)) (λb o _ e n=>u.free b o e n (by simp)) (λb o _ e=>u.there b o e (by simp)) u.tups u.frzs u.tbls (λm' hm=>by
  obtain⟨o',es',ep',ho',r'⟩:=hm;rw[ho]at ho';cases ho';exact⟨_,es',ep',hL,r'⟩) hok I.bare
theorem Inv.call {g' :Array GenState}{t' :Nat}{d' :Drawn}{ch:List Addr}(I:Inv X pins σ H s)(u:Un (frs X.stack) ch H H' s.heap h')(hok:HOk X.prog X.w H' h')(hg:AllBare g')
  (hch:∀b∈ch,(b∈X.ex\/X.s₀.heap.objs.size<=b)/\b ≠ X.env.locals/\(∀x c,X.env.cells.lookup x=some c->c ≠ b)/\∀p∈X.pn++pins,p.1 ≠ b):
  Inv X pins σ H' { s with heap:=h',gens:=g',drawn:=d',toks:=t' }:=by
 obtain⟨m,⟨o,es,ep,ho,r⟩,_⟩:=id I.loc;obtain⟨sl,hL⟩:=u.any ho I.free λz=>(hch _ z).2.1 rfl;exact I.step hch (λb o hL hb hc e n=>u.keep b o e n (λz=>(ah.mp (I.stkSub b z)).elim hL hb) hc) (λb o _ _ hc e n=>u.any e n hc) (λb o hc e n=>u.free b o e n hc) (λb o hc e=>u.there b o e hc) u.tups u.frzs u.tbls (λm' hm=>by
  obtain⟨o',es',ep',ho',r'⟩:=hm;rw[ho]at ho';cases ho';exact⟨_,es',ep',hL,r'⟩) hok hg
theorem Inv.turned {t' :Nat}{it:Addr}(I:Inv X pins σ H s)(k:∀b o,b ≠ it->s.heap.get? b=some o->h'.get? b=some o)(hn:H it=none)(hL:it ≠ X.env.locals)
  (h1:it∈X.ex\/X.s₀.heap.objs.size<=it) (h2:∀x c,X.env.cells.lookup x=some c->c ≠ it) (h3:∀p∈X.pn++pins,p.1 ≠ it):Inv X pins σ H { s with heap:=h',toks:=t' }:=by
 have nit:∀b u,H b=some u->b ≠ it:=λb u e z=>by rw[z,hn]at e;cases e
 refine I.step (ch:=[it]) (λb hb=> ?_) (λb o _ _ hc e _=>k b o (λz=>hc (by simp[z])) e) (λb o _ _ hc e _=>⟨o.slots,k b o (λz=>hc (by simp[z])) e⟩) (λ_ _ _ _ n=>n)
  (λb o hc e=>⟨o,k b o (λz=>hc (by simp[z])) e⟩) (λ_ _ e=>e) (λ_ _ _ e=>e) (λ_ _ _ e=>e) (λm hm=> ?_) (λb u e=> ?_) I.bare
 ·have e:=by simpa using hb
  subst e;exact⟨h1,hL,h2,h3⟩
 ·obtain⟨o,es,ep,ho,r⟩:=hm;exact⟨o,es,ep,k _ o (aX hL) ho,r⟩
 ·refine(I.hok b u e).stay (λc v hc q=>k c v ?_ q) (λ_ q=>q) λ_ _ q=>q;rcases hc with z | z
  ·rw[z];exact nit b u e
  ·exact nit c _ z
theorem Inv.tok (I:Inv X pins σ H s)(t:Nat):Inv X pins σ H { s with toks:=t }:=I.un Un.refl I.hok
theorem Inv.kept (I:Inv X pins σ H s)(k:∀b u,s.heap.get? b=some u->h'.get? b=some u):Inv X pins σ H { s with heap:=h',toks:=t' }:=I.un (Un.kept k) (I.hok.kept k)
theorem Inv.laid (I:Inv X pins σ H s)(k:∀b u,s.heap.get? b=some u->h'.get? b=some u)(hp:s.heap.objs.size<=a)(new:Zc X.prog X.w (upd H a o) h' a o):
  Inv X pins σ (upd H a o) { s with heap:=h',toks:=t' }:=I.un (Un.laid k hp (I.hok.fresh hp)) (I.hok.laid k hp new)
theorem Inv.write (I:Inv X pins σ H s)(mu:Mut (H x))(he:e=x\/H e=some (.own x))(k:∀b u,b ≠ e->s.heap.get? b=some u->h'.get? b=some u)(heo:∃u,h'.get? e=some u)
  (new:Zc X.prog X.w (upd H x o) h' x o):Inv X pins σ (upd H x o) { s with heap:=h',toks:=t' }:=I.un (Un.write mu he k heo) (I.hok.write mu he k heo new)
theorem Inv.pins_of (I:Inv X pins σ H s)(h:∀p∈pins',s.heap.get? p.1=some p.2/\H p.1=none/\p.1 ≠ X.env.locals/\p.1 ∉ X.fs/\∀v,p.2.data ≠ .cell v):Inv X pins' σ H s:=
 ⟨I.ok,I.os,I.bare,I.base,I.loc,I.cell,I.free,I.freeC,λp hp=>(dh.mp hp).elim (λz=>I.pin p (cC _ z)) (h p),I.hok,I.len⟩
theorem uk {N:List Str}(hN:N.Nodup){i j:Nat}{x:Str}(a:N[i]? =some x)(b:N[j]? =some x):i=j:=by
 obtain⟨h1,e1⟩:=am.mp a;obtain⟨h2,e2⟩:=am.mp b;exact(fO hN).mp (e1.trans e2.symm)
theorem W5 {M:Model}{A:Around}{E:Value->Shared->Prop}{i:Nat}{x:Str}{v:V}{u:Value}{Q:Unit->Shared->Prop}(I:Inv X pins σ H s)(hN:X.N.Nodup)(hi:X.N[i]? =some x)(hx:Loc X.env.scope x)(r:Za v u)
  (h:∀s',Inv X pins (σ.set i (some v)) H s' ->(∃a,bT a s.heap s'.heap/\(a=X.env.locals\/X.env.cells.lookup x=some a))->Q () s') (hf:X.fn x=true\/X.env.scope.names.lookup x=some .local:=by first | exact .inl rfl | exact .inr rfl | assumption):wpAny M A (storeName X.env x u) Q E s:=by
 obtain⟨m,hn,hl⟩:=id I.loc;have hcls:(X.env.scope.kind == .class || (X.env.scope.kind == .module && X.env.locals != X.env.globals))=false:=by rw[I.ok.kind];rfl
 have hiσ:i < σ.length:=by rw[I.len];exact(am.mp hi).1
 have cne:=I.cne;have tracked:∀{a:Addr} {h' :Heap},(∃o,s.heap.get? a=some o/\H a=none)->bT a _ h' ->HOk _ X.w H h' :=λ{a h'} ha hs b ob e=>by
  obtain⟨_,_,hfree⟩:=ha;refine(I.hok b ob e).stay (λc w' hc q=>(hs.2 c ?_).trans q) (λ_ q=>q) λ_ _ q=>q
  rintro rfl
  rcases hc with rfl | hc
  ·rw[hfree]at e;cases e
  ·rw[hfree]at hc;cases hc
 rcases hx with hk | hk
 ·refine wpAny_storeName_local hk hn (λh' hn' hs=> ?_) hcls;obtain⟨oL,_,_,hoL,_⟩:=id hn;refine h _ ⟨I.ok,I.os,I.bare,⟨λb o e n hb hx=> ?_,λb o e n hb hx=> ?_,I.base.free,λb o e hx=> ?_,I.base.tups,I.base.frzs,I.base.tbls⟩,⟨_,hn',λj y v' e1 e2 e3=> ?_⟩,λy c e=> ?_,I.free,I.freeC,λp hp=> ?_,tracked ⟨oL,hoL,I.free⟩ hs,by simpa using I.len⟩ ⟨_,hs,.inl rfl⟩
  ·exact(hs.2 b (aE (aG (ao e) I.ok.above))).trans (I.base.keep b o e n hb hx)
  ·obtain⟨sl,e1⟩:=I.base.slot b o e n hb hx;exact⟨sl,(hs.2 b (aE (aG (ao e) I.ok.above))).trans e1⟩
  ·obtain⟨o',e1⟩:=I.base.there b o e hx;exact⟨o',(hs.2 b (aE (aG (ao e) I.ok.above))).trans e1⟩
  ·by_cases hj:j=i
   ·subst hj;rw[hi]at e1;cases e1;rw[aU hiσ]at e2;cases e2;exact⟨u,r,.inl ⟨hk,by simp⟩⟩
   ·rw[ay (aX hj)]at e2;obtain⟨u',r',q⟩:=hl j y v' e1 e2 e3;refine⟨u',r', ?_⟩;rcases q with ⟨k,e⟩ | ⟨k,c,e,z⟩
    ·refine .inl ⟨k, ?_⟩;have:y ≠ x:=λe=>hj (uk hN e1 (e ▸ hi));simp[this,e]
    ·exact .inr ⟨k,c,e,z.sameBut hs (cne y c e)⟩
  ·obtain⟨w',z⟩:=I.cell y c e;exact⟨w',z.sameBut hs (cne y c e)⟩
  ·obtain⟨e,n,ne,nf,d⟩:=I.pin p hp;exact⟨(hs.2 p.1 ne).trans e,n,ne,nf,d⟩
 ·have hfn:X.fn x=true:=by
   rcases hf with z | z
   ·exact z
   ·rw[z]at hk;cases hk
  obtain⟨c,hc⟩:=I.ok.has x (.inl hk);obtain⟨w',z⟩:=I.cell x c hc;refine wpAny_storeName_cell I.ok.kind hk hc z (λh' hc' hs=> ?_);obtain⟨oc,hoc,hocd⟩:=id z;refine h _ ⟨I.ok,I.os,I.bare,⟨λb o e n hb hx=> ?_,λb o e n hb hx=> ?_,I.base.free,λb o e hx=> ?_,I.base.tups,I.base.frzs,I.base.tbls⟩,⟨m,hn.sameBut hs (aX (cne x c hc)),λj y v' e1 e2 e3=> ?_⟩,λy c' e=> ?_,I.free,I.freeC,λp hp=> ?_,tracked ⟨oc,hoc,I.freeC x c hc⟩ hs,by simpa using I.len⟩ ⟨c,hs,.inr hc⟩
  ·exact(hs.2 b (aE (aG (ao e) (I.ok.cab x c hfn hc)))).trans (I.base.keep b o e n hb hx)
  ·obtain⟨sl,e1⟩:=I.base.slot b o e n hb hx;exact⟨sl,(hs.2 b (aE (aG (ao e) (I.ok.cab x c hfn hc)))).trans e1⟩
  ·obtain⟨o',e1⟩:=I.base.there b o e hx;exact⟨o',(hs.2 b (aE (aG (ao e) (I.ok.cab x c hfn hc)))).trans e1⟩
  ·by_cases hj:j=i
   ·subst hj;rw[hi]at e1;cases e1;rw[aU hiσ]at e2;cases e2;exact⟨u,r,.inr ⟨.inl hk,c,hc,hc'⟩⟩
   ·rw[ay (aX hj)]at e2;obtain⟨u',r',q⟩:=hl j y v' e1 e2 e3;refine⟨u',r', ?_⟩;rcases q with q | ⟨k,c',e,z'⟩
    ·exact .inl q
    ·refine .inr ⟨k,c',e,z'.sameBut hs ?_⟩
     rintro rfl
     exact hj (uk hN e1 (I.ok.inj _ _ _ e hc ▸ hi))
  ·by_cases hcc:c' =c
   ·subst hcc;exact⟨_,hc'⟩
   ·obtain⟨w2,z2⟩:=I.cell y c' e;exact⟨w2,z2.sameBut hs hcc⟩
  ·obtain⟨e,n,ne,nf,d⟩:=I.pin p hp;refine⟨(hs.2 p.1 ?_).trans e,n,ne,nf,d⟩;intro q;rw[q,hoc]at e;have q' :=aq e;exact d w' (by rw[← q'];exact hocd)
theorem ul {Q:Unit->Shared->Prop}(I:Inv X pins σ H s)(hN:X.N.Nodup)(hi:X.N[i]? =some x)(hx:Loc X.env.scope x)(r:Za v u)
  (h:∀s',Inv X pins (σ.set i (some v)) H s' ->Q () s') (hf:X.fn x=true\/X.env.scope.names.lookup x=some .local:=by first | exact .inl rfl | exact .inr rfl | assumption):wpAny M A (storeName X.env x u) Q E s:=
 W5 I hN hi hx r (λs' I' _=>h s' I') hf
theorem Inv.call' (I:Inv X pins σ H s)(ho:s'.os=s.os)(u:Un (frs X.stack) ch H H' s.heap s'.heap)(hok:HOk X.prog X.w H' s'.heap)(hg:AllBare s'.gens)
  (hch:∀b∈ch,(b∈X.ex\/X.s₀.heap.objs.size<=b)/\b ≠ X.env.locals/\(∀x c,X.env.cells.lookup x=some c->c ≠ b)/\∀p∈X.pn++pins,p.1 ≠ b):Inv X pins σ H' s' :=by
 obtain⟨h',g',d',t',o'⟩:=s';have e:=ho;subst e;exact I.call u hok hg hch
end
abbrev XK:=Value->Option Addr->Hp->Prop
noncomputable abbrev St:=List (Option V)
abbrev VK:=V->Hp->Prop
abbrev TE:=St->Hp->VK->Prop
abbrev TT:=St->Hp->(Bool->Hp->Prop)->Prop
abbrev TA:=St->Hp->(List V->Hp->Prop)->Prop
structure Q2 where
 nx:St->Hp->Prop
 rt:VK
 bk:St->Hp->Prop:=λ_ _=>False
 ct:St->Hp->Prop:=λ_ _=>False
abbrev TS:=Q2->St->Hp->Prop
def EP (X:Cx)(pins:List (Addr×Obj))(σ:St)(Q:VK)(u:Value)(s' :Shared):Prop:=∃v H',Inv X pins σ H' s' /\Za v u/\Q v H'
def TP (X:Cx)(pins:List (Addr×Obj))(σ:St)(Q:Bool->Hp->Prop)(b:Bool)(s' :Shared):Prop:=∃H',Inv X pins σ H' s' /\Q b H'
def AP (X:Cx)(pins:List (Addr×Obj))(σ:St)(Q:List V->Hp->Prop)(us:List Value)(s' :Shared):Prop:=∃vs H',Inv X pins σ H' s' /\zR vs us/\Q vs H'
def SP (X:Cx)(pins:List (Addr×Obj))(D:Q2)(f:Flow)(s' :Shared):Prop:=
 match f with
 | .next=>∃σ' H',Inv X pins σ' H' s' /\D.nx σ' H'
 | .brk=>∃σ' H',Inv X pins σ' H' s' /\D.bk σ' H'
 | .cont=>∃σ' H',Inv X pins σ' H' s' /\D.ct σ' H'
 | .ret u=>∃v σ' H',Inv X pins σ' H' s' /\Za v u/\D.rt v H'
def PE (X:Cx)(e:Expr)(t:TE):Prop:=
 ∀(pins:List (Addr×Obj)) (s:Shared) (σ:St) (H:Hp) (Q:VK),Inv X pins σ H s->t σ H Q->wpAny (model X.prog X.w) X.A (eval e X.env) (EP X pins σ Q) X.xe s
def PT (X:Cx)(e:Expr)(t:TT):Prop:=
 ∀(pins:List (Addr×Obj)) (s:Shared) (σ:St) (H:Hp) (Q:Bool->Hp->Prop),Inv X pins σ H s->t σ H Q->wpAny (model X.prog X.w) X.A (isTrue e X.env (eval e X.env)) (TP X pins σ Q) X.xe s
def PW (X:Cx)(e:Expr)(t:TT):Prop:=
 ∀(whole:Sem Value) (pins:List (Addr×Obj)) (s:Shared) (σ:St) (H:Hp) (Q:Bool->Hp->Prop),Inv X pins σ H s->t σ H Q->wpAny (model X.prog X.w) X.A (isTrue e X.env whole) (TP X pins σ Q) X.xe s
theorem PW.pt (h:PW X e t):PT X e t:=h _
def PA (X:Cx)(es:List Expr)(t:TA):Prop:=
 ∀(pos:Pos) (pins:List _) (s:Shared) (σ:St) (H:Hp) (Q:List V->Hp->Prop),Inv X pins σ H s->t σ H Q->wpAny (model X.prog X.w) X.A (spliced (backTo pos (starEach es X.env))) (AP X pins σ Q) X.xe s
def PS (X:Cx)(st:Stmt)(t:TS):Prop:=
 ∀(pins:List (Addr×Obj)) (s:Shared) (σ:St) (H:Hp) (D:Q2),Inv X pins σ H s->t D σ H->wpAny (model X.prog X.w) X.A (exec st X.env) (SP X pins D) X.xe s
def PSs (X:Cx)(st:List Stmt)(t:TS):Prop:=
 ∀(pins:List (Addr×Obj)) (s:Shared) (σ:St) (H:Hp) (D:Q2),Inv X pins σ H s->t D σ H->wpAny (model X.prog X.w) X.A (execs st X.env) (SP X pins D) X.xe s
theorem thn {α:Type}{t:Sem α}{Q Q' :α->Shared->Prop}(h:wpAny M A t Q E s)(hQ:∀a s,Q a s->Q' a s):wpAny M A t Q' E s:=cW h hQ λ_ _ x=>x
end L2
namespace L2
open PySem PySem.Spec PyProof.Rows
section
theorem bin (ha:PE X a ta)(hb:PE X b tb){R:V->V->Hp->Prop}(I:Inv X pins σ H s)(h:ta σ H λx H1=>tb σ H1 λy H2=>R x y H2)
  {α:Type} {Q:α->Shared->Prop} {f:Value->Value->Sem α}
  (hf:∀v u s2 x y H2,Inv X pins σ H2 s2->Za x v->Za y u->R x y H2->wpAny (model X.prog X.w) X.A (f v u) Q X.xe s2):
  wpAny (model X.prog X.w) X.A (eval a X.env) (λv s₁=>wpAny (model X.prog X.w) X.A (eval b X.env) (λu s₂=>wpAny (model X.prog X.w) X.A (f v u) Q X.xe s₂) X.xe s₁) X.xe s:=by
 refine thn (ha _ s σ H _ I h) λv s1 ⟨x,H1,I1,r1,q1⟩=> ?_;refine thn (hb _ s1 σ H1 _ I1 q1) λu s2 ⟨y,H2,I2,r2,q2⟩=> ?_;exact hf v u s2 x y H2 I2 r1 r2 q2
def jK (i:Nat):TE:=λσ H Q=>∃v,σ[i]? =some (some v)/\Q v H
def tC (v:V):TE:=λ_ H Q=>Q v H
theorem W6 (hN:X.N[i]? =some x)(hv:Vis X.env.scope x)(hd:(x == ("__debug__":Str))=false:=by decide)(hcd:(x == ("__classdict__":Str))=false:=by decide):PE X (.Name x pos) (jK i):=by
 intro pins s σ H Q I h;obtain⟨v,e,h⟩:=h;obtain⟨m,hn,hl⟩:=I.loc;obtain⟨u,r,l⟩:=hl i x v hN e hv;have fin:EP X _ σ Q u s:=⟨v,H,I,r,h⟩;rcases l with ⟨hk,hm⟩ | ⟨hk,c,hc,hcell⟩
 ·exact wpAny_Name (wpAny_loadName_local I.ok.kind hk hn hm fin) hd
 ·rcases hk with hk | hk
  ·exact wpAny_Name (wpAny_loadName_cell I.ok.kind hk hc hcell fin) hd
  ·exact wpAny_Name (wpAny_loadName_free I.ok.kind hk hc hcell fin hcd) hd
theorem vw {i j pos}:PE X (.Constant (.int i) j pos) (tC (.int i)):=λ_ _ _ H _ I h=>wpAny_Constant_int ⟨.int i,H,I.tok _,⟨_,rfl⟩,h⟩
theorem XU {b j pos}:PE X (.Constant (.bool b) j pos) (tC (.bl b)):=λ_ _ _ H _ I h=>Constant_bool ⟨.bl b,H,I,rfl,h⟩
theorem XV {j pos}:PE X (.Constant .none j pos) (tC .non):=λ_ _ _ H _ I h=>Constant_none ⟨.non,H,I,rfl,h⟩
theorem ym {x j pos}:PE X (.Constant (.str x) j pos) (tC (.str x)):=λ_ _ _ H _ I h=>Calls.Constant_str ⟨.str x,H,I.tok _,⟨_,rfl⟩,h⟩
noncomputable def Gl (X:Cx)(x:Str):Prop:=X.env.kindOf x=some .globalImplicit
theorem Jl (I:Inv X pins σ H s)(hg:Gl X x)(hm:X.mg x=some u)(h:Q u s)
  (hd:(x == ("__debug__":Str))=false:=by decide):wpAny (model X.prog X.w) X.A (eval (.Name x pos) X.env) Q E s:=
 du I.ok.kind hg (Calls.loadGlobal_global (by rw[I.ok.glob];exact I.mod.glob.keeps I.bk) hm h) hd
theorem ZW (I:Inv X pins σ H s)(hg:Gl X x)(hm:X.mg x=none)(hv:bootBuiltins x=some u)(h:Q u s)
  (hn:x ≠ "__name__":=by decide) (hd:(x == ("__debug__":Str))=false:=by decide):wpAny (model X.prog X.w) X.A (eval (.Name x pos) X.env) Q E s:=by
 obtain⟨mb,h1,h2⟩:=I.mod.blt;exact du I.ok.kind hg (Calls.loadGlobal_builtin (by rw[I.ok.glob];exact I.mod.glob.keeps I.bk) hm (by rw[I.ok.blt];exact h1.keeps I.bk) ((h2 x hn).trans hv) h) hd
theorem Vm (hg:Gl X x)(hm:X.mg x=some u)(r:Za v u)(hd:(x == ("__debug__":Str))=false:=by decide):PE X (.Name x pos) (tC v):=
 λ_ _ _ H _ I h=>Jl I hg hm ⟨v,H,I,r,h⟩ hd
theorem wt (hg:Gl X x)(hm:X.mg x=none)(hv:bootBuiltins x=some u)(r:Za v u)(hn:x ≠ "__name__":=by decide)(hd:(x == ("__debug__":Str))=false:=by decide):PE X (.Name x pos) (tC v):=
 λ_ _ _ H _ I h=>ZW I hg hm hv ⟨v,H,I,r,h⟩ hn hd
variable {tA tB' :TT}{rest:List Expr}
def tAnd (t u:TT):TT:=λσ H Q=>t σ H λc H1=>if c=true then u σ H1 Q else Q false H1
def tOr (t u:TT):TT:=λσ H Q=>t σ H λc H1=>if c=true then Q true H1 else u σ H1 Q
def tNot (t:TT):TT:=λσ H Q=>t σ H λc H1=>Q (!c) H1
theorem Vn (ha:PT X a tA):PW X (.BoolOp .And [a] pos) tA:=by
 intro wh pins s σ H Q I h;refine isTrue_and (thn (ha _ s σ H Q I h) λc s1 e=> ?_);cases c with
 | true=>exact isTrue_and_nil e
 | false=>exact e
theorem XW (ha:PT X a tA):PW X (.BoolOp .Or [a] pos) tA:=by
 intro wh pins s σ H Q I h;refine isTrue_or (thn (ha _ s σ H Q I h) λc s1 e=> ?_);cases c with
 | false=>exact isTrue_or_nil e
 | true=>exact e
theorem XX (ha:PT X a tA)(hb:PW X (.BoolOp .And (b :: rest) pos) tB'):PW X (.BoolOp .And (a :: b :: rest) pos) (tAnd tA tB'):=by
 intro wh pins s σ H Q I h;refine isTrue_and (thn (ha _ s σ H _ I h) λc s1 ⟨H1,I1,q1⟩=> ?_);cases c with
 | true=>exact hb wh _ s1 σ H1 Q I1 q1
 | false=>exact⟨H1,I1,q1⟩
theorem GL (ha:PT X a tA)(hb:PW X (.BoolOp .Or (b :: rest) pos) tB'):PW X (.BoolOp .Or (a :: b :: rest) pos) (tOr tA tB'):=by
 intro wh pins s σ H Q I h;refine isTrue_or (thn (ha _ s σ H _ I h) λc s1 ⟨H1,I1,q1⟩=> ?_);cases c with
 | true=>exact⟨H1,I1,q1⟩
 | false=>exact hb wh _ s1 σ H1 Q I1 q1
theorem vx (ha:PT X a tA):PT X (.UnaryOp .Not a pos) (tNot tA):=by
 intro pins s σ H Q I h;exact isTrue_not (ha _ s σ H (λc H1=>Q _ H1) I h)
def GM (ta tb:TE):TE:=λσ H Q=>ta σ H λx H1=>∃c,x= .bl c/\if c=true then tb σ H1 Q else Q (.bl false) H1
def tOrV (ta tb:TE):TE:=λσ H Q=>ta σ H λx H1=>∃c,x= .bl c/\if c=true then Q (.bl true) H1 else tb σ H1 Q
def GN (ta:TE):TE:=λσ H Q=>ta σ H λx H1=>∃c,x= .bl c/\Q (.bl (!c)) H1
theorem XY {op}(h:PE X a t):PE X (.BoolOp op [a] pos) t:=λpins s σ H Q I hw=>BoolOp_one (h _ s σ H Q I hw)
theorem XZ (ha:PE X a ta)(hb:PE X (.BoolOp .And (b :: rest) pos) tb):PE X (.BoolOp .And (a :: b :: rest) pos) (GM ta tb):=by
 intro pins s σ H Q I h;refine BoolOp_and (thn (ha _ s σ H _ I h) λv s1 ⟨x,H1,I1,r1,q1⟩=> ?_);obtain⟨c,rfl,q1⟩:=q1;cases r1;refine b9 ?_;cases c with
 | true=>exact hb _ s1 σ H1 Q I1 q1
 | false=>exact⟨.bl _,H1,I1,rfl,q1⟩
theorem GO (ha:PE X a ta)(hb:PE X (.BoolOp .Or (b :: rest) pos) tb):PE X (.BoolOp .Or (a :: b :: rest) pos) (tOrV ta tb):=by
 intro pins s σ H Q I h;refine BoolOp_or (thn (ha _ s σ H _ I h) λv s1 ⟨x,H1,I1,r1,q1⟩=> ?_);obtain⟨c,rfl,q1⟩:=q1;cases r1;refine b9 ?_;cases c with
 | false=>exact hb _ s1 σ H1 Q I1 q1
 | true=>exact⟨.bl _,H1,I1,rfl,q1⟩
theorem k0 (ha:PE X a ta):PE X (.UnaryOp .Not a pos) (GN ta):=by
 intro pins s σ H Q I h;refine UnaryOp_ (thn (ha _ s σ H _ I h) λv s1 ⟨x,H1,I1,r1,q1⟩=> ?_);obtain⟨c,rfl,q1⟩:=q1;cases r1;exact not_of (b9 ⟨.bl _,H1,I1,rfl,q1⟩)
def tIf (t:TT)(ta tb:TE):TE:=λσ H Q=>t σ H λc H1=>if c=true then ta σ H1 Q else tb σ H1 Q
theorem Qd (hc:PT X c tA)(ha:PE X a ta)(hb:PE X b tb):PE X (.IfExp c a b pos) (tIf tA ta tb):=by
 intro pins s σ H Q I h;refine wpAny_IfExp (thn (hc _ s σ H _ I h) λd s1 ⟨H1,I1,q1⟩=> ?_);cases d with
 | true=>exact ha _ s1 σ H1 Q I1 q1
 | false=>exact hb _ s1 σ H1 Q I1 q1
end
end L2
namespace L2
open PySem PySem.Spec PyProof.Rows
def SqL (K:a9)(H:Hp)(a:Addr)(xs:List V):Prop:=
 Rd H a (.lst xs)\/
  ∃(o:Obj) (its:Array Value) (n:Nat),K.lookup a=some o/\o.cls= .type "list"/\o.dict=none/\o.data= .seq its n/\its.size<=sizeLine/\zR xs its.toList
def SqT (K:a9)(H:Hp)(a:Addr)(xs:List V):Prop:=
 Rd H a (.tup xs)\/
  ∃(o:Obj) (its:Array Value) (n:Nat),K.lookup a=some o/\o.cls= .type "tuple"/\o.data= .seq its n/\its.size<=sizeLine/\zR xs its.toList
noncomputable def absV:Value->Option V
 | .none=>some .non
 | .bool b=>some (.bl b)
 | .int i _=>some (.int i)
 | .str x _=>some (.str x)
 | .bytes b _=>some (.byt b)
 | .float b _=>some (.flt b)
 | .ref a=>some (.ref a)
 | .type n=>some (.ty n)
 | _=>none
theorem Za.abs (r:Za x u):absV u=some x:=by
 cases x with
 | non=>cases r;rfl
 | bl _=>cases r;rfl
 | int _=>obtain⟨t,rfl⟩:=r;rfl
 | str _=>obtain⟨t,rfl⟩:=r;rfl
 | byt _=>obtain⟨t,rfl⟩:=r;rfl
 | flt _=>obtain⟨t,rfl⟩:=r;rfl
 | ref _=>cases r;rfl
 | ty _=>cases r;rfl
theorem Za.inj (r:Za x u)(q:Za y u):x=y:=aq (r.abs.symm.trans q.abs)
theorem zR.inj:∀{xs ys:List V} {us:List Value},zR xs us->zR ys us->xs=ys
 | _,_,_,.nil,.nil=>rfl
 | _,_,_,.cons r t,.cons r' t' =>by rw[r.inj r',zR.inj t t']
section
variable {X:Cx}{pins:List (Addr×Obj)}{σ:St}{H:Hp}{s:Shared}{a:Addr}{xs ys:List V}
theorem SqL.of {K:a9}(h:H a=some (.lst xs)):SqL K H a xs:= .inl (.inl h)
theorem SqT.of {K:a9}(h:H a=some (.tup xs)):SqT K H a xs:= .inl (.inl h)
theorem Inv.list (I:Inv X pins σ H s)(h:SqL X.K H a xs):∃its:List Value,zR xs its/\PlainL s.heap a its.toArray/\xs.length<=sizeLine:=by
 rcases h with h | ⟨o,its,n,hk,hc,hd,hs,hz,r⟩
 ·obtain⟨z,its,n,r,e⟩:=h.ok I.hok;exact⟨its,r,⟨_,n,e,rfl,rfl,rfl⟩,z⟩
 ·refine⟨its.toList,r,⟨o,n,I.kIn a o hk,hc,hd,by simpa using hs⟩, ?_⟩
  have e:=r.length;simp only[dj]at e;omega
theorem Inv.tuple (I:Inv X pins σ H s)(h:SqT X.K H a xs):∃its:List Value,zR xs its/\IsTup s.heap a its.toArray/\xs.length<=sizeLine:=by
 rcases h with h | ⟨o,its,n,hk,hc,hs,hz,r⟩
 ·obtain⟨z,its,r,p,_⟩:=h.ok I.hok;exact⟨its,r,p,z⟩
 ·refine⟨its.toList,r,⟨o,I.kIn a o hk,hc,n,by simpa using hs⟩, ?_⟩
  have e:=r.length;simp only[dj]at e;omega
theorem Inv.list_inj (I:Inv X pins σ H s)(h:SqL X.K H a xs)(h' :SqL X.K H a ys):xs=ys:=by
 obtain⟨its,r,⟨o,n,e,_,_,d⟩,_⟩:=I.list h;obtain⟨its',r',⟨o',n',e',_,_,d'⟩,_⟩:=I.list h';rw[e]at e';cases e';rw[d]at d';injection d' with d1 _;have:=by simpa using congrArg Array.toList d1
 subst this;exact r.inj r'
theorem Inv.tuple_inj (I:Inv X pins σ H s)(h:SqT X.K H a xs)(h' :SqT X.K H a ys):xs=ys:=by
 obtain⟨its,r,⟨o,e,_,n,d⟩,_⟩:=I.tuple h;obtain⟨its',r',⟨o',e',_,n',d'⟩,_⟩:=I.tuple h';rw[e]at e';cases e';rw[d]at d';injection d' with d1 _;have:=by simpa using congrArg Array.toList d1
 subst this;exact r.inj r'
end
noncomputable abbrev Cx.wish (X:Cx)(E:Value->Shared->Prop):Cx:={ X with xe:=E }
abbrev Cx.nox (X:Cx):Cx:=X.wish λ_ _=>False
theorem Cx.Ok.wish {X:Cx}(ok:X.Ok)(E:Value->Shared->Prop):(X.wish E).Ok:=
 ⟨ok.mod,ok.kind,ok.glob,ok.blt,ok.above,ok.inj,ok.has,ok.cab,ok.hd,ok.frames,ok.stk,ok.exf,ok.bs,ok.bsz,ok.noex,ok.exfs,ok.funs,ok.frf⟩
theorem Cx.Ok.unwish {X:Cx}{E:Value->Shared->Prop}(ok:(X.wish E).Ok):X.Ok:=
 ⟨ok.mod,ok.kind,ok.glob,ok.blt,ok.above,ok.inj,ok.has,ok.cab,ok.hd,ok.frames,ok.stk,ok.exf,ok.bs,ok.bsz,ok.noex,ok.exfs,ok.funs,ok.frf⟩
section
variable {X:Cx}{pins:List (Addr×Obj)}{σ:St}{H:Hp}{s:Shared}{E:Value->Shared->Prop}
theorem Inv.wish (I:Inv X pins σ H s)(E:Value->Shared->Prop):Inv (X.wish E) pins σ H s:=⟨I.ok.wish E,I.os,I.bare,I.base,I.loc,I.cell,I.free,I.freeC,I.pin,I.hok,I.len⟩
theorem Inv.unwish (I:Inv (X.wish E) pins σ H s):Inv X pins σ H s:=⟨I.ok.unwish,I.os,I.bare,I.base,I.loc,I.cell,I.free,I.freeC,I.pin,I.hok,I.len⟩
theorem SP.unwish {D:Q2}{f:Flow}(h:SP (X.wish E) pins D f s'):SP X pins D f s' :=by
 cases f with
 | next=>obtain⟨σ',H',I,q⟩:=h;exact⟨σ',H',I.unwish,q⟩
 | brk=>obtain⟨σ',H',I,q⟩:=h;exact⟨σ',H',I.unwish,q⟩
 | cont=>obtain⟨σ',H',I,q⟩:=h;exact⟨σ',H',I.unwish,q⟩
 | ret u=>obtain⟨v,σ',H',I,r,q⟩:=h;exact⟨v,σ',H',I.unwish,r,q⟩
theorem PSs.nox {st:List Stmt}{t:TS}(h:PSs X.nox st t):PSs X st t:=λpins s σ H D I hw=>
 cW (h _ s σ H D (I.wish _) hw) (λ_ _ q=>q.unwish) λ_ _ z=>bj z
end
section
variable {X:Cx}{st:Stmt}{rest:List Stmt}{t u:TS}{e:Expr}{te:TE}{pos:Pos}
def GP:TS:=λD σ H=>D.nx σ H
def tSeq (t u:TS):TS:=λD σ H=>t { D with nx:=u D } σ H
theorem WS:PSs X [] GP:=λ_ _ σ H _ I h=>wpAny_execs_nil ⟨σ,H,I,h⟩
theorem j9 (h1:PS X st t)(h2:PSs X rest u):PSs X (st :: rest) (tSeq t u):=by
 intro pins s σ H D I h;refine wpAny_execs_cons (thn (h1 _ s σ H _ I h) λf s1 q=> ?_);cases f with
 | next=>
  obtain⟨σ',H',I',q⟩:=q;exact h2 _ s1 σ' H' D I' q
 | ret v=>exact q
 | brk=>exact q
 | cont=>exact q
theorem wu (h1:PS X st t):PSs X [st] t:=by
 intro pins s σ H D I h;refine wpAny_execs_cons (thn (h1 _ s σ H D I h) λf s1 q=> ?_);cases f with
 | next=>exact wpAny_execs_nil q
 | ret v=>exact q
 | brk=>exact q
 | cont=>exact q
theorem Inv.quiet (I:Inv X pins σ H s):interactive X.env=false:=by simp[interactive,I.ok.kind]
def GQ (te:TE):TS:=λD σ H=>te σ H λ_ H1=>D.nx σ H1
theorem jL (he:PE X e te)(hs:swapsWith e none pos.line X.env=pure false:=by rfl):PS X (.Expr e pos) (GQ te):=by
 intro pins s σ H D I h;exact wpAny_Expr_any (thn (he _ s σ H _ I h) λv s1 ⟨x,H1,I1,r1,q1⟩=>⟨σ,H1,I1,q1⟩) I.quiet hs
def tRet (te:TE):TS:=λD σ H=>te σ H D.rt
theorem jY (he:PE X e te):PS X (.Return (some e) pos) (tRet te):=by
 intro pins s σ H D I h;exact wpAny_Return_some (thn (he _ s σ H _ I h) λv s1 ⟨x,H1,I1,r1,q1⟩=>⟨x,σ,H1,I1,r1,q1⟩)
def tIfS (c:TT)(t u:TS):TS:=λD σ H=>c σ H λb H1=>if b=true then t D σ H1 else u D σ H1
theorem k3 (hc:PT X c tc)(ha:PSs X a t)(hb:PSs X b u):PS X (.If c a b pos) (tIfS tc t u):=by
 intro pins s σ H D I h;refine wpAny_If (thn (hc _ s σ H _ I h) λd s1 ⟨H1,I1,q1⟩=> ?_);cases d with
 | true=>exact ha _ s1 σ H1 D I1 q1
 | false=>exact hb _ s1 σ H1 D I1 q1
end
abbrev TG:=V->St->Hp->(St->Hp->Prop)->Prop
abbrev TGs:=List V->St->Hp->(St->Hp->Prop)->Prop
def PG (X:Cx)(target:Expr)(t:TG):Prop:=
 ∀(pins:List (Addr×Obj)) (s:Shared) (σ:St) (H:Hp) (v:V) (u:Value) (Q:St->Hp->Prop),Inv X pins σ H s->Za v u->t v σ H Q->
  wpAny (model X.prog X.w) X.A (assign target X.env u) (λ_ s' =>∃σ' H',Inv X pins σ' H' s' /\Q σ' H') X.xe s
def PGs (X:Cx)(ts:List Expr)(t:TGs):Prop:=
 ∀(pins:List (Addr×Obj)) (s:Shared) (σ:St) (H:Hp) (vs:List V) (us:List Value) (Q:St->Hp->Prop),Inv X pins σ H s->zR vs us->t vs σ H Q->
  wpAny (model X.prog X.w) X.A (assignInOrder ((assignEach ts X.env).map (·.2)) us) (λ_ s' =>∃σ' H',Inv X pins σ' H' s' /\Q σ' H') X.xe s
abbrev GR:=V->V->V->Hp->(Hp->Prop)->Prop
def PSet (X:Cx)(t:GR):Prop:=
 ∀(pins:List (Addr×Obj)) (s:Shared) (σ:St) (H:Hp) (o i v:V) (ov iv u:Value) (Q:Hp->Prop),Inv X pins σ H s->Za o ov->Za i iv->Za v u->t o i v H Q->
  wpAny (model X.prog X.w) X.A (setItem ov iv u) (λ_ s' =>∃H',Inv X pins σ H' s' /\Q H') X.xe s
section
def JL (i:Nat):TG:=λv σ H Q=>Q (σ.set i (some v)) H
theorem ZE (hN:X.N.Nodup)(hi:X.N[i]? =some x)(hx:Loc X.env.scope x)(hf:X.fn x=true\/X.env.scope.names.lookup x=some .local:=by first | exact .inl rfl | exact .inr rfl | assumption):PG X (.Name x pos) (JL i):=by
 intro pins s σ H v u Q I r h;exact wpAny_assign_Name (ul I hN hi hx r (λs' I' =>⟨_,H,I',h⟩) hf)
def GS:TGs:=λvs σ H Q=>vs=[]/\Q σ H
def yn (t:TG)(u:TGs):TGs:=λvs σ H Q=>∃v r,vs=v :: r/\t v σ H λσ' H' =>u r σ' H' Q
theorem WT:PGs X [] GS:=by
 intro pins s σ H vs us Q I r h;obtain⟨e,h⟩:=h;exact assignInOrder_nil ⟨σ,H,I,h⟩
theorem ZR {u:TGs}(h1:PG X e t)(h2:PGs X es u)
  (hs:(assignEach (e :: es) X.env).map (·.2)=assign e X.env :: (assignEach es X.env).map (·.2):=by rfl):PGs X (e :: es) (yn t u):=by
 intro pins s σ H vs us Q I r h;obtain⟨v,vr,e1,h⟩:=h;subst e1;cases r with
 | cons r rr=>
  rw[hs];refine assignInOrder_cons (thn (h1 _ s σ H _ _ _ I r h) λ_ s1 ⟨σ1,H1,I1,q1⟩=> ?_);exact h2 _ s1 σ1 H1 _ _ Q I1 rr q1
def Gc (K:a9)(n:Nat)(t:TGs):TG:=λv σ H Q=>∃a xs,v= .ref a/\SqT K H a xs/\xs.length=n/\t xs σ H Q
theorem yo {t:TGs}(hc:X.calm=true)(h:PGs X es t)
  (hn:(assignEach es X.env).length=n:=by rfl) (hst:(assignEach es X.env).findIdx? (·.1)=none:=by rfl):PG X (.Tuple es k pos) (Gc X.K n t):=by
 intro pins s σ H v u Q I r hw;obtain⟨a,xs,e1,hq,hl,hw⟩:=hw;subst e1;cases r;obtain⟨its,rv,ht,hz⟩:=I.tuple hq;refine assign_Tuple_tuple (I.ok.hd hc) ht (by simp[hn,← hl,rv.length]) hst λh' hx=> ?_
 have I1:Inv X _ σ H { s with heap:=h' }:=I.kept λb o e=>hx b o (aE (ao e)) e;exact h _ _ σ H xs _ Q I1 (by simpa using rv) hw
def gSub (to ti:TE)(t:GR):TG:=λv σ H Q=>to σ H λo H1=>ti σ H1 λi H2=>t o i v H2 λH3=>Q σ H3
theorem k6 {t:GR}(ho:PE X o to)(hi:PE X i ti)(hs:PSet X t)
  (ha:∀v,assign (.Subscript o i pos) X.env v=(do
   let ov ← holding [v] (eval o X.env)
   let iv ← holding [v,ov] (eval i X.env)
   standAt pos
   holding [v,ov,iv] (setItem ov iv v)
   release [v,ov,iv] []):=by intro _;rfl):PG X (.Subscript o i pos) (gSub to ti t):=by
 intro pins s σ H v u Q I r h;refine a7 (bW (thn (ho _ s σ H _ I h) λov s1 ⟨x,H1,I1,r1,q1⟩=> ?_));refine a7 (bW (thn (hi _ s1 σ H1 _ I1 q1) λiv s2 ⟨y,H2,I2,r2,q2⟩=> ?_));refine a7 (wpAny_standAt (a7 (bW (thn (hs _ s2 σ H2 x y v ov iv u _ I2 r1 r2 r q2) λ_ s3 ⟨H3,I3,q3⟩=> ?_))));exact wpAny_release ⟨σ,H3,I3,q3⟩
def tAsg (te:TE)(g:TG):TS:=λD σ H=>te σ H λx H1=>g x σ H1 D.nx
theorem vy (he:PE X e te)(hg:PG X tg g)(hs:swapsWithSole [tg] e pos.line X.env=pure false:=by rfl)(hw:swappedStores [tg] e X.env=pure none:=by rfl)
  (h1:(assignEach [tg] X.env).map (·.2)=[assign tg X.env]:=by rfl):PS X (.Assign [tg] e pos) (tAsg te g):=by
 intro pins s σ H D I h;refine wpAny_Assign_stores (thn (he _ s σ H _ I h) λv s1 ⟨x,H1,I1,r1,q1⟩=> ?_) hs hw;rw[h1];exact thn (hg _ s1 σ H1 x v _ I1 r1 q1) λ_ s2 q=>q
theorem JR (hN:X.N.Nodup)(hi:X.N[i]? =some x)(hx:Loc X.env.scope x)(he:PE X e te)(hs:swapsWith e (some (.Name x pos')) pos.line X.env=pure false:=by rfl)(hf:X.fn x=true\/X.env.scope.names.lookup x=some .local:=by first | exact .inl rfl | exact .inr rfl | assumption):
  PS X (.Assign [.Name x pos'] e pos) (tAsg te (JL i)):=by
 intro pins s σ H D I h;refine wpAny_Assign_Name (thn (he _ s σ H _ I h) λv s1 ⟨y,H1,I1,r1,q1⟩=> ?_) hs;exact ul I1 hN hi hx r1 (λs2 I2=>⟨_,H1,I2,q1⟩) hf
end
section
def k7 (c:TT)(tb:TS):TS:=λD σ H=>∃W:Nat->St->Hp->Prop,(∃m,W m σ H)/\∀m σ H,W m σ H->
 c σ H λb H1=>if b=true then ∃N:St->Hp->Prop,(∀σ' H',N σ' H' ->∃m',m' < m/\W m' σ' H')/\tb { D with nx:=N,ct:=N,bk:=D.nx } σ H1 else D.nx σ H1
theorem Qe (hp:PassesOwn (model X.prog X.w) X.A X.env X.xe)(hc:PT X c tc)(hb:PSs X body tb):PS X (.While c body [] pos) (k7 tc tb):=by
 intro pins s σ H D I h;obtain⟨W,⟨m0,w0⟩,turn⟩:=h;refine wpAny_While (codeAny_whileLoop (λn s' =>∃σ' H',Inv X _ σ' H' s' /\W n σ' H') ?_ m0 ⟨σ,H,I,w0⟩)
 rintro n s1 ⟨σ1,H1,I1,w1⟩
 refine bR hp (thn (hc _ s1 σ1 H1 _ I1 (turn n σ1 H1 w1)) λb s2 ⟨H2,I2,q2⟩=> ?_);cases b with
 | true=>
  obtain⟨N,hN,q2⟩:=q2;refine bR hp (thn (hb _ s2 σ1 H2 _ I2 q2) λf s3 q3=> ?_);cases f with
  | next=>
   obtain⟨σ3,H3,I3,n3⟩:=q3;obtain⟨m',hm,w3⟩:=hN σ3 H3 n3;exact⟨m',hm,σ3,H3,I3,w3⟩
  | cont=>
   obtain⟨σ3,H3,I3,n3⟩:=q3;obtain⟨m',hm,w3⟩:=hN σ3 H3 n3;exact⟨m',hm,σ3,H3,I3,w3⟩
  | brk=>exact q3
  | ret v=>exact q3
 | false=>
  exact wpAny_execs_nil ⟨σ1,H2,I2,q2⟩
end
structure It where
 go:Nat->Hp->Prop
 yld:Nat->Hp->V->Hp->Prop
 stop:Nat->Hp->Prop
def JS (X:Cx)(pins:List (Addr×Obj))(H:Hp)(b:Addr):Prop:=
 H b=none/\b ≠ X.env.locals/\b ∉ X.fs/\(b∈X.ex\/X.s₀.heap.objs.size<=b)/\(∀x c,X.env.cells.lookup x=some c->c ≠ b)/\∀p∈X.pn++pins,p.1 ≠ b
theorem Inv.fpOk (I:Inv X pins σ H s)(hb:s.heap.objs.size<=b)(hn:H' b=none):JS X pins H' b:=by
 refine⟨hn,cG (aG I.lt hb),I.nofs hb,.inr (aC I.sz hb),λx c e z=> ?_,λp hp z=> ?_⟩
 ·obtain⟨v,q⟩:=I.cell x c e;exact absurd (aG q.lt (by rw[z];exact hb)) (aY _)
 ·exact absurd (aG (ao (I.pin p hp).1) (by rw[z];exact hb)) (aY _)
structure Uj (P:Program) (w:World) (K:a9) (tg:Expr) (J:It) (fp:List Addr) (it:Addr) (tn:Nat->Heap->Prop):Prop where
 mem:it∈fp
 obj:∀i h,tn i h->∀b∈fp,∃o,h.get? b=some o/\∀v,o.data ≠ .cell v
 keep:∀i h h',tn i h->(∀b∈fp,∀o,h.get? b=some o->h'.get? b=some o)->tn i h'
 item:∀(X:Cx),X.prog=P->X.w=w->X.K=K->X.calm=true->∀(i:Nat) (pins:List (Addr×Obj)) (s:Shared) (σ:St) (H:Hp) (E:Value->Shared->Prop),Inv X pins σ H s->(∀b∈fp,JS X pins H b)->tn i s.heap->J.go i H->
  wpAny (model P w) X.A (pyNext (.ref it)) (λr s1=>∃u,r=some u/\
   wpAny (model P w) X.A (letOwnedTupleGo tg (.ref it) u) (λ_ s2=>∃x H',Inv X pins σ H' s2/\Za x u/\J.yld i H x H' /\tn (i+1) s2.heap/\∀b∈fp,H' b=none) E s1) E s
 done:∀(X:Cx),X.prog=P->X.w=w->X.K=K->X.calm=true->∀(i:Nat) (pins:List (Addr×Obj)) (s:Shared) (σ:St) (H:Hp) (E:Value->Shared->Prop),Inv X pins σ H s->(∀b∈fp,JS X pins H b)->tn i s.heap->J.stop i H->
  wpAny (model P w) X.A (pyNext (.ref it)) (λr s1=>r=none/\Inv X pins σ H s1) E s
 self:∀(A:Around) (i:Nat) (s:Shared) (Q:Value->Shared->Prop) (E:Value->Shared->Prop),tn i s.heap->Q (.ref it) s->wpAny (model P w) A (pyIter (.ref it)) Q E s
abbrev TI:=St->Hp->(It->Hp->Prop)->Prop
def PIE (X:Cx)(pins:List (Addr×Obj))(σ:St)(tg:Expr)(R:It->Hp->Prop)(itv:Value)(s2:Shared):Prop:=
 ∃(it:Addr) (fp:List Addr) (tn:Nat->Heap->Prop) (J:It) (H' :Hp),itv= .ref it/\Inv X pins σ H' s2/\Uj X.prog X.w X.K tg J fp it tn/\tn 0 s2.heap/\(∀b∈fp,JS X pins H' b)/\R J H'
def PI (X:Cx)(tg iter:Expr)(wi:TI):Prop:=
 ∀(pins:List (Addr×Obj)) (s:Shared) (σ:St) (H:Hp) (R:It->Hp->Prop),Inv X pins σ H s->wi σ H R->
  wpAny (model X.prog X.w) X.A (eval iter X.env) (λv s1=>wpAny (model X.prog X.w) X.A (pyIter v) (PIE X pins σ tg R) X.xe s1) X.xe s
theorem Uk {Q:Unit->Shared->Prop}(ho:s.heap.get? it=some o)(hc:o.cls= .type n)(hd:o.data= .fields vs)
  (hn:["enumerate","zip","dict_itemiterator","dict_reverseitemiterator","odict_iterator","itertools.zip_longest","itertools.pairwise"].contains n=false) (hQ:Q () s):wpAny M A (letOwnedTupleGo tg (.ref it) u) Q E s:=by
 cases tg <;> first
  | exact ax hQ
  | (cases u <;> first
    | exact ax hQ
    | (refine a7 (wpAny_load ho ?_);rw[hc,hd];show wpAny M A (if (["enumerate","zip","dict_itemiterator","dict_reverseitemiterator","odict_iterator","itertools.zip_longest","itertools.pairwise"].contains n && vs[0]? == some _)=true then _ else _) Q E s;rw[if_neg (by intro h;rw[hn]at h;cases h)];exact ax hQ))
def Itl (K:a9)(a:Addr):It:=
 ⟨λi H=>∃xs x,SqL K H a xs/\xs[i]? =some x,λi H x H' =>H' =H/\∀xs,SqL K H a xs->xs[i]? =some x,λi H=>∃xs,SqL K H a xs/\xs.length<=i⟩
def Itt (K:a9)(a:Addr):It:=
 ⟨λi H=>∃xs x,SqT K H a xs/\xs[i]? =some x,λi H x H' =>H' =H/\∀xs,SqT K H a xs->xs[i]? =some x,λi H=>∃xs,SqT K H a xs/\xs.length<=i⟩
noncomputable def Itr (lo:Int)(n:Nat):It:=⟨λi _=>i < n,λi H x H' =>H' =H/\x= .int (lo+i),λi _=>n<=i⟩
theorem yq {P:Program}{w:World}{K:a9}{tg:Expr}(a it:Addr):Uj P w K tg (Itl K a) [it] it (λi h=>h.IsListIter it a i) where
 mem:=by simp
 obj:=λi h st b hb=>by
  have e:b=it:=by simpa using hb
  subst e;obtain⟨o,e,c,d⟩:=st;exact⟨o,e,λv z=>by rw[d]at z;cases z⟩
 keep:=λi h h' st k=>st.at λo e=>k it (by simp) o e
 item:=by
  intro X hP hw hK hc i pins s σ H E I hf st hg;subst hP hw hK;obtain⟨xs,x,hq,hx⟩:=hg;obtain⟨its,rv,p,hz⟩:=I.list hq;obtain⟨u,hu,ru⟩:=rv.get hx;obtain⟨f0,f1,f2,f3,f4,f5⟩:=hf it (by simp)
  refine wpAny_pyNext_list_item st p.isList (x:=u) (by simpa using hu) λh' st' sb=> ?_
  have I1:Inv X pins σ H { s with heap:=h' }:=I.turned (t' :=s.toks) (λb o hb e=>(sb.2 b hb).trans e) f0 f1 f3 f4 f5;obtain⟨o,e,c,d⟩:=id st';exact⟨u,rfl,Uk (s:={ s with heap:=h' }) e c d (by decide) ⟨x,H,I1,ru,⟨rfl,λys hy=>by rw[I.list_inj hy hq];exact hx⟩,st',λb hb=>(hf b hb).1⟩⟩
 done:=by
  intro X hP hw hK hc i pins s σ H E I hf st hg;subst hP hw hK;obtain⟨xs,hq,hx⟩:=hg;obtain⟨its,rv,p,hz⟩:=I.list hq;obtain⟨f0,f1,f2,f3,f4,f5⟩:=hf it (by simp)
  have hl:=rv.length;exact wpAny_pyNext_list_end (I.ok.hd hc) st p.isList (by simp;omega) λh' eb=>⟨rfl,I.turned (t' :=s.toks) (λb o hb e=>eb b o hb e) f0 f1 f3 f4 f5⟩
 self:=λ_ _ _ _ _ st h=>wpAny_pyIter_listiter st h
theorem Ul {P:Program}{w:World}{K:a9}{tg:Expr}(a it:Addr):Uj P w K tg (Itt K a) [it] it (λi h=>h.IsTupleIter it a i) where
 mem:=by simp
 obj:=λi h st b hb=>by
  have e:b=it:=by simpa using hb
  subst e;obtain⟨o,e,c,d⟩:=st;exact⟨o,e,λv z=>by rw[d]at z;cases z⟩
 keep:=λi h h' st k=>st.at λo e=>k it (by simp) o e
 item:=by
  intro X hP hw hK hc i pins s σ H E I hf st hg;subst hP hw hK;obtain⟨xs,x,hq,hx⟩:=hg;obtain⟨its,rv,p,hz⟩:=I.tuple hq;obtain⟨u,hu,ru⟩:=rv.get hx;obtain⟨f0,f1,f2,f3,f4,f5⟩:=hf it (by simp)
  refine wpAny_pyNext_tuple_item st (show s.heap.IsTuple a its.toArray from p) (x:=u) (by simpa using hu) λh' st' sb=> ?_
  have I1:Inv X pins σ H { s with heap:=h' }:=I.turned (t' :=s.toks) (λb o hb e=>(sb.2 b hb).trans e) f0 f1 f3 f4 f5;obtain⟨o,e,c,d⟩:=id st';exact⟨u,rfl,Uk (s:={ s with heap:=h' }) e c d (by decide) ⟨x,H,I1,ru,⟨rfl,λys hy=>by rw[I.tuple_inj hy hq];exact hx⟩,st',λb hb=>(hf b hb).1⟩⟩
 done:=by
  intro X hP hw hK hc i pins s σ H E I hf st hg;subst hP hw hK;obtain⟨xs,hq,hx⟩:=hg;obtain⟨its,rv,p,hz⟩:=I.tuple hq;obtain⟨f0,f1,f2,f3,f4,f5⟩:=hf it (by simp)
  have hl:=rv.length;exact wpAny_pyNext_tuple_end (I.ok.hd hc) st (show s.heap.IsTuple a its.toArray from p) (by simp;omega) λh' eb=>⟨rfl,I.turned (t' :=s.toks) (λb o hb e=>eb b o hb e) f0 f1 f3 f4 f5⟩
 self:=λ_ _ _ _ _ st h=>wpAny_pyIter_tupleiter st h
theorem Um {P:Program}{w:World}{K:a9}{tg:Expr}(it:Addr)(lo:Int)(n:Nat):Uj P w K tg (Itr lo n) [it] it (λi h=>IsRangeIter h it (lo+(i:Nat)*1) ((n:Int) - (i:Nat)) 1) where
 mem:=by simp
 obj:=λi h st b hb=>by
  have e:b=it:=by simpa using hb
  subst e;exact⟨_,st,λv z=>by
   have z' :Data.fields _=Data.cell v:=z;cases z'⟩
 keep:=λi h h' st k=>k it (by simp) _ st
 item:=by
  intro X hP hw hK hc i pins s σ H E I hf st hg;subst hP hw hK;obtain⟨f0,f1,f2,f3,f4,f5⟩:=hf it (by simp)
  have W:=Walks.range (prog:=X.prog) (w:=X.w) (I.ok.hd hc) it lo 1 n;refine W.item i s _ _ hg st λv h' tk hv st' kk=> ?_;obtain⟨t,rfl⟩:=hv;have I1:Inv X pins σ H { s with heap:=h',toks:=tk }:=I.turned (λb o hb e=>kk b o (by simpa using hb) e) f0 f1 f3 f4 f5
  refine⟨_,rfl,Uk (s:={ s with heap:=h',toks:=tk }) (n:="range_iterator") st' rfl rfl (by decide) ⟨.int (lo+i),H,I1,⟨t, ?_⟩,⟨rfl,rfl⟩,st',λb hb=>(hf b hb).1⟩⟩
  rw[Int.mul_one]
 done:=by
  intro X hP hw hK hc i pins s σ H E I hf st hg;subst hP hw hK;obtain⟨f0,f1,f2,f3,f4,f5⟩:=hf it (by simp)
  exact wpAny_pyNext_range_end (I.ok.hd hc) st (by have:n<=i:=hg;omega) λh' eb=>⟨rfl,I.turned (t' :=s.toks) (λb o hb e=>eb b o hb e) f0 f1 f3 f4 f5⟩
 self:=λ_ _ _ _ _ st h=>wpAny_pyIter_rangeiter st h
end L2
namespace L2
open PySem PySem.Spec PyProof.Rows
section
theorem um {pins:List (Addr×Obj)}{σ:St}{H:Hp}{s:Shared}{R:It->Hp->Prop}{E:Value->Shared->Prop}{lo hi:Int}{t u v:Tok}{tk:Nat}(I:Inv X pins σ H s)(h1: -(2 ^ 62)<=lo)(h2:lo < 2 ^ 62)(h3: -(2 ^ 62)<=hi)(h4:hi < 2 ^ 62)
  (q:R (Itr lo (hi - lo).toNat) H):wpAny (model X.prog X.w) X.A (pyIter (.ref s.heap.objs.size)) (PIE X pins σ tg R) E { s with heap:=s.heap.push { cls:= .type "range",data:= .fields #[.int lo t,.int hi u,.int 1 v] },toks:=tk }:=by
 refine wpAny_pyIter_range (IsRange.new ..) (small_one h1 h2 h3 h4) ?_;have I1:Inv X _ σ H { s with heap:=s.heap.push { cls:= .type "range",data:= .fields #[.int lo t,.int hi u,.int 1 v] },toks:=tk }:=I.kept λb o e=>aa _ e;refine⟨(s.heap.push _).objs.size,[(s.heap.push _).objs.size],_,_,H,rfl,
  I1.kept λb o e=>aa _ e,Um _ lo _, ?_,λb hb=> ?_,q⟩
 ·have e1:lo+((0:Nat))*1=lo:=by simp
  have e2:(((hi - lo).toNat):Int) - ((0:Nat))=dQ lo hi 1:=by rw[rangeSize_one];split <;> omega
  rw[e1,e2];exact ag _ rfl
 ·have e:b=(s.heap.push { cls:= .type "range",data:= .fields #[.int lo t,.int hi u,.int 1 v] }).objs.size:=by simpa using hb
  subst e;exact I1.fpOk (ai _) (I1.hok.fresh (ai _))
def GT (ta:TA):TI:=λσ H R=>ta σ H λvs H1=>∃j:Int,vs=[.int j]/\ -(2 ^ 62)<=j/\j < 2 ^ 62/\R (Itr 0 j.toNat) H1
def GU (ta:TA):TI:=λσ H R=>ta σ H λvs H1=>∃i j:Int,vs=[.int i,.int j]/\(-(2 ^ 62)<=i/\i < 2 ^ 62/\ -(2 ^ 62)<=j/\j < 2 ^ 62)/\R (Itr i (j - i).toNat) H1
theorem yr {a:Expr}{ta:TA}{p pos:Pos}(hg:Gl X "range")(hm:X.mg "range"=none)(ha:PA X [a] ta)(hs:starEach [a] X.env=[(false,eval a X.env)]:=by rfl):PI X tg (.Call (.Name "range" p) [a] [] pos) (GT ta):=by
 intro pins s σ H R I h;refine Call_ (ZW I hg hm boot_range (aS (thn (ha pos _ s σ H _ I h) λus s1 ⟨vs,H1,I1,r1,q1⟩=> ?_) hs rfl));obtain⟨j,e,q1,q2,q⟩:=q1;subst e;cases r1 with
 | cons r rr=>
  cases rr;obtain⟨t,rfl⟩:=r;exact call_range_1 (um I1 (by omega) (by omega) q1 q2 (by simpa using q))
theorem yt (hg:Gl X "range")(hm:X.mg "range"=none)(ha:PA X [a,b] ta)(hs:starEach [a,b] X.env=[(false,eval a X.env),(false,eval b X.env)]:=by rfl)(hs2:starEach [b] X.env=[(false,eval b X.env)]:=by rfl):
  PI X tg (.Call (.Name "range" p) [a,b] [] pos) (GU ta):=by
 intro pins s σ H R I h;refine Call_ (ZW I hg hm boot_range (aS (thn (ha pos _ s σ H _ I h) λus s1 ⟨vs,H1,I1,r1,q1⟩=> ?_) (by rw[hs,hs2]) (by rw[hs2];rfl)))
 obtain⟨i,j,e,⟨q1,q2,q3,q4⟩,q⟩:=q1;subst e;cases r1 with
 | cons r rr=>
  cases rr with
  | cons r' rr=>
   cases rr;obtain⟨t,rfl⟩:=r;obtain⟨t',rfl⟩:=r';exact call_range_2 (um I1 q1 q2 q3 q4 q)
def tFor (wi:TI)(g:TG)(tb:TS):TS:=λD σ H=>wi σ H λJ H1=>∃W:Nat->Nat->St->Hp->Prop,(∃m,W 0 m σ H1)/\∀i m σ H,W i m σ H->
 (J.stop i H/\D.nx σ H)\/(J.go i H/\∃N:St->Hp->Prop,(∀σ' H',N σ' H' ->∃m',m' < m/\W (i+1) m' σ' H')/\∀x H',J.yld i H x H' ->g x σ H' λσ2 H2=>tb { D with nx:=N,ct:=N,bk:=D.nx } σ2 H2)
noncomputable def uo (fp:List Addr)(h:Heap):List (Addr×Obj):=fp.filterMap λb=>(h.get? b).map λo=>(b,o)
theorem ja (hb:b∈fp)(e:h.get? b=some o):(b,o)∈uo fp h:=dv.mpr ⟨b,hb,by rw[e];rfl⟩
theorem yu {p:Addr×Obj}(hp:p∈uo fp h):p.1∈fp/\h.get? p.1=some p.2:=by
 obtain⟨b,hb,e⟩:=dv.mp hp;cases q:h.get? b with
 | none=>rw[q]at e;cases e
 | some o=>
  rw[q]at e;have e' :=aq e;subst e';exact⟨hb,q⟩
theorem Inv.pinned (I:Inv X pins σ H s)(hf:∀b∈fp,JS X pins H b)(ho:∀b∈fp,∃o,s.heap.get? b=some o/\∀v,o.data ≠ .cell v):Inv X (pins++uo fp s.heap) σ H s:=
 I.pins_of λp hp=>(dh.mp hp).elim (λz=>I.pin p (aV _ z)) λz=>by
  obtain⟨hb,e⟩:=yu z;obtain⟨f0,f1,f2,_⟩:=hf p.1 hb;obtain⟨o,e',d⟩:=ho p.1 hb;rw[e]at e';cases e';exact⟨e,f0,f1,f2,d⟩
theorem Inv.unpinned (I:Inv X (pins++pl) σ H s):Inv X pins σ H s:=I.pins_of λp hp=>I.pin p (aV _ (cC _ hp))
theorem k8 (hp:PassesOwn (model X.prog X.w) X.A X.env X.xe)(hc:X.calm=true)(hi:PI X tg iter wi)(hg:PG X tg g)(hb:PSs X body tb)
  (hs:∀x,foldedSetIterable iter X.env x=pure x:=by intro _;rfl):PS X (.For tg iter body [] pos) (tFor wi g tb):=by
 intro pins s σ H D I h;refine wpAny_For (thn (hi _ s σ H _ I h) λv s1 h1=>thn h1 λitv s2 h2=> ?_) hs;obtain⟨it,fp,tn,J,H2,e,I2,T,st2,f2,W,⟨m0,w0⟩,turn⟩:=h2;subst e;have stat:∀{H' :Hp},(∀b∈fp,H' b=none)->∀b∈fp,JS X _ H' b:=λhn b hb=>⟨hn b hb,(f2 b hb).2⟩;refine codeAny_forLoop_any (λn s' =>∃i σ' H',Inv X _ σ' H' s' /\tn i s'.heap/\(∀b∈fp,H' b=none)/\W i n σ' H') ?_ m0 ⟨0,σ,H2,I2,st2,λb hb=>(f2 b hb).1,w0⟩
 rintro n s3 ⟨i,σ3,H3,I3,st3,fr3,w3⟩
 rcases turn i n σ3 H3 w3 with ⟨stop,qn⟩ | ⟨go,N,hN,step⟩
 ·refine bR hp (thn (T.done X rfl rfl rfl hc i _ s3 σ3 H3 _ I3 (stat fr3) st3 stop) λr s4 ⟨hr,I4⟩=> ?_);subst hr;exact wpAny_execs_nil ⟨σ3,H3,I4,qn⟩
 ·refine bR hp (thn (T.item X rfl rfl rfl hc i _ s3 σ3 H3 _ I3 (stat fr3) st3 go) λr s4 ⟨u,hr,h4⟩=> ?_);subst hr;refine bR hp (thn h4 λ_ s5 ⟨x,H5,I5,r5,y5,st5,fr5⟩=> ?_);have I5' :=I5.pinned (stat fr5) (T.obj _ _ st5);refine bR hp (thn (hg _ s5 σ3 H5 x u _ I5' r5 (step x H5 y5)) λ_ s6 ⟨σ6,H6,I6,q6⟩=> ?_);refine bR hp (thn (hb _ s6 σ6 H6 _ I6 q6) λf s7 q7=> ?_);have again:∀{σ7:St} {H7:Hp},Inv X (pins++uo fp _) σ7 H7 s7->N σ7 H7->∃m,m < n/\∃i σ' H',Inv X _ σ' H' s7/\tn i _/\(∀b∈fp,H' b=none)/\W i m σ' H' :=λ{σ7 H7} I7 n7=>by
   obtain⟨m',hm,w7⟩:=hN σ7 H7 n7;refine⟨m',hm,i+1,σ7,H7,I7.unpinned,T.keep _ _ _ st5 λb hb o e=>(I7.pin _ (aV _ (aV _ (ja hb e)))).1,λb hb=> ?_,w7⟩;obtain⟨o,e,d⟩:=T.obj _ _ st5 b hb;exact(I7.pin _ (aV _ (aV _ (ja hb e)))).2.1
  cases f with
  | next=>obtain⟨σ7,H7,I7,n7⟩:=q7;exact again I7 n7
  | cont=>obtain⟨σ7,H7,I7,n7⟩:=q7;exact again I7 n7
  | brk=>obtain⟨σ7,H7,I7,q7⟩:=q7;exact⟨σ7,H7,I7.unpinned,q7⟩
  | ret v=>obtain⟨x7,σ7,H7,I7,r7,q7⟩:=q7;exact⟨x7,σ7,H7,I7.unpinned,r7,q7⟩
end
end L2
namespace L2
open PySem PySem.Spec PyProof.Rows
abbrev R2:=V->V->Hp->VK->Prop
def OpR (X:Cx)(f:Value->Value->Sem Value)(r:R2):Prop:=
 ∀(pins:List (Addr×Obj)) (s:Shared) (σ:St) (H:Hp) (x y:V) (v u:Value) (Q:VK),Inv X pins σ H s->Za x v->Za y u->r x y H Q->
  wpAny (model X.prog X.w) X.A (f v u) (EP X pins σ Q) X.xe s
def UnR (X:Cx)(f:Value->Sem Value)(r:V->Hp->VK->Prop):Prop:=
 ∀(pins:List (Addr×Obj)) (s:Shared) (σ:St) (H:Hp) (x:V) (v:Value) (Q:VK),Inv X pins σ H s->Za x v->r x H Q->
  wpAny (model X.prog X.w) X.A (f v) (EP X pins σ Q) X.xe s
def Zo (X:Cx)(f:Value)(r:List V->Hp->VK->Prop):Prop:=
 ∀(pins:List (Addr×Obj)) (s:Shared) (σ:St) (H:Hp) (xs:List V) (us:List Value) (Q:VK),Inv X pins σ H s->zR xs us->r xs H Q->
  wpAny (model X.prog X.w) X.A (call f us) (EP X pins σ Q) X.xe s
def TruR (X:Cx)(r:V->Hp->(Bool->Hp->Prop)->Prop):Prop:=
 ∀(pins:List _) (s:Shared) (σ:St) (H:Hp) (x:V) (v:Value) (Q:Bool->Hp->Prop),Inv X pins σ H s->Za x v->r x H Q->
  wpAny (model X.prog X.w) X.A (truthy v) (TP X pins σ Q) X.xe s
def tOp (r:R2)(ta tb:TE):TE:=λσ H Q=>ta σ H λx H1=>tb σ H1 λy H2=>r x y H2 Q
def tUn (r:V->Hp->VK->Prop)(ta:TE):TE:=λσ H Q=>ta σ H λx H1=>r x H1 Q
def rI (C:Int->Int->Prop)(g:Int->Int->V):R2:=λx y H Q=>∃i j,x= .int i/\y= .int j/\C i j/\Q (g i j) H
def rI0 (g:Int->Int->V):R2:=λx y H Q=>∃i j,x= .int i/\y= .int j/\Q (g i j) H
def rU (g:Int->V):V->Hp->VK->Prop:=λx H Q=>∃i,x= .int i/\Q (g i) H
section
theorem GV (ha:PE X a ta)(hb:PE X b tb){R:V->V->Hp->Prop}(I:Inv X pins σ H s)
  (h:ta σ H λx H1=>tb σ H1 λy H2=>R x y H2) {Q:Value->Shared->Prop} {f:Value->Value->Sem Value}
  (hf:∀v u s2 x y H2,Inv X pins σ H2 s2->Za x v->Za y u->R x y H2->wpAny (model X.prog X.w) X.A (f v u) Q X.xe s2):
  wpAny (model X.prog X.w) X.A (eval a X.env) (λv s₁=>wpAny (model X.prog X.w) X.A (eval b X.env) (λu s₂=>wpAny (model X.prog X.w) X.A (f v u) Q X.xe s₂) X.xe s₁) X.xe s:=by
 refine thn (ha _ s σ H _ I h) λv s1 ⟨x,H1,I1,r1,q1⟩=> ?_;refine thn (hb _ s1 σ H1 _ I1 q1) λu s2 ⟨y,H2,I2,r2,q2⟩=> ?_;exact hf v u s2 x y H2 I2 r1 r2 q2
theorem GW (ho:OpR X (binaryOp op) r)(ha:PE X a ta)(hb:PE X b tb):PE X (.BinOp a op b pos) (tOp r ta tb):=by
 intro pins s σ H Q I h;exact wpAny_BinOp (GV ha hb I h λv u s2 x y H2 I2 rx ry q=>ho _ s2 σ H2 x y v u Q I2 rx ry q)
theorem GX {op:UnaryOp}{r:V->Hp->VK->Prop}(ho:UnR X (unaryOp op) r)(ha:PE X a ta):PE X (.UnaryOp op a pos) (tUn r ta):=by
 intro pins s σ H Q I h;exact UnaryOp_ (thn (ha _ s σ H _ I h) λv s1 ⟨x,H1,I1,r1,q1⟩=>ho _ s1 σ H1 x v Q I1 r1 q1)
theorem opI {f:Value->Value->Sem Value}{C:Int->Int->Prop}{g:Int->Int->Int}
  (rule:∀(i j:Int) (t u:Tok) (s:Shared) (Q:Value->Shared->Prop) (E:Value->Shared->Prop),C i j->Q (.int (g i j) s.toks) { s with toks:=s.toks+1 }->wpAny (model X.prog X.w) X.A (f (.int i t) (.int j u)) Q E s):
  OpR X f (rI C λi j=> .int (g i j)):=by
 intro pins s σ H x y v u Q I rx ry h;obtain⟨i,j,rfl,rfl,hc,q⟩:=h;obtain⟨t,rfl⟩:=rx;obtain⟨t',rfl⟩:=ry;exact rule i j t t' s _ _ hc ⟨.int _,H,I.tok _,⟨_,rfl⟩,q⟩
theorem opI0 {f:Value->Value->Sem Value}{g:Int->Int->Int}
  (rule:∀(i j:Int) (t u:Tok) (s:Shared) (Q:Value->Shared->Prop) (E:Value->Shared->Prop),Q (.int (g i j) s.toks) { s with toks:=s.toks+1 }->wpAny (model X.prog X.w) X.A (f (.int i t) (.int j u)) Q E s):
  OpR X f (rI0 λi j=> .int (g i j)):=by
 intro pins s σ H x y v u Q I rx ry h;obtain⟨i,j,rfl,rfl,q⟩:=h;obtain⟨t,rfl⟩:=rx;obtain⟨t',rfl⟩:=ry;exact rule i j t t' s _ _ ⟨.int _,H,I.tok _,⟨_,rfl⟩,q⟩
theorem GY {f:Value->Value->Sem Value}{g:Int->Int->Bool}
  (rule:∀(i j:Int) (t u:Tok) (s:Shared) (Q:Value->Shared->Prop) (E:Value->Shared->Prop),Q (.bool (g i j)) s->wpAny (model X.prog X.w) X.A (f (.int i t) (.int j u)) Q E s):
  OpR X f (rI0 λi j=> .bl (g i j)):=by
 intro pins s σ H x y v u Q I rx ry h;obtain⟨i,j,rfl,rfl,q⟩:=h;obtain⟨t,rfl⟩:=rx;obtain⟨t',rfl⟩:=ry;exact rule i j t t' s _ _ ⟨.bl _,H,I,rfl,q⟩
noncomputable def CDiv (i j:Int):Prop:=0 < j/\j < 1073741824
noncomputable def WP (i j:Int):Prop:=(-(2 ^ 64) < i/\i < 2 ^ 64)\/(-(2 ^ 64) < j/\j < 2 ^ 64)
theorem WP.ok (h:WP i j):IntMulOk i j:=by
 rcases h with ⟨h1,h2⟩ | ⟨h1,h2⟩
 ·exact .of_left (intBits_le_64 h1 h2)
 ·exact .of_right (intBits_le_64 h1 h2)
theorem k9:OpR X (binaryOp .Add) (rI0 λi j=> .int (i+j)):=opI0 λ_ _ _ _ _ _ _ q=>add_int q
theorem ka:OpR X (binaryOp .Sub) (rI0 λi j=> .int (i - j)):=opI0 λ_ _ _ _ _ _ _ q=>sub_int q
theorem kb:OpR X (binaryOp .Mult) (rI WP λi j=> .int (i*j)):=opI λ_ _ _ _ _ _ _ hc q=>mul_int q hc.ok
theorem Vo:OpR X (binaryOp .FloorDiv) (rI CDiv λi j=> .int (i / j)):=opI λi j _ _ _ _ _ hc q=>by
 have h1:=hc.1;have h2:=hc.2;exact floordiv_int (by omega) (by rw[Int.fdiv_eq_ediv_of_nonneg i (by omega)];exact q) (.inl (PyProof.noPylong_small (by omega)))
theorem kd:OpR X (binaryOp .Mod) (rI (λ_ j=>0 < j) λi j=> .int (i % j)):=opI λi j _ _ _ _ _ hc q=>by
 exact mod_int' (by omega) (by rw[Int.fmod_eq_emod_of_nonneg i (by omega)];exact q)
theorem unI {f:Value->Sem Value}{g:Int->Int}
  (rule:∀(i:Int) (t:Tok) (s:Shared) (Q:Value->Shared->Prop) (E:Value->Shared->Prop),Q (.int (g i) s.toks) { s with toks:=s.toks+1 }->wpAny (model X.prog X.w) X.A (f (.int i t)) Q E s):
  UnR X f (rU λi=> .int (g i)):=by
 intro pins s σ H x v Q I rx h;obtain⟨i,rfl,q⟩:=h;obtain⟨t,rfl⟩:=rx;exact rule i t s _ _ ⟨.int _,H,I.tok _,⟨_,rfl⟩,q⟩
theorem ke:UnR X (unaryOp .USub) (rU λi=> .int (-i)):=unI λ_ _ _ _ _ q=>neg_int q
theorem yv:OpR X (binaryOp .Add) (λx y H Q=>∃i k,x= .int i/\y= .bl k/\Q (.int (i+b2i k)) H):=by
 intro pins s σ H x y v u Q I rx ry h;obtain⟨i,k,rfl,rfl,q⟩:=h;obtain⟨t,rfl⟩:=rx;cases ry;exact add_int_bool ⟨.int _,H,I.tok _,⟨_,rfl⟩,q⟩
end
section
theorem GZ:OpR X (compareOp .Lt) (rI0 λi j=> .bl (decide (i < j))):=GY λ_ _ _ _ _ _ _ q=>lt_int q
theorem z00:OpR X (compareOp .LtE) (rI0 λi j=> .bl (decide (i<=j))):=GY λ_ _ _ _ _ _ _ q=>le_int q
theorem z01:OpR X (compareOp .Gt) (rI0 λi j=> .bl (decide (j < i))):=GY λ_ _ _ _ _ _ _ q=>gt_int q
theorem Jm (b:Expr)(h:op ≠ .In:=by decide)(h2:op ≠ .NotIn:=by decide):behindInMarks op b=false:=by
 have e1:(op == CmpOp.In)=false:=by cases op <;> first | rfl | exact absurd rfl h
 have e2:(op == CmpOp.NotIn)=false:=by cases op <;> first | rfl | exact absurd rfl h2
 cases b <;> simp[behindInMarks,e1,e2]
theorem yw (ho:OpR X (compareOp op) r)(ha:PE X a ta)(hb:PE X b tb)(hm:behindInMarks op b=false):PE X (.Compare a [op] [b] pos) (tOp r ta tb):=by
 intro pins s σ H Q I h;exact wpAny_Compare1 (GV ha hb I h λv u s2 x y H2 I2 rx ry q=>ho _ s2 σ H2 x y v u Q I2 rx ry q) hm
def kf (t:TE):TT:=λσ H Q=>t σ H λx H' =>∃k,x= .bl k/\Q k H'
theorem Vp (ho:OpR X (compareOp op) r)(ha:PE X a ta)(hb:PE X b tb)(hm:behindInMarks op b=false):PT X (.Compare a [op] [b] pos) (kf (tOp r ta tb)):=by
 intro pins s σ H Q I h;refine wpAny_isTrue_Compare1 (thn (ha _ s σ H _ I h) λv s1 ⟨x,H1,I1,r1,q1⟩=>thn (hb _ s1 σ H1 _ I1 q1) λu s2 ⟨y,H2,I2,r2,q2⟩=>
  thn (ho _ s2 σ H2 x y v u _ I2 r1 r2 q2) λc s3 ⟨z,H3,I3,r3,k,e,q3⟩=> ?_) hm
 subst e;cases r3;exact b9 ⟨H3,I3,q3⟩
def vz (r r' :R2)(ta tb tc:TE):TE:=λσ H Q=>ta σ H λx H1=>tb σ H1 λy H2=>r x y H2 λz H3=>∃k,z= .bl k/\
 (if k=true then tc σ H3 λw' H4=>r' y w' H4 Q else Q (.bl false) H3)
theorem Qf (ho:OpR X (compareOp op) r)(ho' :OpR X (compareOp op') r')(ha:PE X a ta)(hb:PE X b tb)(hc:PE X c tc)
  (hm:lastMarks [op,op'] [b,c]=false:=by with_unfolding_all rfl):PE X (.Compare a [op,op'] [b,c] pos) (vz r r' ta tb tc):=by
 intro pins s σ H Q I h;refine Compare_chain (thn (ha _ s σ H _ I h) λv s1 ⟨x,H1,I1,r1,q1⟩=>chain_link (thn (hb _ s1 σ H1 _ I1 q1) λu s2 ⟨y,H2,I2,r2,q2⟩=>
  thn (ho _ s2 σ H2 x y v u _ I2 r1 r2 q2) λd s3 ⟨z,H3,I3,r3,k,e,q3⟩=> ?_)) hm
 subst e;cases r3;refine b9 ?_;cases k with
 | false=>exact ite_ff ⟨.bl _,H3,I3,rfl,q3⟩
 | true=>exact ite_tt (chain_last (thn (hc _ s3 σ H3 _ I3 q3) λw' s4 ⟨z',H4,I4,r4,q4⟩=>ho' _ s4 σ H4 y z' u w' Q I4 r2 r4 q4))
theorem Qg (ho:OpR X (compareOp op) r)(ho' :OpR X (compareOp op') r')(ha:PE X a ta)(hb:PE X b tb)(hc:PE X c tc)
  (hm:lastMarks [op,op'] [b,c]=false:=by with_unfolding_all rfl):PT X (.Compare a [op,op'] [b,c] pos) (kf (vz r r' ta tb tc)):=by
 intro pins s σ H Q I h;refine isTrue_chain (thn (ha _ s σ H _ I h) λv s1 ⟨x,H1,I1,r1,q1⟩=>test_link (thn (hb _ s1 σ H1 _ I1 q1) λu s2 ⟨y,H2,I2,r2,q2⟩=>
  thn (ho _ s2 σ H2 x y v u _ I2 r1 r2 q2) λd s3 ⟨z,H3,I3,r3,k,e,q3⟩=> ?_)) hm
 subst e;cases r3;refine b9 ?_;cases k with
 | false=>
  obtain⟨k',e',q'⟩:=q3;cases e';exact ite_ff ⟨H3,I3,q'⟩
 | true=>
  refine ite_tt (test_last (thn (hc _ s3 σ H3 _ I3 q3) λw' s4 ⟨z',H4,I4,r4,q4⟩=>thn (ho' _ s4 σ H4 y z' u w' _ I4 r2 r4 q4) λd' s5 ⟨z2,H5,I5,r5,k2,e2,q5⟩=> ?_));subst e2;cases r5;exact b9 ⟨H5,I5,q5⟩
def TruV (K:a9)(x:V)(H:Hp)(k:Bool):Prop:=
 match x with
 | .non=>k=false
 | .bl b=>k=b
 | .int i=>k=(i != 0)
 | .str y=>y.length<=sizeLine/\k=((y.length:Int) != 0)
 | .byt y=>y.size<=sizeLine/\k=((y.size:Int) != 0)
 | .ref p=>(∃xs,SqL K H p xs/\k= !xs.isEmpty)\/(∃xs,SqT K H p xs/\k= !xs.isEmpty)\/∃kvs,H p=some (.dK kvs)/\k= !kvs.isEmpty
 | _=>False
theorem Uo {κ:Type}{kvs:List (κ×V)}{vs:List (κ×Value)}(r:KV kvs vs):(!vs.isEmpty)= !kvs.isEmpty:=by
 cases r <;> rfl
theorem JT (r:zR xs its):(!its.toArray.isEmpty)= !xs.isEmpty:=by
 cases r <;> simp
theorem JU:(sizeLine:Nat) < 2 ^ 63:=by decide
theorem kg:TruR X (λx H Q=>∃k,TruV X.K x H k/\Q k H):=by
 intro pins s σ H x v Q I rx h;obtain⟨k,e,q⟩:=h;have hs:=bU;cases x with
 | non=>
  cases rx;have e' :k=false:=e;subst e';exact truthy_none ⟨H,I,q⟩
 | bl b=>
  cases rx;have e' :k=b:=e;subst e';exact b9 ⟨H,I,q⟩
 | int i=>
  obtain⟨t,rfl⟩:=rx;have e' :k=(i != 0):=e;subst e';exact PySem.P.truthy_int ⟨H,I,q⟩
 | str y=>
  obtain⟨t,rfl⟩:=rx;obtain⟨hy,e'⟩:y.length<=sizeLine/\k=((y.length:Int) != 0):=e;subst e';exact PySem.P.truthy_str (by omega) ⟨H,I.tok _,q⟩
 | byt y=>
  obtain⟨t,rfl⟩:=rx;obtain⟨hy,e'⟩:y.size<=sizeLine/\k=((y.size:Int) != 0):=e;subst e';exact PySem.W.truthy_bytes (by omega) ⟨H,I.tok _,q⟩
 | ref p=>
  cases rx;have e' :=e;rcases e' with ⟨xs,hx,e'⟩ | ⟨xs,hx,e'⟩ | ⟨kvs,hx,e'⟩
  ·subst e';obtain⟨its,r,pl,hz⟩:=I.list hx;have hlen:=r.length;exact wpAny_truthy_list pl.isList (by simp only[az];omega) ⟨H,I.tok _,by rw[JT r];exact q⟩
  ·subst e';obtain⟨its,r,pl,hz⟩:=I.tuple hx;have hlen:=r.length;exact truthy_tuple pl (by simp only[az];omega) ⟨H,I.tok _,by rw[JT r];exact q⟩
  ·subst e';obtain⟨hz,hS,vs,r,m⟩:kvs.length<=sizeLine/\(p == sysModules)=false/\∃vs,KV kvs vs/\s.heap.DictOf _ p vs:=I.hok p _ hx;have hlen:=Paired.length r;exact wpAny_truthy_dict hS m (by omega) ⟨H,I.tok _,by rw[Uo r];exact q⟩
 | _=>exact(e).elim
theorem uq (ha:PE X a ta)(he:∀whole,isTrue a X.env whole=(do let v ← whole;standAt a.pos;holding [v] (truthy v))):
  PT X a (λσ H Q=>ta σ H λx H' =>∃k,TruV X.K x H' k/\Q k H'):=by
 intro pins s σ H Q I h;exact isTrue_plain (thn (ha _ s σ H _ I h) λv s1 ⟨x,H1,I1,r1,q1⟩=>kg _ s1 σ H1 x v Q I1 r1 q1) (he _)
theorem Up:OpR X (binaryOp .Add) (λx y H Q=>∃i j,x= .str i/\y= .str j/\i.length+j.length<=sizeLine/\Q (.str (i++j)) H):=by
 intro pins s σ H x y v u Q I rx ry h;obtain⟨i,j,rfl,rfl,hz,q⟩:=h;obtain⟨t,rfl⟩:=rx;obtain⟨t',rfl⟩:=ry;exact add_str (λt' tk=>⟨.str _,H,I.tok _,⟨_,rfl⟩,q⟩) hz
theorem ZK (r:zR [x] us):∃u,us=[u]/\Za x u:=by
 cases r with
 | cons r1 r2=>cases r2;exact⟨_,rfl,r1⟩
theorem Uq (r:zR [x,y] us):∃u w',us=[u,w']/\Za x u/\Za y w' :=by
 cases r with
 | cons r1 r2=>
  cases r2 with
  | cons r3 r4=>cases r4;exact⟨_,_,rfl,r1,r3⟩
theorem yx (hc:X.calm=true):Zo X (.builtin "max") (λxs H Q=>∃i j,xs=[.int i,.int j]/\Q (.int (if j > i then j else i)) H):=by
 intro pins s σ H xs us Q I r h;obtain⟨i,j,rfl,q⟩:=h;obtain⟨u,w',rfl,⟨t,rfl⟩,⟨t',rfl⟩⟩:=Uq r;refine max_two_ints (I.ok.hd hc) λh' tk k=>⟨_,H,I.kept k, ?_,q⟩
 by_cases hj:j > i
 ·rw[if_pos hj,if_pos hj];exact⟨_,rfl⟩
 ·rw[if_neg hj,if_neg hj];exact⟨_,rfl⟩
theorem yy (hc:X.calm=true):Zo X (.builtin "min") (λxs H Q=>∃i j,xs=[.int i,.int j]/\Q (.int (if j < i then j else i)) H):=by
 intro pins s σ H xs us Q I r h;obtain⟨i,j,rfl,q⟩:=h;obtain⟨u,w',rfl,⟨t,rfl⟩,⟨t',rfl⟩⟩:=Uq r;refine min_two_ints (I.ok.hd hc) λh' tk k=>⟨_,H,I.kept k, ?_,q⟩
 by_cases hj:j < i
 ·rw[if_pos hj,if_pos hj];exact⟨_,rfl⟩
 ·rw[if_neg hj,if_neg hj];exact⟨_,rfl⟩
theorem yz:Zo X (.type "int") (λxs H Q=>(∃i,xs=[.int i]/\Q (.int i) H)\/∃k,xs=[.bl k]/\Q (.int (if k then 1 else 0)) H):=by
 intro pins s σ H xs us Q I r h;rcases h with ⟨i,rfl,q⟩ | ⟨k,rfl,q⟩
 ·obtain⟨u,rfl,t,rfl⟩:=ZK r;exact call_int_int ⟨.int i,H,I,⟨_,rfl⟩,q⟩
 ·obtain⟨u,rfl,r1⟩:=ZK r;cases r1;exact call_int_bool ⟨.int _,H,I.tok _,⟨_,rfl⟩,q⟩
end
end L2
namespace L2
open PySem PySem.Spec PyProof.Rows
structure Vq (h:Heap) (x dx C:Addr) (mA:Str->Option Value):Prop where
 obj:h.get? x=some (cn C dx)
 ns:h.Ns1 dx mA
 ne:dx ≠ x
theorem yA {h:Heap}{dx:Addr}{mA:Str->Option Value}(n:h.Ns1 dx mA):∃od,h.get? dx=some od/\∀name,dy name od=some (mA name):=by
 obtain⟨o,es,ep,ho,hd,hk,_,hm⟩:=n;refine⟨o,ho,λname=> ?_⟩;have e:=hm name;unfold nsFind findBy at e;rw[← Array.find?_toList]at e;unfold dy;rw[hd];dsimp only;split
 ·rename_i y q;rw[q]at e;exact congrArg _ e
 ·rename_i q;rw[q]at e;have a:es.toList.any (·.refKey)=false:=by
   rw[List.any_eq_false];intro y hy;obtain⟨z,t,hkey⟩:=hk y (Array.mem_toList_iff.mp hy);simp[DictEntry.refKey,hkey]
  have a' :¬ es.toList.any (·.refKey)=true:=by rw[a];exact aH
  rw[if_neg a'];exact congrArg _ e
theorem Vq.look (I:Vq h x dx C mA):∃od,PySem.W.InstAt h x (cn C dx) C (some od)/\∀name,dy name od=some (mA name):=
 let ⟨od,ho,hl⟩:=yA I.ns
 ⟨od,⟨I.obj,rfl,rfl,ho⟩,hl⟩
section
variable {prog:Program}{w:World}{A:Around}{E:Value->Shared->Prop}{s:Shared}{K:a9}{x dx C f:Addr}{mA:Str->Option Value}{name:Str}{v:Value}
theorem Vr {expr:Bool}{Q:Value->Shared->Prop}(X:K.In s.heap)(I:Vq s.heap x dx C mA)(hg:de K C name=true)(hh:dG K C=true)
  (ha:bp K (.ref C) name=some none) (hv:mA name=some v) (hv' :fP v=true) (h:Q v { s with toks:=s.toks+1 }):
  wpAny (model prog w) A (getAttr (.ref x) name expr) Q E s:=by
 obtain⟨od,J,hl⟩:=I.look;exact PySem.W.get_value X J (dk hg).1 (PySem.W.findObj_own hh ha rfl (by rw[hl,hv])) hv' h
theorem Qh {pl:Sem Bool}{Q:Value×List Value->Shared->Prop}(X:K.In s.heap)(I:Vq s.heap x dx C mA)(hg:de K C name=true)
  (hf:bp K (.ref C) name=some (some (.ref f))) (ht:eC K (.ref f)=true) (hv:mA name=none) (h:Q (.ref f,[.ref x]) s):
  wpAny (model prog w) A (getMethod (.ref x) name pl) Q E s:=by
 obtain⟨od,J,hl⟩:=I.look;exact PySem.W.method_fn X J (dk hg).1 (dk hg).2 hf (beq_iff_eq.mp ht) (by show (dy _ od).map _=some _;rw[hl,hv];rfl) h
theorem Vs {ns:List Str}{Q:Unit->Shared->Prop}(X:K.In s.heap)(I:Vq s.heap x dx C mA)
  (hs:bp K (.ref C) "__setattr__"=some (some (.builtin "object.__setattr__"))) (hp:fy K C=true) (ht:eN K C name=some none) (hh:dG K C=true)
  (hw:eA mA ns) (hsz:ns.length<=sizeLine)
  (h:∀h',Vq h' x dx C (λy=>if y=name then some v else mA y)->bT dx s.heap h' ->Q () { s with heap:=h',toks:=s.toks+2 }):
  wpAny (model prog w) A (setAttr (.ref x) name v) Q E s:=by
 obtain⟨od,J,hl⟩:=I.look;refine PySem.W.set_plain X J hs (PySem.W.osa_open X J hp ht λb=> ?_);obtain⟨cd,hc,hd'⟩:=PySem.W.any_some hh;have hx:=I.obj;refine a7 (ax (a7 (a7 (wpAny_loadPart hx (a7 (PySem.W.Looks.here (PySem.W.looks_clsIn X hc) ?_))))));rw[hd'];refine ax (a7 (ax (a7 ?_)));refine wpAny_nsSet1 I.ns λh' hn2 hs2=> ?_;obtain⟨oD,esD,epD,hoD,hdD,hcD⟩:=hn2.count (eA.cons _ v hw);refine a7 (wpAny_lookBehind hoD (by rw[hdD];exact pastItsLine_dict (aC hcD (by rw[ar];omega))) ?_)
 exact ax (h _ ⟨(hs2.2 _ (aX I.ne)).trans I.obj,hn2,I.ne⟩ hs2)
theorem Qi {R:Result->Shared->Prop}{vs:List Value}{kw:List (Str×Value)}(X:K.In s.heap)(hm:hZ K C=true)
  (hi:bp K (.ref C) "__init__"=some (some (.ref f))) (hf:PySem.W.typeIn K (.ref f)=some (.type "function"))
  (h:codeAny (model prog w) (A.under (.builtin "type.__call__" ⟨.ref C :: vs,kw⟩)) (.call (.ref f) ⟨.ref (s.heap.objs.size+1) :: vs,kw⟩) (PySem.W.InitBack (s.heap.objs.size+1) R)
   { s with heap:=(s.heap.push cz).push (cn C s.heap.objs.size) }):
  codeAny (model prog w) A (.call (.ref C) ⟨vs,kw⟩) R s:=by
 exact PySem.W.make_core (PySem.W.makes_of X hm) (PySem.W.looks_findIn X hi) (λself=>PySem.W.bind_fn X _ hf) (.inl rfl) h
end
noncomputable def putF (f:Str)(v:V):List (Str×V)->List (Str×V)
 | []=>[(f,v)]
 | (g,x) :: r=>if g=f then (g,v) :: r else (g,x) :: putF f v r
theorem lookup_putF (f g:Str)(v:V):∀fs:List (Str×V),(putF f v fs).lookup g=if g=f then some v else fs.lookup g
 | []=>by
  show cX g [(f,v)]=_
  by_cases h:g=f
  ·have hb:=beq_iff_eq.mpr h;simp only[cX,hb,if_pos h]
  ·have hb:=beq_eq_false_iff_ne.mpr h;simp only[cX,hb,if_neg h]
 | (k,x) :: r=>by
  have ih:=lookup_putF f g v r;rw[show putF f v _=(if k=f then (k,v) :: r else (k,x) :: putF f v r) from rfl]
  by_cases hk:k=f
  ·rw[if_pos hk]
   by_cases h:g=k
   ·have hb:=beq_iff_eq.mpr h;simp only[cX,hb,if_pos (h.trans hk)]
   ·have hb:=beq_eq_false_iff_ne.mpr h;simp only[cX,hb,if_neg (λe:g=f=>h (e.trans hk.symm))]
  ·rw[if_neg hk]
   by_cases h:g=k
   ·have hb:=beq_iff_eq.mpr h;simp only[cX,hb,if_neg (λe=>hk (h.symm.trans e))]
   ·have hb:=beq_eq_false_iff_ne.mpr h;simp only[cX,hb];exact ih
theorem Jn (f:Str)(v:V):∀fs:List (Str×V),f∈(putF f v fs).map (·.1)/\∀g,g∈fs.map (·.1)->g∈(putF f v fs).map (·.1)
 | []=>⟨by simp[putF],λg h=>by simp at h⟩
 | (k,x) :: r=>by
  obtain⟨i1,i2⟩:=Jn f v r;rw[show putF f v _=(if k=f then (k,v) :: r else (k,x) :: putF f v r) from rfl]
  by_cases hk:k=f
  ·subst hk;exact⟨by simp,λg h=>by simpa using h⟩
  ·rw[if_neg hk];refine⟨?_,λg h=> ?_⟩
   ·exact a8 _ i1
   ·rcases ah.mp h with e | e
    ·exact ah.mpr (.inl e)
    ·exact a8 _ (i2 g e)
theorem Jo (f:Str)(v:V):∀fs:List (Str×V),(putF f v fs).length<=fs.length+1
 | []=>by simp[putF]
 | (k,x) :: r=>by
  have ih:=Jo f v r;rw[show putF f v _=(if k=f then (k,v) :: r else (k,x) :: putF f v r) from rfl]
  by_cases hk:k=f
  ·rw[if_pos hk,ar,ar];omega
  ·rw[if_neg hk,ar,ar];omega
theorem Qc.some_of (r:Qc (some v) o):∃u,o=some u/\Za v u:=by
 cases o with
 | none=>exact(r).elim
 | some u=>exact⟨u,rfl,r⟩
theorem Qc.none_of (r:Qc none o):o=none:=by
 cases o with
 | none=>rfl
 | some u=>exact(r).elim
theorem yB (r:Za v u):fP u=true:=by
 cases v with
 | non=>cases (r);rfl
 | bl b=>cases (r);rfl
 | int i=>obtain⟨t,e⟩:=(r);cases e;rfl
 | str x=>obtain⟨t,e⟩:=(r);cases e;rfl
 | byt b=>obtain⟨t,e⟩:=(r);cases e;rfl
 | flt b=>obtain⟨t,e⟩:=(r);cases e;rfl
 | ref a=>cases (r);rfl
 | ty n=>cases (r);rfl
section
theorem wv (hok:HOk P w H h)(e:H a=some (.ins C dx fs)):∃mA,Vq h a dx C mA/\(∀f,Qc (fs.lookup f) (mA f))/\eA mA (fs.map (·.1))/\fs.length<=1000/\H dx=some (.own a):=by
 obtain⟨d,z,ne,ob,mA,n,r,q⟩:=(show Zc P w H h a _ from hok a _ e);exact⟨mA,⟨ob,n,ne⟩,r,q,z,d⟩
end
structure Cls (K:a9) (C:Addr):Prop where
 pg:de K C Str.empty=true
 hd:dG K C=true
 po:fy K C=true
 sa:bp K (.ref C) "__setattr__"=some (some (.builtin "object.__setattr__"))
theorem Cls.get {K:a9}{C:Addr}(c:Cls K C)(f:Str):de K C f=true:=c.pg
noncomputable def NoAttr (K:a9)(C:Addr)(f:Str):Prop:=bp K (.ref C) f=some none
theorem NoAttr.taker {K:a9}{C:Addr}{f:Str}(n:NoAttr K C f):eN K C f=some none:=by
 unfold eN;rw[show bp K _ f=some _ from n];rfl
structure Meth (K:a9) (C:Addr) (m:Str) (f:Addr):Prop where
 at_:bp K (.ref C) m=some (some (.ref f))
 fn:eC K (.ref f)=true
 kp:bG K (.ref f)=true
section
theorem Ur (I:Inv X pins σ H s)(e:H a=some (.ins C dx fs))(c:Cls X.K C)(n:NoAttr X.K C f)(l:fs.lookup f=some v)
  (h:∀u s',Inv X pins σ H s' ->Za v u->Q u s'):wpAny (model X.prog X.w) A (getAttr (.ref a) f b) Q E s:=by
 obtain⟨mA,O,r,_,_,_⟩:=wv I.hok e;obtain⟨u,hu,ru⟩:=Qc.some_of (by rw[← l];exact r f)
 exact Vr I.kIn O (c.get f) c.hd n hu (yB ru) (h u _ (I.tok _) ru)
theorem jM {Q:Value×List Value->Shared->Prop}(I:Inv X pins σ H s)(e:H a=some (.ins C dx fs))(c:Cls X.K C)(k:Meth X.K C m g)(l:fs.lookup m=none)
  (h:Q (.ref g,[.ref a]) s):wpAny (model X.prog X.w) A (getMethod (.ref a) m pl) Q E s:=by
 obtain⟨mA,O,r,_,_,_⟩:=wv I.hok e;have hn:=Qc.none_of (by rw[← l];exact r m)
 exact Qh I.kIn O (c.get m) k.at_ k.fn hn h
theorem Us {Q:Unit->Shared->Prop}(I:Inv X pins σ H s)(e:H a=some (.ins C dx fs))(c:Cls X.K C)(n:NoAttr X.K C f)(hl:fs.length < 1000)(ry:Za y u)
  (h:∀s',Inv X pins σ (upd H a (.ins C dx (putF f y fs))) s' ->Q () s'):wpAny (model X.prog X.w) A (setAttr (.ref a) f u) Q E s:=by
 obtain⟨mA,O,r,wi,_,ho⟩:=wv I.hok e;have hz:(fs.map (·.1)).length<=sizeLine:=by rw[ae,bU];omega
 refine Vs I.kIn O c.sa c.po n.taker c.hd wi hz λh' O' sb=>h _ ?_;have hd:∃o,h'.get? dx=some o:=let ⟨o,_,_,e',_⟩:=O'.ns;⟨o,e'⟩;refine I.write (by rw[e];exact True.intro) (.inr ho) (λb q hb z=>(sb.2 b hb).trans z) hd ?_
 refine⟨by rw[zu O.ne];exact ho, ?_,O.ne,O'.obj,_,O'.ns,λg=> ?_,λg hg=> ?_⟩
 ·have:=Jo f y fs;omega
 ·rw[lookup_putF]
  by_cases q:g=f
  ·rw[if_pos q,if_pos q];exact ry
  ·rw[if_neg q,if_neg q];exact r g
 ·by_cases q:g=f
  ·rw[q];exact(Jn f y fs).1
  ·refine(Jn f y fs).2 g (wi g λz=>hg ?_);show (if g=f then some u else mA g)=none
   rw[if_neg q];exact z
theorem Inv.made (I:Inv X pins σ H s):Inv X pins σ (upd (upd H s.heap.objs.size (.own (s.heap.objs.size+1))) (s.heap.objs.size+1) (.ins C s.heap.objs.size []))
  { s with heap:=(s.heap.push cz).push (cn C s.heap.objs.size) }:=by
 have e1:(s.heap.push cz).get? _=some _:=ag _ rfl;have e2:=by
  have:=ag (s.heap.push cz) (o:=cn C s.heap.objs.size) rfl;rwa[bh]at this
 have e3:(s.heap.push _).Ns _ (λ_=>none):=⟨cz, #[],_,e1,rfl,(λe he=>absurd he (by simp)),λ_=>rfl⟩
 have I1:=I.laid (o:= .own (s.heap.objs.size+1)) (t' :=s.toks) (λb u q=>aa _ q) (ai _) ⟨_,e1⟩;refine I1.laid (λb u q=>aa _ q) (eF (bh _ _)) ?_;have ne:s.heap.objs.size ≠ s.heap.objs.size+1:=aE (bY _);refine⟨by rw[zu ne,zw],bg _,ne,e2,λ_=>none,(Heap.Ns1.of_empty e3).at λo q=>aa _ q,λ_=>True.intro,λy hy=>absurd rfl hy⟩
theorem Vt (hb:attributeBase e f env (eval e env)=eval e env)
  (h:wpAny (model prog w) A (eval e env) (λo s₁=>wpAny (model prog w) A (getAttr o f true) Q E s₁) E s):wpAny (model prog w) A (eval (.Attribute e f pos) env) Q E s:=
 Attribute_any_ h (by rw[arm_eval_Attribute,hb])
end
def tFld (K:a9)(ta:TE)(f:Str):TE:=λσ H Q=>ta σ H λx H1=>∃a C dx fs v,x= .ref a/\H1 a=some (.ins C dx fs)/\Cls K C/\NoAttr K C f/\fs.lookup f=some v/\Q v H1
def sFld (K:a9)(ta tv:TE)(f:Str):TS:=λD σ H=>tv σ H λy H1=>ta σ H1 λx H2=>∃a C dx fs,x= .ref a/\H2 a=some (.ins C dx fs)/\Cls K C/\NoAttr K C f/\fs.length < 1000/\
 D.nx σ (upd H2 a (.ins C dx (putF f y fs)))
section
theorem JV (he:PE X e ta)(hb:attributeBase e f X.env (eval e X.env)=eval e X.env):PE X (.Attribute e f pos) (tFld X.K ta f):=by
 intro pins s σ H Q I h;refine Vt hb (thn (he _ s σ H _ I h) λu s1 ⟨x,H1,I1,rx,a,C,dx,fs,v,ex,ea,c,n,l,q⟩=> ?_);subst ex;obtain rfl:u=Value.ref a:=rx;exact Ur I1 ea c n l λu' s2 I2 ru=>⟨v,H1,I2,ru,q⟩
theorem vA (ha:PE X o ta)(hv:PE X value tv)(hs:swapsWith value (some (.Attribute o f pos')) pos.line X.env=pure false):PS X (.Assign [.Attribute o f pos'] value pos) (sFld X.K ta tv f):=by
 intro pins s σ H D I h;refine plainObj_wpAny_Assign_Attribute (thn (hv _ s σ H _ I h) λu s1 ⟨y,H1,I1,ry,q⟩=>thn (ha _ s1 σ H1 _ I1 q) λov s2 ⟨x,H2,I2,rx,a,C,dx,fs,ex,ea,c,n,l,q2⟩=> ?_) hs;subst ex;obtain rfl:ov=Value.ref a:=rx;exact Us I2 ea c n l ry λs3 I3=>⟨σ,_,I3,q2⟩
theorem Vu (he:PE X e te)(I:Inv X pins σ H s)
  (h:te σ H λx H1=>∃a C dx fs g,x= .ref a/\H1 a=some (.ins C dx fs)/\Cls X.K C/\Meth X.K C m g/\fs.lookup m=none/\
   ∀s1,Inv X pins σ H1 s1->wpAny (model X.prog X.w) X.A (callWith pos (.ref g) [.ref a] (backTo pos (starEach args X.env)) (backToKw pos (keywordEach [] X.env))) Q X.xe s1)
  (ht:eval (.Call (.Attribute e m apos) args [] pos) X.env=(do
   let ov ← eval e X.env
   standAt apos.atName
   let (f,first) ← holding [ov] (getMethod ov m pl)
   callWith pos f first (backTo pos (starEach args X.env)) (backToKw pos (keywordEach [] X.env)))):
  wpAny (model X.prog X.w) X.A (eval (.Call (.Attribute e m apos) args [] pos) X.env) Q X.xe s:=by
 refine db (thn (he _ s σ H _ I h) λu s1 ⟨x,H1,I1,rx,a,C,dx,fs,g,ex,ea,c,k,l,q⟩=> ?_) ht;subst ex;obtain rfl:u=Value.ref a:=rx;exact jM I1 ea c k l (q s1 I1)
end
section
inductive Ut (K:a9) (H:Hp):V->Value->Prop where
 | non:Ut K H .non (.type "NoneType")
 | bl (x:Bool):Ut K H (.bl x) (.type "bool")
 | int (i:Int):Ut K H (.int i) (.type "int")
 | str (x:Str):Ut K H (.str x) (.type "str")
 | flt (x:UInt64):Ut K H (.flt x) (.type "float")
 | lst {a:Addr} {xs:List V} (e:H a=some (.lst xs)):Ut K H (.ref a) (.type "list")
 | frz {a:Addr} {o:Obj} {xs:List V} (e:H a=some (.frz o (.lst xs))):Ut K H (.ref a) (.type "list")
 | tup {a:Addr} {xs:List V} (e:H a=some (.tup xs)):Ut K H (.ref a) (.type "tuple")
 | dK {a:Addr} {kvs:List (Key×V)} (e:H a=some (.dK kvs)):Ut K H (.ref a) (.type "dict")
 | dT {a:Addr} {kvs:List (List Key×V)} (e:H a=some (.dT kvs)):Ut K H (.ref a) (.type "dict")
 | ins {a C dx:Addr} {fs:List (Str×V)} (e:H a=some (.ins C dx fs)) (cl:Cls K C) (ha:bp K (.ref C) "__class__"=some (some (.builtin "object.__class__")))
   (hn:PySem.W.specialIn K (.builtin "object.__class__") "__get__"=some (some (.builtin "getset_descriptor.__get__"))) (htk:PySem.W.takesIn K (.builtin "object.__class__")=some true)
   (hm:PySem.W.mroIn K C (.type "object")=some true):Ut K H (.ref a) (.ref C)
theorem yC (I:Inv X pins σ H s)(rx:Za x u)(ty:Ut X.K H x t)(e:bi X.K t c=some b)(h:∀tk,Q (.bool b) { s with toks:=tk }):
  wpAny (model X.prog X.w) A (call (.builtin "isinstance") [u,c]) Q E s:=by
 cases ty with
 | non=>cases (rx);exact bu fA I.kIn True.intro e (λz=>nomatch z) h
 | bl y=>cases (rx);exact bu fB I.kIn True.intro e (λz=>nomatch z) h
 | int i=>obtain⟨t,q⟩:=(rx);cases q;exact bu fQ I.kIn True.intro e (λz=>nomatch z) h
 | str y=>obtain⟨t,q⟩:=(rx);cases q;exact bu fR I.kIn True.intro e (λz=>nomatch z) h
 | flt y=>obtain⟨t,q⟩:=(rx);cases q;exact bu PySem.W.kitx_float I.kIn True.intro e (λz=>nomatch z) h
 | @lst a xs ea=>
  cases (rx);obtain⟨_,_,n,_,h1⟩:=(show Zc _ X.w H _ a _ from I.hok a _ ea);exact bu c_ I.kIn ⟨_,h1,rfl⟩ e (λz=>nomatch z) h
 | @frz a ob xs ea=>
  cases (rx);obtain⟨_,_,_,n,_,h1⟩:=(show Zc _ X.w H _ a _ from I.hok a _ ea);exact bu c_ I.kIn ⟨_,h1,rfl⟩ e (λz=>nomatch z) h
 | @tup a xs ea=>
  cases (rx);obtain⟨_,_,_,p,_⟩:=(show Zc _ X.w H _ a _ from I.hok a _ ea);obtain⟨o,h1,h2,_⟩:=p;exact bu fk I.kIn ⟨o,h1,h2⟩ e (λz=>nomatch z) h
 | @dK a kvs ea=>
  cases (rx);obtain⟨_,_,vs,_,p⟩:=(show Zc _ X.w H _ a _ from I.hok a _ ea);obtain⟨o,es,ep,h1,h2,_⟩:=p;exact bu fD I.kIn ⟨o,h1,h2.1⟩ e (λz=>nomatch z) h
 | @dT a kvs ea=>
  cases (rx);obtain⟨_,_,xs,_,o,es,ep,h1,h2,_⟩:=(show Zc _ X.w H _ a _ from I.hok a _ ea);exact bu fD I.kIn ⟨o,h1,h2.1⟩ e (λz=>nomatch z) h
 | @ins a C dx fs ea cl ha hn htk hm=>
  cases (rx);obtain⟨mA,O,_⟩:=wv I.hok ea;obtain⟨od,J,_⟩:=O.look;exact bu (PySem.W.kitx_own (cl.get _) cl.hd ha hn htk hm) I.kIn J e (λz=>nomatch z) h
end
end L2
namespace L2
open PySem PySem.Spec PyProof.Rows
structure Zy (k:Nat) (A:Around):Prop where
 hd:A.handled=none
 dp:A.depth+3*k+5 < recursionLimit
 un:A.units+16*k+200 < cLine
 gd:A.guards=some []
theorem Zy.mono (r:Zy k A)(h:j<=k):Zy j A:=⟨r.hd,by have:=r.dp;omega,by have:=r.un;omega,r.gd⟩
theorem Zy.deeper (r:Zy (k+1) A)(env:Env):Zy k (A.deeper env):=
 ⟨r.hd,by have:=r.dp;show A.depth+1+3*k+5 < _;omega,by have:=r.un;show A.units+3+16*k+200 < _;omega,r.gd⟩
theorem Uu {A:Around}{C:Addr}{us:List Value}{kw:List (Str×Value)}:(A.under (.builtin "type.__call__" ⟨.ref C :: us,kw⟩)).depth=A.depth+1:=by
 first | rfl | simp[Around.under,Code.weight,Code.isCreation,Code.isGuard,Code.isCaller,Code.frames,fE,guardIds]
theorem Uv {A:Around}{C:Addr}{us:List Value}{kw:List (Str×Value)}:(A.under (.builtin "type.__call__" ⟨.ref C :: us,kw⟩)).units=A.units+1:=by
 first | rfl | simp[Around.under,Code.cUnits,Code.frames,fE]
theorem Zy.make (r:Zy (k+1) A)(C:Addr)(us:List Value)(kw:List (Str×Value)):Zy k (A.under (.builtin "type.__call__" ⟨.ref C :: us,kw⟩)):=
 ⟨r.hd,by have:=r.dp;rw[Uu];omega,by have:=r.un;rw[Uv];omega,by first | exact r.gd | simpa[pushGuards] using r.gd⟩
theorem Zy.depth (r:Zy k A):A.depth < recursionLimit:=by have:=r.dp;omega
theorem Zy.units (r:Zy k A):A.units+64 < cLine:=by have:=r.un;omega
def tNil:TA:=λ_ H Q=>Q [] H
def z02 (ta:TE)(tr:TA):TA:=λσ H Q=>ta σ H λx H1=>tr σ H1 λxs H2=>Q (x :: xs) H2
section
theorem zM:PA X [] tNil:=λ_ _ _ _ H Q I h=>fF ⟨[],H,I,.nil,h⟩
theorem zx (ha:PE X e te)(hr:PA X es t)(hs:starEach (e :: es) X.env=(false,eval e X.env) :: starEach es X.env:=by rfl):PA X (e :: es) (z02 te t):=by
 intro pos pins s σ H Q I h;rw[hs];refine dz (thn (ha _ s σ H _ I h) λu s1 ⟨x,H1,I1,r1,q1⟩=> ?_);exact thn (hr pos _ s1 σ H1 _ I1 q1) λus s2 ⟨xs,H2,I2,r2,q2⟩=>⟨x :: xs,H2,I2,.cons r1 r2,q2⟩
def tTup (t:TA):TE:=λσ H Q=>t σ H λxs H1=>xs.length<=sizeLine/\∀p,H1 p=none->Q (.ref p) (upd H1 p (.tup xs))
def z03 (t:TA):TE:=λσ H Q=>t σ H λxs H1=>xs.length<=sizeLine/\∀p,H1 p=none->Q (.ref p) (upd H1 p (.lst xs))
theorem yD {x1}(h:PA X es t):PE X (.Tuple es x1 pos) (tTup t):=by
 intro pins s σ H Q I hq;refine wpAny_Tuple_spliced (thn (h pos _ s σ H _ I hq) λus s1 ⟨xs,H1,I1,r,z,q⟩=>⟨by rw[← r.length];exact z, ?_⟩)
 have hf:=I1.hok.fresh (ai _);refine⟨.ref _,upd H1 _ _,I1.laid (λb u e=>aa _ e) (ai _) ?_,rfl,q _ hf⟩;exact⟨z,us,r,⟨_,ag _ rfl,rfl,_,rfl⟩,.inr ⟨_,ag _ rfl,rfl⟩⟩
theorem ur (h:PA X es t):PE X (.List es pos) (z03 t):=by
 intro pins s σ H Q I hq;refine wpAny_List_spliced (thn (h pos _ s σ H _ I hq) λus s1 ⟨xs,H1,I1,r,z,q⟩=>⟨by rw[← r.length];exact z, ?_⟩)
 have hf:=I1.hok.fresh (ai _);refine⟨.ref _,upd H1 _ _,I1.laid (λb u e=>aa _ e) (ai _) ?_,rfl,q _ hf⟩;exact⟨z,us,0,r,ag _ rfl⟩
end
abbrev Sp:=List V->Hp->VK->XK->Prop
abbrev CXT:=List Env->Hp->Shared->XK->Value->Shared->Prop
structure Uw (P:Program) (w:World) (K:a9) (mg:Str->Option Value) (base:Heap) (A:Around) (outer:List Env) (s:Shared) (H:Hp):Prop where
 frames:A.frames=some outer
 mod:Mod K mg base
 bs:∀b o,base.get? b=some o->s.heap.get? b=some o/\H b=none
 bsz:base.objs.size<=s.heap.objs.size
 funs:s.heap.FunFrames base outer
 frf:∀b∈frs outer,H b=none
 hok:HOk P w H s.heap
 bare:AllBare s.gens
def CE (outer:List Env)(P:Program)(w:World)(H:Hp)(s:Shared)(Q:VK)(u:Value)(s' :Shared):Prop:=
 ∃v H',s'.os=s.os/\AllBare s'.gens/\Un (frs outer) [] H H' s.heap s'.heap/\HOk P w H' s'.heap/\Za v u/\Q v H'
def CR (CX:CXT)(outer:List Env)(P:Program)(w:World)(H:Hp)(s:Shared)(Q:VK)(E:XK)(r:Result)(s' :Shared):Prop:=
 match r with
 | .ok (.ret u)=>CE outer P w H s Q u s'
 | .ok _=>False
 | .error e=>CX outer H s E e s'
structure ZX (P:Program) (w:World) (K:a9) (mg:Str->Option Value) (base:Heap) (CX:CXT) (k:Nat) (f:Addr) (fd:FuncData) (ps:List Str) (sp:Sp):Prop where
 len:∀vs H Q E,sp vs H Q E->vs.length=ps.length
 run:∀(A:Around) (outer:List Env) (s:Shared) (H:Hp) (args:Args) (us:List Value) (vs:List V) (Q:VK) (E:XK),Zy k A->Uw P w K mg base A outer s H->BindsTo s fd args (ps.zip us)->zR vs us->sp vs H Q E->
  codeAny (model P w) A (.call (.ref f) args) (CR CX outer P w H s Q E) s
theorem Uw.make {P:Program}{w:World}{K:a9}{mg:Str->Option Value}{base:Heap}{A:Around}{outer:List Env}{s:Shared}{H:Hp}(e:Uw P w K mg base A outer s H)(C:Addr)(us:List Value)(kw:List (Str×Value)):
  Uw P w K mg base (A.under (.builtin "type.__call__" ⟨.ref C :: us,kw⟩)) outer s H:=⟨by first | exact e.frames | (simpa[fE] using e.frames),e.mod,e.bs,e.bsz,e.funs,e.frf,e.hok,e.bare⟩
section
theorem Inv.env0 (I:Inv X pins σ H s):Uw X.prog X.w X.K X.mg X.base X.A X.stack s H:=
 ⟨I.ok.frames,I.ok.mod,I.bs,aC I.ok.bsz I.sz,I.stack,I.stkFree,I.hok,I.bare⟩
theorem Inv.after (I:Inv X pins σ H s)(h:CE X.stack X.prog X.w H s Q u s'):EP X pins σ Q u s' :=by
 obtain⟨v,H',os,bare,un,hok,r,q⟩:=h;obtain⟨hh,g,d,t,os'⟩:=s';obtain rfl:os' =s.os:=os;exact⟨v,H',I.call un hok bare (λb z=>absurd z (by simp)),r,q⟩
end
def z04 (sp:Sp)(dvs:List V)(E:XK)(t:TA):TE:=λσ H Q=>t σ H λvs H1=>sp (vs++dvs) H1 Q E
def kh (C:Addr)(m:Str)(sp:Sp)(dvs:List V)(E:XK)(ta:TE)(t:TA):TE:=λσ H Q=>ta σ H λx H1=>∃a dx fs,x= .ref a/\H1 a=some (.ins C dx fs)/\fs.lookup m=none/\
 t σ H1 λvs H2=>sp (x :: (vs++dvs)) H2 Q E
def z05 (C:Addr)(sp:Sp)(dvs:List V)(E:XK)(t:TA):TE:=λσ H Q=>t σ H λvs H1=>∀x dx,H1 x=none->H1 dx=none->dx ≠ x->
 sp (.ref x :: (vs++dvs)) (upd (upd H1 dx (.own x)) x (.ins C dx [])) (λv H2=>v= .non/\Q (.ref x) H2) E
noncomputable def Binds (K:a9)(fd:FuncData)(ps:List Str)(ds:List Value):Prop:=
 ∀(s:Shared) (us:List Value),K.In s.heap->(us++ds).length=ps.length->BindsTo s fd ⟨us,[]⟩ (ps.zip (us++ds))
theorem Binds.all {K:a9}{fd:FuncData}{ps:List Str}(h:∀us:List Value,us.length=ps.length->bindArgs fd ⟨us,[]⟩=pure (ps.zip us)):Binds K fd ps []:=λs us _ hl=>by
 rw[aW]at hl ⊢;exact .of_eq (h us hl)
def Z9 (CX:CXT)(X:Cx)(E:XK):Prop:=∀(pins:List (Addr×Obj)) (σ:St) (H:Hp) (s:Shared) (e:Value) (s' :Shared),Inv X pins σ H s->CX X.stack H s E e s' ->X.xe e s'
section
theorem yE (F:ZX X.prog X.w X.K X.mg X.base CX k f fd ps sp)(hr:Zy k X.A)(hb:Binds X.K fd ps ds)(hd:zR dvs ds)(hx:Z9 CX X E)
  (I:Inv X pins σ H s) (r:zR vs us) (h:sp (vs++dvs) H Q E):wpAny (model X.prog X.w) X.A (call (.ref f) us) (EP X pins σ Q) X.xe s:=by
 have r2:=r.append hd;have hl:(us++ds).length=ps.length:=by rw[← r2.length];exact F.len _ _ _ _ h
 refine wpAny_call (cg (F.run X.A _ s H _ _ _ Q E hr I.env0 (hb s us I.kIn hl) r2 h) λr s' hq=> ?_);cases r with
 | error e=>exact hx _ σ H s e s' I hq
 | ok fl=>
  cases fl with
  | ret u=>exact I.after hq
  | next=>exact bj hq
  | brk=>exact bj hq
  | cont=>exact bj hq
theorem yF (F:ZX X.prog X.w X.K X.mg X.base CX k f fd ps sp)(hr:Zy k X.A)(hg:Gl X x)(hm:X.mg x=some (.ref f))(hk:bG X.K (.ref f)=true)(hb:Binds X.K fd ps ds)(hd:zR dvs ds)(hx:Z9 CX X E)
  (ha:PA X (e :: es) t) (hdb:(x == ("__debug__":Str))=false:=by decide) (he:starEach (e :: es) X.env=(false,eval e X.env) :: starEach es X.env:=by rfl) (hpl:(backTo pos (starEach es X.env)).any (·.1)=false:=by rfl):
  PE X (.Call (.Name x p) (e :: es) [] pos) (z04 sp dvs E t):=by
 intro pins s σ H Q I h;refine bq (Jl I hg hm ?_ hdb);refine dA I.ok.mod.kin hk (thn (ha pos _ s σ H _ I h) λus s1 ⟨vs,H1,I1,r,q⟩=>⟨I1.kIn, ?_⟩) he hpl;exact yE F hr hb hd hx I1 r q
theorem yG (he:PE X o ta)(c:Cls X.K C)(hm:Meth X.K C m f)(F:ZX X.prog X.w X.K X.mg X.base CX k f fd ps sp)(hr:Zy k X.A)(hb:Binds X.K fd ps ds)(hd:zR dvs ds)(hx:Z9 CX X E)(ha:PA X (e :: es) t)
  (hst:starEach (e :: es) X.env=(false,eval e X.env) :: starEach es X.env:=by rfl) (hpl:(backTo pos (starEach es X.env)).any (·.1)=false:=by rfl)
  (ht:eval (.Call (.Attribute o m apos) (e :: es) [] pos) X.env=(do
   let ov ← eval o X.env
   standAt apos.atName
   let (f,first) ← holding [ov] (getMethod ov m pl)
   callWith pos f first (backTo pos (starEach (e :: es) X.env)) (backToKw pos (keywordEach [] X.env))):=by rfl):
  PE X (.Call (.Attribute o m apos) (e :: es) [] pos) (kh C m sp dvs E ta t):=by
 intro pins s σ H Q I h;refine db (thn (he _ s σ H _ I h) λu s1 ⟨x,H1,I1,rx,a,dx,fs,ex,ea,l,q⟩=> ?_) ht;subst ex;obtain rfl:u=Value.ref a:=rx;refine jM I1 ea c hm l ?_;refine dA I.ok.mod.kin hm.kp (thn (ha pos _ s1 σ H1 _ I1 q) λus s2 ⟨vs,H2,I2,r,q2⟩=>⟨I2.kIn, ?_⟩) hst hpl;exact yE (vs:= .ref a :: vs) F hr hb hd hx I2 (.cons rfl r) q2
theorem ut (he:PE X o ta)(c:Cls X.K C)(hm:Meth X.K C m f)(F:ZX X.prog X.w X.K X.mg X.base CX k f fd ps sp)(hr:Zy k X.A)(hb:Binds X.K fd ps ds)(hd:zR dvs ds)(hx:Z9 CX X E)
  (ht:eval (.Call (.Attribute o m apos) [] [] pos) X.env=(do
   let ov ← eval o X.env
   standAt apos.atName
   let (f,first) ← holding [ov] (getMethod ov m pl)
   callWith pos f first (backTo pos (starEach [] X.env)) (backToKw pos (keywordEach [] X.env))):=by rfl):
  PE X (.Call (.Attribute o m apos) [] [] pos) (kh C m sp dvs E ta tNil):=by
 intro pins s σ H Q I h;refine db (thn (he _ s σ H _ I h) λu s1 ⟨x,H1,I1,rx,a,dx,fs,ex,ea,l,q⟩=> ?_) ht;subst ex;obtain rfl:u=Value.ref a:=rx;refine jM I1 ea c hm l ?_;exact PySem.W.callWith_K0 I1.kIn hm.kp (yE (vs:=[.ref a]) F hr hb hd hx I1 (.cons rfl .nil) q)
structure Mk (K:a9) (C f:Addr):Prop where
 makes:hZ K C=true
 init:bp K (.ref C) "__init__"=some (some (.ref f))
 fn:eC K (.ref f)=true
 kp:bG K (.ref C)=true
theorem Qj (M:Mk X.K C f)(F:ZX X.prog X.w X.K X.mg X.base CX k f fd ps sp)(hr:Zy (k+1) X.A)(hb:Binds X.K fd ps ds)(hd:zR dvs ds)
  (hx:Z9 CX X E) (I:Inv X pins σ H s) (r:zR vs us)
  (h:∀x dx,H x=none->H dx=none->dx ≠ x->sp (.ref x :: (vs++dvs)) (upd (upd H dx (.own x)) x (.ins C dx [])) (λv H2=>v= .non/\Q (.ref x) H2) E):
  wpAny (model X.prog X.w) X.A (call (.ref C) us) (EP X pins σ Q) X.xe s:=by
 have hq:=h _ _ (I.hok.fresh (dH _)) (I.hok.fresh (ai _)) (aE (bY _));have I2:=Inv.made (C:=C) I;have r2:zR (V.ref (s.heap.objs.size+1) :: (vs++dvs)) _:= .cons rfl (r.append hd);have hl:=by
  have e:=r2.length;rw[F.len _ _ _ _ hq]at e;exact e.symm
 refine wpAny_call (Qi I.kIn M.makes M.init (beq_iff_eq.mp M.fn) (cg (F.run _ _ _ _ _ _ _ _ E (hr.make C us [])
  (I2.env0.make C us []) (hb _ _ I2.kIn hl) r2 hq) λr s' hq' => ?_))
 cases r with
 | error e=>exact hx _ σ _ _ e s' I2 hq'
 | ok fl=>
  cases fl with
  | ret u=>
   obtain⟨v,H',I3,rv,ev,q3⟩:=I2.after hq';subst ev;exact⟨rv,⟨V.ref _,H',I3,rfl,q3⟩⟩
  | next=>exact bj hq'
  | brk=>exact bj hq'
  | cont=>exact bj hq'
theorem Vv (M:Mk X.K C f)(F:ZX X.prog X.w X.K X.mg X.base CX k f fd ps sp)(hr:Zy (k+1) X.A)(hg:Gl X x)(hm:X.mg x=some (.ref C))(hb:Binds X.K fd ps ds)(hd:zR dvs ds)(hx:Z9 CX X E)
  (ha:PA X (e :: es) t) (hdb:(x == ("__debug__":Str))=false:=by decide) (he:starEach (e :: es) X.env=(false,eval e X.env) :: starEach es X.env:=by rfl) (hpl:(backTo pos (starEach es X.env)).any (·.1)=false:=by rfl):
  PE X (.Call (.Name x p) (e :: es) [] pos) (z05 C sp dvs E t):=by
 intro pins s σ H Q I h;refine bq (Jl I hg hm ?_ hdb);refine dA I.ok.mod.kin M.kp (thn (ha pos _ s σ H _ I h) λus s1 ⟨vs,H1,I1,r,q⟩=>⟨I1.kIn, ?_⟩) he hpl;exact Qj M F hr hb hd hx I1 r q
end
section
variable {kws:List Keyword}{nm:Option Str}
variable {g:List Value->List Value->List Value}{gV:List V->List V->List V}
end
structure ZF (N P:List Str) (sc:Scope):Prop where
 kind:sc.kind= .function
 co:sc.isCoroutine=false
 gen:sc.isGenerator=false
 nd:N.Nodup
 pre:N.take P.length=P
 par:∀x∈P,sc.names.lookup x=some .local\/sc.names.lookup x=some .cell
 nofree:∀y∈sc.names,y.2 ≠ .free
theorem W7 {kindOf:Str->Option NameKind}{x:Str}:∀{binds:List (Str×Value)} {m:Str->Option Value},(∀v,(x,v) ∉ binds)->bindL kindOf binds m x=m x
 | [],_,_=>rfl
 | (n,v) :: r,m,h=>by
  unfold bindL;rw[W7 λw hw=>h w (a8 _ hw)];split
  ·have:x ≠ n:=by rintro rfl;exact h v ab
   simp[this]
  ·rfl
theorem W8 {kindOf:Str->Option NameKind}{x:Str}:∀{binds:List (Str×Value)} {m:Str->Option Value},(∀v,(x,v) ∉ binds)->bindC kindOf binds m x=m x
 | [],_,_=>rfl
 | (n,v) :: r,m,h=>by
  unfold bindC;rw[W8 λw hw=>h w (a8 _ hw)];split
  ·rfl
  ·have:x ≠ n:=by rintro rfl;exact h v ab
   simp[this]
theorem W9 {kindOf:Str->Option NameKind}{x:Str}{v:Value}:∀{P:List Str} {vs:List Value} {i:Nat} {m:Str->Option Value},P.Nodup->P[i]? =some x->vs[i]? =some v->kindOf x=some .local->
  bindL kindOf (P.zip vs) m x=some v
 | [],_,_,_,_,h,_,_=>by simp at h
 | _ :: _,[],_,_,_,_,h,_=>by simp at h
 | p :: P,w :: vs,0,m,nd,h1,h2,hk=>by
  simp at h1 h2;subst h1;subst h2;show bindL _ ((p,w) :: P.zip vs) m p=_;unfold bindL;rw[W7 λv hv=>(cU.mp nd).1 (cV hv).1,if_pos hk];simp
 | p :: P,w :: vs,i+1,m,nd,h1,h2,hk=>by
  show bindL _ ((p,w) :: P.zip vs) m x=_;exact W9 (cU.mp nd).2 (by simpa using h1) (by simpa using h2) hk
theorem Wa {kindOf:Str->Option NameKind}{x:Str}{v:Value}:∀{P:List Str} {vs:List Value} {i:Nat} {m:Str->Option Value},P.Nodup->P[i]? =some x->vs[i]? =some v->kindOf x ≠ some .local->
  bindC kindOf (P.zip vs) m x=some v
 | [],_,_,_,_,h,_,_=>by simp at h
 | _ :: _,[],_,_,_,_,h,_=>by simp at h
 | p :: P,w :: vs,0,m,nd,h1,h2,hk=>by
  simp at h1 h2;subst h1;subst h2;show bindC _ ((p,w) :: P.zip vs) m p=_;unfold bindC;rw[W8 λv hv=>(cU.mp nd).1 (cV hv).1,if_neg hk];simp
 | p :: P,w :: vs,i+1,m,nd,h1,h2,hk=>by
  show bindC _ ((p,w) :: P.zip vs) m x=_;exact Wa (cU.mp nd).2 (by simpa using h1) (by simpa using h2) hk
def start (N:List Str)(vs:List V):St:=vs.map some++af (N.length - vs.length) none
def jv (CX:CXT)(P:Program)(w:World)(K:a9)(mg:Str->Option Value)(base:Heap)(N:List Str)(qual:Str)(scope:Scope)(f:Addr)(cd:Value)(A:Around)(outer:List Env)(s:Shared)(H:Hp)(E:XK):Cx where
 prog:=P
 w:=w
 K:=K
 mg:=mg
 base:=base
 A:=A.deeper (envOfC qual scope s.heap.objs.size f cd)
 N:=N
 s₀:=s
 H₀:=H
 env:=envOfC qual scope s.heap.objs.size f cd
 outer:=outer
 stack:=envOfC qual scope s.heap.objs.size f cd :: outer
 ex:=[]
 calm:=true
 fn:=λ_=>true
 pn:=[]
 xe:=λe s' =>wpAny (model P w) (A.deeper (envOfC qual scope s.heap.objs.size f cd)) (leaving (envOfC qual scope s.heap.objs.size f cd) e) (λ_ s'' =>CX outer H s E e s'') (λe' s'' =>CX outer H s E e' s'') s'
theorem uu {sc:Scope}{n:Nat}{x:Str}(h:sc.names.lookup x=some .cell):∃c,(cellsFrom n sc.names []).lookup x=some c:=by
 have q:=eG _ n [] (.inl h);exact Option.isSome_iff_exists.mp q
theorem yH {CX:CXT}{P:Program}{w:World}{K:a9}{mg:Str->Option Value}{base:Heap}{N ps:List Str}{qual:Str}{scope:Scope}{f:Addr}{cd:Value}{A:Around}{outer:List Env}{s s1:Shared}{H:Hp}{E:XK}{us:List Value}{vs:List V}
  (S:ZF N ps scope) (hd:A.handled=none) (e0:Uw P w K mg base A outer s H) (hl:vs.length=ps.length) (r:zR vs us)
  (x:InCallC s s.heap.objs.size (bindL (envOfC qual scope s.heap.objs.size f cd).kindOf (ps.zip us) λ_=>none) (cellsFrom (s.heap.objs.size+1) scope.names []) (bindC (envOfC qual scope s.heap.objs.size f cd).kindOf (ps.zip us) λ_=>none) s1):
  Inv (jv CX P w K mg base N qual scope f cd A outer s H E) [] (start N vs) H s1:=by
 have hpl:=by have:=congrArg hJ S.pre;rw[cH]at this;omega
 obtain⟨h1,tk,rfl,hk⟩:=x.done;have noA:∀b,b ∉ (jv CX P w K mg base N qual scope f cd A outer s H E).ex:=λb z=>absurd (show b∈([]:List _) from z) (by simp)
 refine⟨⟨e0.mod,S.kind,rfl,rfl,ai _,λy z c h1 h2=> ?_,λy hy=> ?_,λy c _ h=> ?_,λ_=>hd,eU e0.frames,.inr ⟨rfl,rfl⟩,λb z=>absurd z (noA b),e0.bs,e0.bsz,λb _ _=>noA b,λb z=>absurd z (noA b),e0.funs,e0.frf⟩,
  rfl,e0.bare,Un.kept hk,⟨_,x.toInCall.ns,λi y v h1 h2 h3=> ?_⟩,λy c h=>⟨_,x.cell y c h⟩,e0.hok.fresh (ai _),λy c h=> ?_,λp hp=>absurd (show p∈([]:List _) from hp) (by simp),e0.hok.kept hk, ?_⟩
 ·exact name_of_addr x.apart (aZ h1) (aZ h2)
 ·rcases hy with hy | hy
  ·exact uu hy
  ·exact absurd rfl (S.nofree _ (aZ hy))
 ·exact eB (x.above y c (aZ h))
 ·have hi:i < vs.length:=by
   unfold start at h2
   by_cases hi:i < vs.length
   ·exact hi
   ·rw[au (by simpa using hi)]at h2
    rw[aL]at h2;split at h2 <;> cases h2
  have ha:vs[i]? =some v:=by
   unfold start at h2;rw[aB (by simpa using hi),ak]at h2
   cases e:vs[i]? with
   | none=>rw[e]at h2;cases h2
   | some a=>rw[e]at h2;cases h2;rfl
  obtain⟨u,hu,rv⟩:=r.get ha;have hp:ps[i]? =some y:=by
   rw[← S.pre,cO (by omega)];exact h1
  have ndP:ps.Nodup:=by rw[← S.pre];exact S.nd.sublist (List.take_sublist _ _)
  refine⟨u,rv, ?_⟩;rcases S.par y (bH hp) with k | k
  ·exact .inl ⟨k,W9 ndP hp hu k⟩
  ·obtain⟨c,e⟩:=uu k;refine .inr ⟨.inl k,c,e, ?_⟩;have q:=x.cell y c e;rw[Wa ndP hp hu (by show scope.names.lookup y ≠ _;rw[k];decide)]at q
   exact q
 ·exact e0.hok.fresh (eB (x.above y c (aZ h)))
 ·unfold start;show _=N.length;rw[aA,ae,aJ];omega
theorem Vw {CX:CXT}{P:Program}{w:World}{K:a9}{mg:Str->Option Value}{base:Heap}{k:Nat}{f:Addr}{name qual:Str}{params:Arguments}{body:List Stmt}{scope:Scope}{dV kV doc pm cdv ct oc:Value}{an od:Option Addr}
  {osl:Array (Option Value)} {N ps:List Str} {sp:Sp} (lk:K.lookup f=some ⟨oc,od,.func (bv name qual params body scope dV kV doc pm an cdv ct),osl⟩) (hcd:d3 K cdv qual=true) (S:ZF N ps scope)
  (len:∀vs H Q E,sp vs H Q E->vs.length=ps.length)
  (hbody:∀(A:Around) (outer:List Env) (s:Shared) (H:Hp) (vs:List V) (Q:VK) (E:XK),Zy k (A.deeper (envOfC qual scope s.heap.objs.size f cdv))->sp vs H Q E->
   ∃t,PSs (jv CX P w K mg base N qual scope f cdv A outer s H E) body t/\t { nx:=λ_ H' =>Q .non H',rt:=Q } (start N vs) H):
  ZX P w K mg base CX (k+1) f (bv name qual params body scope dV kV doc pm an cdv ct) ps sp:=by
 refine⟨len,λA outer s H args us vs Q E hr e0 hb r hsp=> ?_⟩;have hl:=len _ _ _ _ hsp;have KX:=e0.mod.kin.keeps λb o e=>(e0.bs b o e).1;have lim:=e0.mod.nolimit.keeps λb o e=>(e0.bs b o e).1;have hkind:∀y∈ps.zip us,scope.names.lookup y.1=some _\/(scope.names.lookup y.1=some _/\((cellsFrom (s.heap.objs.size+1) _ []).lookup y.1).isSome=true):=λ⟨n,v⟩ hy=>by
  rcases S.par n (cV hy).1 with q | q
  ·exact .inl q
  ·exact .inr ⟨q,eG _ _ _ (.inl q)⟩
 refine codeAny_call_function hr.depth (KX _ _ lk) rfl S.co S.gen rfl (PySem.W.codeRec_of KX hcd) (hb _ _ _ _ ?_);refine wpAny_newFunctionEnv_cells S.kind hkind λenv he s1 x=> ?_;subst he;refine⟨lim.keeps x.toInCall.keep,codeAny_func ?_⟩;obtain⟨t,ht,hq⟩:=hbody A _ s H vs Q E (hr.deeper _) hsp;have I:Inv (jv CX P w K mg _ N _ _ f cdv A _ s H E) [] _ H s1:=yH S hr.hd e0 hl r x;refine cW (ht [] s1 _ H _ I hq) (λfl s' hs=> ?_) λe s' hs=>hs;have fin:∀{σ' :St} {H' :Hp} {v:V} {u:Value},Inv (jv CX P w K mg base N qual scope f cdv A outer s H E) [] σ' H' s' ->Za v u->Q v H' ->CE _ P w H s Q u s' :=
  λ{σ' H' v u} J rv q=>⟨v,H',J.os,J.bare,J.base,J.hok,rv,q⟩
 cases fl with
 | ret u=>
  obtain⟨v,σ',H',J,rv,q⟩:=hs;exact fin J rv q
 | next=>
  obtain⟨σ',H',J,q⟩:=hs;exact fin (v:=V.non) J rfl q
 | brk=>
  obtain⟨_,_,_,q⟩:=hs;exact bj q
 | cont=>
  obtain⟨_,_,_,q⟩:=hs;exact bj q
end L2
namespace L2
open PySem PySem.Spec PyProof.Rows
section
variable {X:Cx}{x:Str}{p pos:Pos}{e:Expr}{es:List Expr}{t:TA}{id T:String}{r:List V->Hp->VK->Prop}
def tCB (r:List V->Hp->VK->Prop)(t:TA):TE:=λσ H Q=>t σ H λvs H1=>r vs H1 Q
theorem ZS (hc:Zo X (.builtin id) r)(hg:Gl X x)(hm:X.mg x=none)(hv:bootBuiltins x=some (.builtin id))(ha:PA X (e :: es) t)(hn:x ≠ "__name__":=by decide)(hdb:(x == ("__debug__":Str))=false:=by decide)
  (he:starEach (e :: es) X.env=(false,eval e X.env) :: starEach es X.env:=by rfl) (hpl:(backTo pos (starEach es X.env)).any (·.1)=false:=by rfl):PE X (.Call (.Name x p) (e :: es) [] pos) (tCB r t):=by
 intro pins s σ H Q I h;refine bq (ZW I hg hm hv ?_ hn hdb);exact PyProof.Rows.callWith_builtin1 (thn (ha pos _ s σ H _ I h) λus s1 ⟨vs,H1,I1,r1,q1⟩=>hc _ s1 σ H1 vs us Q I1 r1 q1) he hpl
theorem Zd (hc:Zo X (.type T) r)(hg:Gl X x)(hm:X.mg x=none)(hv:bootBuiltins x=some (.type T))(ha:PA X (e :: es) t)(hn:x ≠ "__name__":=by decide)(hdb:(x == ("__debug__":Str))=false:=by decide)
  (he:starEach (e :: es) X.env=(false,eval e X.env) :: starEach es X.env:=by rfl) (hpl:(backTo pos (starEach es X.env)).any (·.1)=false:=by rfl):PE X (.Call (.Name x p) (e :: es) [] pos) (tCB r t):=by
 intro pins s σ H Q I h;refine bq (ZW I hg hm hv ?_ hn hdb);exact aS (thn (ha pos _ s σ H _ I h) λus s1 ⟨vs,H1,I1,r1,q1⟩=>hc _ s1 σ H1 vs us Q I1 r1 q1) he hpl
end
end L2
namespace HT
open PySem PyProof.Rows
section
open PySem.SeqAt
open PySem.AutoSeq1 (wpAny_loadPart')
open PySem.MeetsSeq PySem.MeetsSeq2 PySem.MeetsSeq3
end
section
theorem cat_tup (ht:IsTup s.heap t vs.toArray)(hb:IsTup s.heap b ws.toArray)(hv:vs ≠ [])
  (h1:ws=[]->Q (.ref t) s) (h2:ws ≠ []->Q (.ref s.heap.objs.size) { s with heap:=s.heap.push { cls:= .type "tuple",data:= .seq (vs++ws).toArray } })
  (hsz:vs.length+ws.length<=sizeLine):wpAny (model prog w) A (binaryOp .Add (.ref t) (.ref b)) Q E s:=by
 obtain⟨⟨cls,dd,data,sl⟩,ho,hc,n,hd⟩:=id ht;obtain⟨⟨cls2,dd2,data2,sl2⟩,ho2,hc2,n2,hd2⟩:=id hb;subst hc hd hc2 hd2;have e:vs.toArray++ws.toArray=(vs++ws).toArray:=by simp
 by_cases hw:ws=[]
 ·exact concat_meets ⟨_,ho,rfl⟩ ⟨_,ho2,rfl⟩ noFill_tuple_add seq_tuple_add d4 cY (cP _ _)
   (tuple_addW1 t b _ _ n n2 dd dd2 sl sl2 (by simpa using hv) (by simp[hw])) ⟨ho,ho2,h1 hw⟩
 ·refine concat_meets ⟨_,ho,rfl⟩ ⟨_,ho2,rfl⟩ noFill_tuple_add seq_tuple_add d4 cY (cP _ _)
   (tuple_addW2 t b _ _ n n2 dd dd2 sl sl2 (by simpa using hv) (by simpa using hw) (by exact hsz)) ⟨ho,ho2, ?_⟩
  rw[e];exact h2 hw
noncomputable def sIx (n d:Nat):Option Int->Nat
 | none=>d
 | some v=>if v < 0 then (v+(n:Int)).toNat else min v.toNat n
theorem sIx_none (n d:Nat):sIx n d none=d:=rfl
theorem sIx_nat (n d k:Nat):sIx n d (some (k:Int))=min k n:=by
 show (if (k) < 0 then ((k:Int)+(n)).toNat else min _ n)=min k n
 rw[if_neg (by omega),bw]
theorem yI (v:Int)(n d:Nat):(if v < 0 then max (v+(n:Int)) 0 else min v (n:Int))=((sIx n d (some v):Nat):Int):=by
 show (if v < 0 then max _ 0 else min v (n))=(((if v < 0 then (v+(n)).toNat else min _ n):Nat):Int)
 by_cases hv:v < 0
 ·simp only[if_pos hv];omega
 ·simp only[if_neg hv];omega
theorem Ux (lo hi:Option Int)(n:Nat):dF lo hi 1 (n:Int)=(((sIx n 0 lo:Nat):Int),((sIx n n hi:Nat):Int)):=by
 refine Prod.ext ?_ ?_
 ·cases lo with
  | none=>rfl
  | some v=>exact yI v n 0
 ·cases hi with
  | none=>rfl
  | some v=>exact yI v n n
theorem Uy (i j:Nat):cL (i:Int) (j:Int) 1=j - i:=by
 unfold cL;split <;> omega
theorem JW {o:Option Int}{Q:Option Int->Shared->Prop}(p:IsPart v o)(h:Q o s):wpAny (model prog w) A (Builtin.Slice.slicePartIndex v) Q E s:=by
 cases p with
 | none=>exact slicePart_none h
 | int i t=>exact slicePart_int h
theorem sliceApplied_gen {lo hi:Option Int}{Q:Int×Int×Nat->Shared->Prop}(hs:s.heap.IsSliceOf sl vl vu .none)(pl:IsPart vl lo)(pu:IsPart vu hi)
  (h:Q (((sIx n 0 lo:Nat):Int),1,sIx n n hi - sIx n 0 lo) s):wpAny (model prog w) A (Builtin.Slice.sliceApplied (.ref sl) (pure (n:Int))) Q E s:=by
 obtain⟨os,hos,hcs,hds⟩:=id hs;refine a7 (a7 (ba hos hds rfl (a7 (ba hos hds rfl (a7 (ba hos hds rfl (ax ?_)))))));refine a7 (slicePart_none ?_);refine a7 (JW pl (a7 (JW pu (a7 (ax ?_)))));show wpAny _ _ (match dF lo hi 1 _ with | (lo,hi)=>pure (lo,(1:Int),cL lo hi 1)) _ _ s
 rw[Ux lo hi n];show wpAny _ _ (pure _) _ _ s;rw[Uy];exact ax h
theorem Qk (xs:Array Value)(i k:Nat):((a_ k).filterMap λ(m:Nat)=>xs[((i:Int)+(m:Int)*1).toNat]?).toArray=((xs.toList.drop i).take k).toArray:=by
 have e:(λ(m:Nat)=>xs[((i:Int)+(m)*1).toNat]?)=λm=>xs[i+m]? :=by
  funext m
  have:((i:Int)+(m)*1).toNat=i+m:=by omega
  rw[this]
 rw[e];have:=pick_run xs i k;rw[List.filterMap_map]at this;have e2:((λx=>xs[x]?) ∘ λx=>i+x)=λm=>xs[i+m]? :=rfl;rw[e2]at this;rw[this]
theorem getItem_tuple_cut {lo hi:Option Int}(ht:IsTup s.heap t items)(hs:s.heap.IsSliceOf sl vl vu .none)(pl:IsPart vl lo)(pu:IsPart vu hi)
  (hw:¬ (sIx items.size 0 lo=0/\sIx items.size items.size hi=items.size))
  (h:Q (.ref s.heap.objs.size) { s with heap:=s.heap.push { cls:= .type "tuple",data:= .seq ((items.toList.drop (sIx items.size 0 lo)).take (sIx items.size items.size hi - sIx items.size 0 lo)).toArray } })
  (hsz:items.size<=sizeLine):wpAny (model prog w) A (getItem (.ref t) (.ref sl)) Q E s:=by
 have htake:sizeOk (.seq ((items.toList.drop (sIx items.size 0 lo)).take (sIx items.size items.size hi - sIx items.size 0 lo)).toArray):=by
  show ((items.toList.drop _).take _).toArray.size<=sizeLine;rw[az,cH,dR,dj];omega
 obtain⟨os,hos,hcs,hds⟩:=id hs;have hTs:s.TypeIs (.ref sl) _:=⟨os,hos,hcs⟩;unfold getItem
 try with_reducible refine bW ?_
 refine a7 (wpAny_sequenceKey ht.typeIs (by decide) ?_)
 refine a7 (bn ht.typeIs bc
  (bF bc ht.typeIs entry_tuple_getitem ?_ (args_tuple_getitem _ _)))
 show wpAny _ _ (dB _ >>= _) _ _ s;refine a7 (tupleItemsOf_ ht ?_);refine a7 (wpAny_typeOf hTs ?_);refine a7 (sliceApplied_gen hs pl pu ?_);have hno:¬ ((((sIx items.size 0 lo):Int) == 0 && (1:Int) == 1 && (sIx items.size items.size hi - sIx items.size 0 lo) == items.size)=true):=by
  intro q;rw[ac,ac]at q;have q1:=eq_of_beq q.1.1;have q2:=eq_of_beq q.2;exact hw ⟨by omega,by omega⟩
 show wpAny _ _ (if (((sIx _ 0 lo:Nat):Int) == 0 && (1) == 1 && (sIx _ _ hi - sIx _ 0 lo) == items.size)=true then _ else _) _ _ s
 rw[if_neg hno,Qk]
 first
  | exact a7 (be (ax ⟨_,rfl,ax h⟩) htake)
  | exact a7 _
  | exact a7 _
  | exact a7 _
end
end HT
namespace L2
open PySem PySem.Spec PyProof.Rows
abbrev TO:=St->Hp->(Option Int->Hp->Prop)->Prop
def PO (X:Cx)(e:Option Expr)(t:TO):Prop:=
 ∀(pins:List (Addr×Obj)) (s:Shared) (σ:St) (H:Hp) (Q:Option Int->Hp->Prop),Inv X pins σ H s->t σ H Q->
  wpAny (model X.prog X.w) X.A (evalPart e X.env) (λu s' =>∃o H',Inv X pins σ H' s' /\IsPart u o/\Q o H') X.xe s
def Vx:TO:=λ_ H Q=>Q none H
def z06 (t:TE):TO:=λσ H Q=>t σ H λx H1=>∃i,x= .int i/\Q (some i) H1
section
variable {X:Cx}{e:Expr}{te:TE}{lo hi:Option Expr}{tl th:TO}{pos p2:Pos}
theorem Vy:PO X none Vx:=by
 intro pins s σ H Q I h;exact ax ⟨none,H,I,.none,h⟩
theorem Vz (h:PE X e te):PO X (some e) (z06 te):=by
 intro pins s σ H Q I hw;refine thn (h _ s σ H _ I hw) λu s1 ⟨x,H1,I1,r1,q1⟩=> ?_;obtain⟨i,rfl,q⟩:=q1;obtain⟨t,rfl⟩:=r1;exact⟨some i,H1,I1,.int i t,q⟩
def SlR (X:Cx)(r:V->Option Int->Option Int->Hp->VK->Prop):Prop:=
 ∀(pins:List (Addr×Obj)) (s:Shared) (σ:St) (H:Hp) (x:V) (v vl vu:Value) (lo hi:Option Int) (sl:Addr) (Q:VK),Inv X pins σ H s->Za x v->s.heap.IsSliceOf sl vl vu .none->IsPart vl lo->IsPart vu hi->r x lo hi H Q->
  ∃T id,typeLookup (.type T) "__getitem__"=pure (some (.builtin id))/\s.TypeIs v T/\wpAny (model X.prog X.w) X.A (getItem v (.ref sl)) (EP X pins σ Q) X.xe s
theorem SlR.or {r r' :V->Option Int->Option Int->Hp->VK->Prop}(h:SlR X r)(h' :SlR X r'):SlR X (λx lo hi H Q=>r x lo hi H Q\/r' x lo hi H Q):=by
 intro pins s σ H x v vl vu lo hi sl Q I rx hs pl pu q;rcases q with q | q
 ·exact h _ s σ H x v vl vu lo hi sl Q I rx hs pl pu q
 ·exact h' _ s σ H x v vl vu lo hi sl Q I rx hs pl pu q
def tSl (r:V->Option Int->Option Int->Hp->VK->Prop)(te:TE)(tl th:TO):TE:=λσ H Q=>te σ H λx H1=>tl σ H1 λl H2=>th σ H2 λu H3=>r x l u H3 Q
theorem Ql {r:V->Option Int->Option Int->Hp->VK->Prop}(hr:SlR X r)(he:PE X e te)(hl:PO X lo tl)(hu:PO X hi th):PE X (.Subscript e (.Slice lo hi none p2) pos) (tSl r te tl th):=by
 intro pins s σ H Q I h;refine Subscript_ (thn (he _ s σ H _ I h) λv s1 ⟨x,H1,I1,r1,q1⟩=> ?_);refine wpAny_Slice (thn (hl _ s1 σ H1 _ I1 q1) λvl s2 ⟨l,H2,I2,pl,q2⟩=>thn (hu _ s2 σ H2 _ I2 q2) λvu s3 ⟨u,H3,I3,pu,q3⟩=> ?_);refine ax ?_;have I4:Inv X _ σ H3 { s3 with heap:=s3.heap.push { cls:= .type "slice",data:= .fields #[vl,vu,.none] } }:=I3.kept λb ob q=>aa _ q;obtain⟨T,id,hT,ht,hg⟩:=hr _ _ σ H3 x v vl vu l u _ Q I4 r1 (Heap.IsSliceOf.new ..) pl pu q3;exact tail_any ht hT hg (by with_unfolding_all rfl)
noncomputable def XB (xs:List V)(lo hi:Option Int):List V:=(xs.drop (HT.sIx xs.length 0 lo)).take (HT.sIx xs.length xs.length hi - HT.sIx xs.length 0 lo)
theorem Jp (xs:List V)(lo hi:Option Int):(XB xs lo hi).length<=xs.length:=by
 unfold XB;rw[cH,dR];omega
def rSlT (K:a9):V->Option Int->Option Int->Hp->VK->Prop:=λx lo hi H Q=>∃a xs,x= .ref a/\SqT K H a xs/\
 ¬ (HT.sIx xs.length 0 lo=0/\HT.sIx xs.length xs.length hi=xs.length)/\∀p,H p=none->Q (.ref p) (upd H p (.tup (XB xs lo hi)))
theorem ki:SlR X (rSlT X.K):=by
 intro pins s σ H x v vl vu lo hi sl Q I rx hs pl pu h;obtain⟨a,xs,rfl,hx,hw,q⟩:=h;cases rx;obtain⟨its,r,ht,hz⟩:=I.tuple hx;have hlen:its.toArray.size=xs.length:=by exact r.length.symm
 refine⟨"tuple",_,bc.lookup,ht.typeIs, ?_⟩;refine HT.getItem_tuple_cut ht hs pl pu (by rw[hlen];exact hw) ?_ (by rw[hlen];exact hz)
 rw[hlen];refine⟨.ref _,_,I.laid (λb ob q=>aa _ q) (ai _) ?_,rfl,q _ (I.hok.fresh (ai _))⟩;exact⟨aC (Jp xs lo hi) hz,_,(r.drop _).take _,ITN.new _ _⟩
def z07 (K:a9):R2:=λx y H Q=>∃a b xs ys,x= .ref a/\y= .ref b/\SqT K H a xs/\SqT K H b ys/\xs ≠ []/\xs.length+ys.length<=sizeLine/\
 (ys=[]->Q (.ref a) H)/\(ys ≠ []->∀p,H p=none->Q (.ref p) (upd H p (.tup (xs++ys))))
theorem zR.nil_iff (r:zR xs us):us=[]↔xs=[]:=by
 cases r with
 | nil=>simp
 | cons _ _=>simp
theorem VA:OpR X (binaryOp .Add) (z07 X.K):=by
 intro pins s σ H x y v u Q I rx ry h;obtain⟨a,b,xs,ys,rfl,rfl,ha,hb,hx,hz,q1,q2⟩:=h;cases rx;cases ry;obtain⟨its,r1,p1,_⟩:=I.tuple ha;obtain⟨its2,r2,p2,_⟩:=I.tuple hb;refine HT.cat_tup p1 p2 (λz=>hx (r1.nil_iff.mp z)) (λz=>⟨.ref a,H,I,rfl,q1 (r2.nil_iff.mp z)⟩) (λz=> ?_) (by rw[← r1.length,← r2.length];exact hz)
 refine⟨.ref _,_,I.laid (λb ob q=>aa _ q) (ai _) ?_,rfl,q2 (λw=>z (r2.nil_iff.mpr w)) _ (I.hok.fresh (ai _))⟩;exact⟨by rw[aA];exact hz,_,r1.append r2,ITN.new _ _⟩
end
end L2
namespace L2
open PySem PySem.Spec PyProof.Rows
noncomputable def ixN (n:Nat)(i:Int):Option Nat:=if 0<=i then (if i < n then some i.toNat else none) else if -(n:Int)<=i then some (i+n).toNat else none
def atI {α:Type}(xs:List α)(i:Int):Option α:=(ixN xs.length i).bind λj=>xs[j]?
theorem yJ (h:ixN n i=some j):seqIndex? i n=some j/\j < n/\ -(n:Int)<=i/\i < n:=by
 unfold ixN at h
 by_cases h0:0<=i
 ·rw[if_pos h0]at h
  by_cases h1:i < n
  ·rw[if_pos h1]at h;have e:=aq h;exact⟨by rw[seqIndex_of h0 h1,e],by omega,by omega,h1⟩
  ·rw[if_neg h1]at h;cases h
 ·rw[if_neg h0]at h
  by_cases h1: -(n)<=i
  ·rw[if_pos h1]at h;have e:=aq h;exact⟨by rw[seqIndex_neg (by omega) h1,e],by omega,h1,by omega⟩
  ·rw[if_neg h1]at h;cases h
theorem WU {α:Type}{xs:List α}{v:α}(h:atI xs i=some v):∃j,seqIndex? i xs.length=some j/\xs[j]? =some v/\j < xs.length/\ -(xs.length:Int)<=i/\i < xs.length:=by
 unfold atI at h;cases e:ixN _ i with
 | none=>rw[e]at h;cases h
 | some j=>
  rw[e]at h;obtain⟨h1,h2,h3,h4⟩:=yJ e;exact⟨j,h1,h,h2,h3,h4⟩
theorem ZY {α:Type}{xs:List α}{j:Nat}{v:α}(h:xs[j]? =some v):atI xs (j:Int)=some v:=by
 have hj:=(am.mp h).1;have e:ixN xs.length (j)=some j:=by
  unfold ixN;rw[if_pos (by omega),if_pos (by omega)];simp
 unfold atI;rw[e];exact h
noncomputable def Jq (b:Expr):Prop:=∀o i,subscripted b false o i=operate [o,i] (getItem o i)
def IxR (X:Cx)(r:R2):Prop:=
 ∀(value slice:Expr) (pins:List (Addr×Obj)) (s:Shared) (σ:St) (H:Hp) (x y:V) (v u:Value) (Q:VK),Inv X pins σ H s->Za x v->Za y u->r x y H Q->
  subscripted slice false v u=operate [v,u] (getItem v u)->wpAny (model X.prog X.w) X.A (subscriptTail value slice v u) (EP X pins σ Q) X.xe s
def MtR (X:Cx)(id:String)(r:V->List V->Hp->VK->Prop):Prop:=
 ∀(pins:List (Addr×Obj)) (s:Shared) (σ:St) (H:Hp) (x:V) (xs:List V) (v:Value) (us:List Value) (Q:VK),Inv X pins σ H s->Za x v->zR xs us->r x xs H Q->
  wpAny (model X.prog X.w) X.A (call (.builtin id) (v :: us)) (EP X pins σ Q) X.xe s
section
variable {X:Cx}{a b:Expr}{ta tb:TE}{pos:Pos}
theorem IxR.or (h:IxR X r)(h' :IxR X r'):IxR X (λx y H Q=>r x y H Q\/r' x y H Q):=by
 intro value slice pins s σ H x y v u Q I rx ry q hs;rcases q with q | q
 ·exact h _ _ _ s σ H x y v u Q I rx ry q hs
 ·exact h' _ _ _ s σ H x y v u Q I rx ry q hs
theorem Qm (hr:IxR X r)(ha:PE X a ta)(hb:PE X b tb)(hs:Jq b):PE X (.Subscript a b pos) (tOp r ta tb):=by
 intro pins s σ H Q I h;exact Subscript_ (GV ha hb I h λv u s2 x y H2 I2 rx ry q=>hr a b _ s2 σ H2 x y v u Q I2 rx ry q (hs _ _))
def rIxL (K:a9):R2:=λx y H Q=>∃p xs i v,x= .ref p/\y= .int i/\SqL K H p xs/\atI xs i=some v/\Q v H
def rIxT (K:a9):R2:=λx y H Q=>∃p xs i v,x= .ref p/\y= .int i/\SqT K H p xs/\atI xs i=some v/\Q v H
def rIxS:R2:=λx y H Q=>∃z i c,x= .str z/\y= .int i/\z.length<=sizeLine/\atI z.cps.toList i=some c/\Q (.str ⟨#[c]⟩) H
theorem VB:IxR X (rIxL X.K):=by
 intro value slice pins s σ H x y v u Q I rx ry h hs;obtain⟨p,xs,i,z,rfl,rfl,hq,he,q⟩:=h;cases rx;obtain⟨t,rfl⟩:=ry;obtain⟨its,r,pl,hz⟩:=I.list hq;obtain⟨j,h1,h2,h3,h4,h5⟩:=WU he;obtain⟨w,ew,rw'⟩:=r.get h2;have hl:=r.length;have hn:=JU;have fin:EP X _ σ Q w s:=⟨z,H,I,rw',q⟩
 by_cases h0:0<=i
 ·have hj:=by
   rw[seqIndex_of h0 h5]at h1;exact aq h1
  exact item_listR pl.isList h0 (by omega) (by rw[hj];simpa using ew) fin hs
 ·have hj:(i+(its.toArray.size)).toNat=j:=by
   rw[seqIndex_neg (by omega) h4]at h1
   rw[az,← hl];exact aq h1
  exact subscriptTail_builtinR pl.isList.typeIs slot_list_getitem.lookup
   (wpAny_getItem_list_neg pl.isList (by omega) (by rw[az] <;> omega) (by omega) (by rw[hj];simpa using ew) ⟨rfl,fin⟩) hs
theorem kl:IxR X (rIxT X.K):=by
 intro value slice pins s σ H x y v u Q I rx ry h hs;obtain⟨p,xs,i,z,rfl,rfl,hq,he,q⟩:=h;cases rx;obtain⟨t,rfl⟩:=ry;obtain⟨its,r,pl,hz⟩:=I.tuple hq;obtain⟨j,h1,h2,h3,h4,h5⟩:=WU he;obtain⟨w,ew,rw'⟩:=r.get h2;have hl:=r.length;have hn:=JU;have fin:EP X _ σ Q w s:=⟨z,H,I,rw',q⟩;exact subscriptTail_builtinR pl.typeIs slot_tuple_getitem.lookup
  (getItem_tuple pl (by omega) (by omega) (by rw[az,← hl];exact h1) (by simpa using ew) ⟨rfl,fin⟩) hs
theorem km:IxR X rIxS:=by
 intro value slice pins s σ H x y v u Q I rx ry h hs;obtain⟨z,i,c,rfl,rfl,hz,he,q⟩:=h;obtain⟨t,rfl⟩:=rx;obtain⟨t',rfl⟩:=ry;obtain⟨j,h1,h2,h3,h4,h5⟩:=WU he;have hl:z.cps.toList.length=z.length:=by simp[Str.length]
 rw[hl]at h1 h4 h5;have hn:=JU;exact tail_any (typeIs_str s z t) slot_str_getitem.lookup (getItem_str (by
  have e1:decide (i < -(2 ^ 63))=false:=decide_eq_false (by omega)
  have e2:decide (i ≥ 2 ^ 63)=false:=decide_eq_false (by omega)
  rw[e1,e2,Bool.or_false]) (by rw[h1];simpa using h2) ⟨.str _,H,I.tok _,⟨_,rfl⟩,q⟩) hs
def rIx (K:a9):R2:=λx y H Q=>rIxL K x y H Q\/rIxT K x y H Q\/rIxS x y H Q
theorem uv:IxR X (rIx X.K):=VB.or (kl.or km)
theorem Uz (its:List Value)(n j:Nat)(u:Value):ij (·.setIfInBounds j u) { cls:= .type "list",data:= .seq its.toArray n }={ cls:= .type "list",data:= .seq (its.set j u).toArray n }:=by
 simp[ij]
theorem Inv.lst (I:Inv X pins σ H s)(h:H p=some (.lst xs)):
  ∃(its:List Value) (n:Nat),zR xs its/\s.heap.get? p=some { cls:= .type "list",data:= .seq its.toArray n }/\xs.length<=sizeLine:=by
 obtain⟨z,its,n,r,e⟩:=I.hok p _ h;exact⟨its,n,r,e,z⟩
theorem Inv.lstUpd {pins:List (Addr×Obj)}{σ:St}{H:Hp}{s:Shared}{p:Addr}{xs ys:List V}{its its' :List Value}{n n' :Nat}{f:Obj->Obj}(I:Inv X pins σ H s)(h:H p=some (.lst xs))
  (ho:s.heap.get? p=some { cls:= .type "list",data:= .seq its.toArray n }) (hf:f { cls:= .type "list",data:= .seq its.toArray n }={ cls:= .type "list",data:= .seq its'.toArray n' }) (r:zR ys its') (hz:ys.length<=sizeLine) (t:Nat):
  Inv X pins σ (upd H p (.lst ys)) { s with heap:=s.heap.update p f,toks:=t }:=by
 have e:(s.heap.update p f).get? p=some { cls:= .type "list",data:= .seq its'.toArray n' }:=by
  rw[eQ f ho (by rw[hf] <;> rfl),hf]
 refine I.write (by rw[h];trivial) (.inl rfl) (λb u hb q=>(eH _ _ (aX hb)).trans q) ⟨_,e⟩ ?_
 exact⟨hz,its',n',r,e⟩
def z08:V->V->V->Hp->(Hp->Prop)->Prop:=λo i v H Q=>∃p xs k j,o= .ref p/\i= .int k/\H p=some (.lst xs)/\ixN xs.length k=some j/\Q (upd H p (.lst (xs.set j v)))
theorem Qn:PSet X z08:=by
 intro pins s σ H o i v ov iv u Q I ro ri rv h;obtain⟨p,xs,k,j,rfl,rfl,hp,hj,q⟩:=h;cases ro;obtain⟨t,rfl⟩:=ri;obtain⟨its,n,r,ho,hz⟩:=I.lst hp;obtain⟨h1,h2,h3,h4⟩:=yJ hj;have hl:=r.length;have hn:=JU;have I' :Inv X _ σ _ { s with heap:=s.heap.update p _ }:=
  I.lstUpd hp ho (Uz its n j u) (r.set rv j) (by rw[aF];exact hz) _
 by_cases h0:0<=k
 ·have hk:=by
   rw[seqIndex_of h0 h4]at h1;exact aq h1
  exact PySem.W.ki_setAt ho h0 (by omega) (by rw[az,← hl];exact h4) (by rw[hk];exact⟨_,I',q⟩)
 ·have hk:(k+(its.toArray.size)).toNat=j:=by
   rw[seqIndex_neg (by omega) h3]at h1
   rw[az,← hl];exact aq h1
  exact PySem.W.ki_setBack ho (by omega) (by rw[az,← hl];exact h3) (by omega) (by rw[hk];exact⟨_,I',q⟩)
theorem Wb (lo hi:Option Int)(n:Nat):(sliceBounds lo hi none n).1=((HT.sIx n 0 lo:Nat):Int)/\(sliceBounds lo hi none n).2.1=((HT.sIx n n hi:Nat):Int)/\(sliceBounds lo hi none n).2.2=1:=by
 refine⟨?_, ?_,rfl⟩
 ·cases lo with
  | none=>simp[sliceBounds,HT.sIx]
  | some i=>
   simp only[sliceBounds,HT.sIx,fS,show (1) > 0 by decide,if_true]
   by_cases h:i < 0
   ·simp only[h,if_true] <;> omega
   ·simp only[h,if_false] <;> omega
 ·cases hi with
  | none=>simp[sliceBounds,HT.sIx]
  | some i=>
   simp only[sliceBounds,HT.sIx,fS,show (1) > 0 by decide,if_true]
   by_cases h:i < 0
   ·simp only[h,if_true] <;> omega
   ·simp only[h,if_false] <;> omega
theorem ww (its:List Value)(lo hi:Option Int):slicePick its.toArray lo hi none=((its.drop (HT.sIx its.length 0 lo)).take (HT.sIx its.length its.length hi - HT.sIx its.length 0 lo)).toArray:=by
 obtain⟨h1,h2,h3⟩:=Wb lo hi _;unfold slicePick;rw[h1,h2,h3];simp only[sliceRange_one,pick_run,az] <;> rfl
def rSlL (K:a9):V->Option Int->Option Int->Hp->VK->Prop:=λx lo hi H Q=>∃a xs,x= .ref a/\SqL K H a xs/\∀p,H p=none->Q (.ref p) (upd H p (.lst (XB xs lo hi)))
theorem VC:SlR X (rSlL X.K):=by
 intro pins s σ H x v vl vu lo hi sl Q I rx hs pl pu h;obtain⟨a,xs,rfl,hx,q⟩:=h;cases rx;obtain⟨its,r,ht,hz⟩:=I.list hx;have hlen:=r.length;refine⟨"list",_,slot_list_getitem.lookup,ht.isList.typeIs, ?_⟩;refine wpAny_getItem_list_slice ht.isList hs pl pu .none (by simp) ?_ (by rw[az] <;> omega)
 rw[ww,← hlen];refine⟨.ref _,_,I.laid (λb ob q=>aa _ q) (ai _) ?_,rfl,q _ (I.hok.fresh (ai _))⟩;exact⟨aC (Jp xs lo hi) hz,_,0,(r.drop _).take _,ag _ rfl⟩
theorem Wc:Zo X (.builtin "len") (λxs H Q=>∃p ys,xs=[.ref p]/\(SqL X.K H p ys\/SqT X.K H p ys)/\Q (.int ys.length) H):=by
 intro pins s σ H xs us Q I r h;obtain⟨p,ys,rfl,hq,q⟩:=h;obtain⟨u,rfl,rx⟩:=ZK r;cases rx;have hn:=JU;rcases hq with hq | hq
 ·obtain⟨its,r',pl,hz⟩:=I.list hq;have hlen:=r'.length;exact Calls.call_len_list pl.isList (by simp only[az] <;> omega) ⟨.int _,H,I.tok _,⟨s.toks+1,by rw[az,hlen]⟩,q⟩
 ·obtain⟨its,r',pl,hz⟩:=I.tuple hq;have hlen:=r'.length;exact len_tuple pl (by simp only[az] <;> omega) ⟨.int _,H,I.tok _,⟨s.toks+1,by rw[az,hlen]⟩,q⟩
theorem Wd:Zo X (.builtin "len") (λxs H Q=>∃z,xs=[.str z]/\z.length<=sizeLine/\Q (.int z.length) H):=by
 intro pins s σ H xs us Q I r h;obtain⟨z,rfl,hz,q⟩:=h;obtain⟨u,rfl,t,rfl⟩:=ZK r;have hn:=JU;exact len_str (by omega) ⟨.int _,H,I.tok _,⟨_,rfl⟩,q⟩
theorem Zo.or {r r' :List V->Hp->VK->Prop}(h:Zo X f r)(h' :Zo X f r'):Zo X f (λxs H Q=>r xs H Q\/r' xs H Q):=by
 intro pins s σ H xs us Q I rs q;rcases q with q | q
 ·exact h _ s σ H xs us Q I rs q
 ·exact h' _ s σ H xs us Q I rs q
theorem Zp:Zo X (.type "list") (λxs H Q=>∃p ys,xs=[.ref p]/\(SqL X.K H p ys\/SqT X.K H p ys)/\∀l,H l=none->Q (.ref l) (upd H l (.lst ys))):=by
 intro pins s σ H xs us Q I r h;obtain⟨p,ys,rfl,hq,q⟩:=h;obtain⟨u,rfl,rx⟩:=ZK r;cases rx;have fin:∀(its:List _),zR ys its->ys.length<=sizeLine->∀(h' :Heap) (c' :Nat),(∀b o',s.heap.get? b=some o' ->h'.get? b=some o')->
   h'.get? _=some _->EP X _ σ Q _ { s with heap:=h' }:=λits r' hz h' c' kp e=>
  ⟨.ref _,_,I.laid kp (ai _) (show Zc _ X.w _ h' _ (.lst ys) from ⟨hz,its,c',r',e⟩),rfl,q _ (I.hok.fresh (ai _))⟩
 rcases hq with hq | hq
 ·obtain⟨its,r',pl,hz⟩:=I.list hq;have hlen:=r'.length;obtain⟨o,ho,hc,n,hd⟩:=pl.isList;exact call_list_seq p (.inl rfl) ho hc hd (λh' c' kp e=>fin its r' hz h' c' kp e) (by simp only[az] <;> omega)
 ·obtain⟨its,r',pl,hz⟩:=I.tuple hq;have hlen:=r'.length;obtain⟨o,ho,hc,n,hd⟩:=pl;exact call_list_seq p (.inr rfl) ho hc hd (λh' c' kp e=>fin its r' hz h' c' kp e) (by simp only[az] <;> omega)
theorem jw:Zo X (.type "tuple") (λxs H Q=>∃p ys,xs=[.ref p]/\((SqL X.K H p ys/\∀l,H l=none->Q (.ref l) (upd H l (.tup ys)))\/(SqT X.K H p ys/\Q (.ref p) H))):=by
 intro pins s σ H xs us Q I r h;obtain⟨p,ys,rfl,h⟩:=h;obtain⟨u,rfl,rx⟩:=ZK r;cases rx;rcases h with ⟨hq,q⟩ | ⟨hq,q⟩
 ·obtain⟨its,r',pl,hz⟩:=I.list hq;have hlen:=r'.length;refine call_tuple_list pl.isList (λh' kp=> ?_) (by simp only[az] <;> omega)
  have I1:Inv X _ σ H { s with heap:=h' }:=I.kept kp;have I2:Inv X _ σ (upd H _ (.tup ys)) { s with heap:=h'.push _ }:=
   I1.laid (λb o e=>aa _ e) (ai _) (show Zc _ X.w _ _ _ _ from ⟨hz,its,r',ITN.new _ _⟩)
  exact⟨.ref _,_,I2,rfl,q _ (I1.hok.fresh (ai _))⟩
 ·obtain⟨its,r',pl,hz⟩:=I.tuple hq;exact call_tuple_same pl ⟨.ref p,H,I,rfl,q⟩
def tyV (K:a9)(T:String)(x:V)(H:Hp):Prop:=match x with
 | .str _=>T="str"
 | .int _=>T="int"
 | .ref p=>(T="list"/\∃xs,SqL K H p xs)\/(T="tuple"/\∃o,K.lookup p=some o/\o.cls= .type "tuple"/\o.dict=none)\/
   (T="dict"/\((∃kvs,H p=some (.dK kvs))\/∃kvs,H p=some (.dT kvs)))\/(T="set"/\∃S n,H p=some (.set S n))
 | _=>False
theorem kq (I:Inv X pins σ H s)(r:Za x v)(ty:tyV X.K T x H):
  s.TypeIs v T/\∀a,v= .ref a->∃ob,s.heap.get? a=some ob/\ob.dict=none:=by
 cases x with
 | str z=>
  obtain⟨t,rfl⟩:=r;cases (ty);exact⟨typeIs_str s z t,λ_ e=>nomatch e⟩
 | int i=>
  obtain⟨t,rfl⟩:=r;cases (ty);exact⟨typeIs_int s i t,λ_ e=>nomatch e⟩
 | ref p=>
  cases r;rcases ty with ⟨rfl,xs,hq⟩ | ⟨rfl,o,hk,hc,hd⟩ | ⟨rfl,hk⟩ | ⟨rfl,S,n,hk⟩
  ·obtain⟨its,_,pl,_⟩:=I.list hq;refine⟨pl.isList.typeIs,λa e=> ?_⟩;cases e;obtain⟨o,n,e,c,hd,_⟩:=pl;exact⟨o,e,hd⟩
  ·refine⟨⟨o,I.kIn p o hk,hc⟩,λa e=> ?_⟩;cases e;exact⟨o,I.kIn _ o hk,hd⟩
  ·have z:∃o,s.heap.get? p=some o/\o.ExactDict:=by
    rcases hk with ⟨kvs,hk⟩ | ⟨kvs,hk⟩
    ·obtain⟨_,_,_,_,o,_,_,e,ex,_⟩:=I.hok p _ hk;exact⟨o,e,ex⟩
    ·obtain⟨_,_,_,_,o,_,_,e,ex,_⟩:=I.hok p _ hk;exact⟨o,e,ex⟩
   obtain⟨o,e,ex⟩:=z;refine⟨⟨o,e,ex.1⟩,λa e2=> ?_⟩;cases e2;exact⟨o,e,ex.2.1⟩
  ·obtain⟨o,_,_,_,e,ex,_⟩:=I.hok p _ hk;refine⟨⟨o,e,ex.1⟩,λa e2=> ?_⟩;cases e2;exact⟨o,e,ex.2.1⟩
 | _=>exact bj ty
def tBM (K:a9)(T:String)(r:V->List V->Hp->VK->Prop)(to:TE)(t:TA):TE:=λσ H Q=>to σ H λx H1=>tyV K T x H1/\t σ H1 λxs H2=>r x xs H2 Q
variable {o e:Expr}{es:List Expr}{to:TE}{t:TA}{name:Str}{apos cpos:Pos}{T id:String}{r:V->List V->Hp->VK->Prop}
theorem UA (pa:PlainAttrs T)(slot:Slot T name id)(hty:typeOf (.builtin id)=pure (.type "method_descriptor"))(hm:MtR X id r)(ho:PE X o to)(ha:PA X (e :: es) t)
  (hbase:attributeBase o name X.env (eval o X.env)=eval o X.env:=by rfl)
  (hfew:((backTo cpos (starEach (e :: es) X.env)).all (λx=> !x.1) && (backToKw cpos (keywordEach [] X.env)).all (λx=>x.1.isSome)
   && decide ((e :: es).length+([]:List Keyword).length+(if ([]:List Keyword).isEmpty then 0 else 1) < 30))=true:=by rfl)
  (hline:(apos.endLine == cpos.line)=true:=by rfl) (hs:starEach (e :: es) X.env=(false,eval e X.env) :: starEach es X.env:=by rfl) (hplain:(backTo cpos (starEach es X.env)).any (·.1)=false:=by rfl):
  PE X (.Call (.Attribute o name apos) (e :: es) [] cpos) (tBM X.K T r to t):=by
 intro pins s σ H Q I h;refine wpAny_Call_method_late hbase hfew hline rfl (thn (ho _ s σ H _ I h) λv s1 ⟨x,H1,I1,r1,ty,q1⟩=> ?_);obtain⟨h1,h2⟩:=kq I1 r1 ty;refine⟨T,id,pa,slot,hty,h1,h2, ?_⟩;have hA:=ha cpos _ s1 σ H1 _ I1 q1;rw[hs]at hA ⊢;refine Calls.callWith_builtin (by show (false || (backTo _ _).any _)=false;rw[hplain] <;> rfl) (Calls.evalArgs_plain ?_)
 exact thn hA λus s2 ⟨vs,H2,I2,r2,q2⟩=>hm _ s2 σ H2 x vs v us Q I2 r1 r2 q2
end
end L2
namespace L2
open PySem PySem.Spec PyProof.Rows
def MtM (X:Cx)(id:String)(r:V->List V->Hp->VK->Prop):Prop:=
 ∀(pins:List (Addr×Obj)) (s:Shared) (σ:St) (H:Hp) (x:V) (xs:List V) (v:Value) (us:List Value) (Q:VK),Inv X pins σ H s->Za x v->zR xs us->r x xs H Q->
  wpAny (model X.prog X.w) X.A (call (.builtin id) (v :: us)) (EP X pins σ Q) X.xe s
theorem zR.one:∀{x:V} {us:List Value},zR [x] us->∃u,us=[u]/\Za x u
 | _,_,.cons r .nil=>⟨_,rfl,r⟩
theorem zR.rep (h:zR xs us):∀k:Nat,zR (af k xs).flatten (af k us).flatten
 | 0=> .nil
 | k+1=>by
  exact zR.append h (zR.rep h k)
theorem jx (its:List Value):∀(k:Nat) (acc:List Value),
  dC (λx1 x2=>x1++x2) acc.toArray (af k its.toArray)=(acc++(af k its).flatten).toArray
 | 0,acc=>by simp
 | k+1,acc=>by
  have e:acc.toArray++its.toArray=(acc++its).toArray:=by simp
  have e2:(acc++its)++(af k its).flatten=acc++(af (k+1) its).flatten:=by
   rw[bE,dI,bf]
  rw[← e2,← jx its k _,← e,bE,List.foldl_cons]
section
theorem Inv.lset {its its' :List Value}{n:Nat}{f:Array Value->Array Value}{t' :Nat}(I:Inv X pins σ H s)(hH:H l=some (.lst xs))
  (e:s.heap.get? l=some { cls:= .type "list",data:= .seq its.toArray n }) (hf:f its.toArray=its'.toArray) (hv:zR ys its') (hz:ys.length<=sizeLine):
  Inv X pins σ (upd H l (.lst ys)) { s with heap:=s.heap.update l (ij f),toks:=t' }:=by
 have q:=PySem.IsL.update e f;rw[hf]at q;refine I.write (by rw[hH];exact trivial) (.inl rfl) (λb' u hb hu=>(eH _ _ (aX hb)).trans hu) ⟨_,q⟩ ?_
 exact⟨hz,its',_,hv,q⟩
theorem Inv.lnew (I:Inv X pins σ H s)(hv:zR ys its)(hz:ys.length<=sizeLine):
  Inv X pins σ (upd H s.heap.objs.size (.lst ys)) { s with heap:=s.heap.push { cls:= .type "list",data:= .seq its.toArray },toks:=t' }:=
 I.laid (λ_ _ q=>aa _ q) (ai _) ⟨hz,its,0,hv,ag _ rfl⟩
theorem Inv.fresh (I:Inv X pins σ H s):H s.heap.objs.size=none:=I.hok.fresh (ai _)
theorem Inv.lstM (I:Inv X pins σ H s)(hH:H l=some (.lst xs)):xs.length<=sizeLine/\∃(its:List Value) (n:Nat),zR xs its/\xs.length=its.length/\s.heap.get? l=some { cls:= .type "list",data:= .seq its.toArray n }:=by
 obtain⟨z,its,n,r,e⟩:=I.hok l _ hH;exact⟨z,its,n,r,r.length,e⟩
theorem uw (h:n<=sizeLine):cQ n=false:=by
 exact decide_eq_false (by omega)
end
section
variable {X:Cx}
def VD:V->List V->Hp->VK->Prop:=λx vs H Q=>∃l xs y,x= .ref l/\vs=[y]/\H l=some (.lst xs)/\xs.length < sizeLine/\Q .non (upd H l (.lst (xs++[y])))
theorem jy:MtM X "list.append" VD:=by
 intro pins s σ H x vs v us Q I rx rv h;obtain⟨l,xs,y,rfl,rfl,hH,hz,q⟩:=h;cases rx;obtain⟨u,rfl,ru⟩:=rv.one;obtain⟨z,its,n,r,hl,e⟩:=I.lstM hH;refine df F.slot_list_append ⟨_,e,rfl⟩ F.entry_list_append (F.args_list_append_2 _ _) (PySem.list_append l _ n u (by rw[az];omega)) ⟨e, ?_⟩
 refine⟨.non,_,I.lset hH e (by simp) (r.append (.cons ru .nil)) ?_,rfl,q⟩
 rw[aA,aK];omega
def VE:V->List V->Hp->VK->Prop:=λx vs H Q=>∃l b xs zs,x= .ref l/\vs=[.ref b]/\H l=some (.lst xs)/\H b=some (.lst zs)/\xs.length+zs.length<=sizeLine/\Q .non (upd H l (.lst (xs++zs)))
theorem yK:MtM X "list.extend" VE:=by
 intro pins s σ H x vs v us Q I rx rv h;obtain⟨l,b,xs,zs,rfl,rfl,hH,hB,hz,q⟩:=h;cases rx;obtain⟨u,rfl,ru⟩:=rv.one;cases ru;obtain⟨z,its,n,r,hl,e⟩:=I.lstM hH;obtain⟨z2,its2,n2,r2,hl2,e2⟩:=I.lstM hB;have hsz:its.toArray.size+its2.toArray.size<=sizeLine:=by rw[az,az];omega
 have hlong:¬ (!its.toArray.isEmpty && cQ (its.toArray.size+its2.toArray.size))=true:=by
  rw[uw hsz,Bool.and_false];exact aH
 refine df F.slot_list_extend ⟨_,e,rfl⟩ F.entry_list_extend (F.args_list_extend_2 _ _)
  (AutoSeq1.list_extend_list_list_0 l _ n b _ n2 hlong (by omega) (by omega)) ⟨e,e2, ?_⟩
 refine⟨.non,_,I.lset hH e (by simp) (r.append r2) ?_,rfl,q⟩
 rw[aA];omega
def rCat:R2:=λx y H Q=>∃l b xs zs,x= .ref l/\y= .ref b/\H l=some (.lst xs)/\H b=some (.lst zs)/\xs.length+zs.length<=sizeLine/\∀p,H p=none->Q (.ref p) (upd H p (.lst (xs++zs)))
theorem ku:OpR X (binaryOp .Add) rCat:=by
 intro pins s σ H x y v u Q I rx ry h;obtain⟨l,b,xs,zs,rfl,rfl,hH,hB,hz,q⟩:=h;cases rx;cases ry;obtain⟨z,its,n,r,hl,e⟩:=I.lstM hH;obtain⟨z2,its2,n2,r2,hl2,e2⟩:=I.lstM hB;refine PySem.P.add_list e e2 ?_ (by rw[az,az];omega)
 have ea:its.toArray++its2.toArray=(its++its2).toArray:=by simp
 rw[ea];exact⟨.ref _,_,I.lnew (r.append r2) (by rw[aA];omega),rfl,q _ I.fresh⟩
def rRep:R2:=λx y H Q=>∃l k xs,x= .ref l/\y= .int k/\H l=some (.lst xs)/\ -(2 ^ 63)<=k/\k < 2 ^ 63/\xs.length*k.toNat<=sizeLine/\
 ∀p,H p=none->Q (.ref p) (upd H p (.lst (af k.toNat xs).flatten))
theorem jN {α:Type}(xs:List α)(k:Nat):(af k xs).flatten.length=k*xs.length:=by
 induction k with
 | zero=>simp
 | succ k ih=>rw[bE,dI,aA,ih,fG,Nat.add_comm]
theorem kv:OpR X (binaryOp .Mult) rRep:=by
 intro pins s σ H x y v u Q I rx ry h;obtain⟨l,k,xs,rfl,rfl,hH,h1,h2,hz,q⟩:=h;cases rx;obtain⟨t,rfl⟩:=ry;obtain⟨z,its,n,r,hl,e⟩:=I.lstM hH;have hlen:its.toArray.size*k.toNat<=sizeLine:=by rw[az,← hl];exact hz
 have hcap:¬ its.toArray.size*k.toNat > (2 ^ 63 - 1) / 8:=by
  have:(sizeLine)<=(2 ^ 63 - 1) / 8:=by decide
  omega
 have hfit:¬ (!Builtin.List.listFitsIndex k)=true:=by
  rw[fitsIndex_both h1 h2];exact aH
 have hlong:¬ cQ (its.toArray.size*k.toNat)=true:=by
  rw[uw hlen];exact aH
 have hnew:dC (λx1 x2=>x1++x2) #[] (af (if its.toArray.isEmpty=true then 0 else k.toNat) its.toArray)=(af k.toNat its).flatten.toArray:=by
  have f0:∀m,dC (λx1 x2=>x1++x2) #[] _=(af m its).flatten.toArray:=λm=>by
   have:=jx its m [];exact this
  rw[f0];cases its with
  | nil=>simp
  | cons a r' =>rw[if_neg (by simp)]
 refine wpAny_binaryOp_repeat_ref (by decide) ⟨_,e,rfl⟩ (λs' =>typeIs_int s' k t) noFill_list_mul h_ di repeat_list fT.lookup
  (df di (typeIs_int s k t) fU (fH _ _) (int___rmul___int_list k t l _ n)
   ⟨e,rfl,⟨_,e,rfl⟩,df F.slot_list_mul ⟨_,e,rfl⟩ F.entry_list_mul (F.args_list_mul_2 _ _) (AutoListH.list___mul___list_int_3 l _ n k t hfit hcap hlong) ⟨e, ?_⟩⟩)
 rw[hnew];exact⟨.ref _,_,I.lnew (r.rep _) (by rw[jN,bP];exact hz),rfl,q _ I.fresh⟩
end
section
end
section
end
end L2
namespace Att
open PySem PySem.W PySem.Calls PyProof.Rows
theorem Jr {P:Params}:∀(ns:List Int) (vs:List Value),WellAll P h vs (ns.map WData.int)->IntsAre vs ns:=by
 intro ns
 induction ns with
 | nil=>
  intro vs w;cases w;exact .nil
 | cons n ns ih=>
  intro vs w;cases w with
  | cons a b=>
   cases a;exact .cons _ _ (ih _ b)
theorem yL {l:OpenLaw}(hn:l.most=some n){P:Params}{args:List WData}
  (hpre:l.row.toRowW.claim.pre args=true) (hwl:WellAll P h vals args):
  ∃a vs ns,vals=[Value.ref a]/\args=[WData.list (ns.map WData.int)]/\h.get? a=some { cls:= .type "list",data:= .seq vs.toArray }/\IntsAre vs ns/\ns.length<=n:=by
 have hsh:=(pre_splitW hpre).1;have hc:=(pre_splitW hpre).2;obtain⟨d,r,rfl,h1,h2⟩:=hasAllW_cons hsh;obtain rfl:=hasAllW_nil h2;obtain⟨xs,rfl,h3⟩:=hasW_list h1;obtain⟨ns,rfl⟩:=items_int h3;have hlen:ns.length<=n:=by
  have h4:=by
   have h4:=(holds_andW hc).1;rw[hn]at h4;exact h4
  have h5:=condW_of h4 (w_not (w_lt w_lit (w_len_list (w_arg rfl))));rw[ae]at h5;refine Nat.le_of_not_lt λq=> ?_;have q' :(n) < ((ns.length):Int):=by omega
  first
   | (rw[decide_eq_true q']at h5;exact absurd h5 (by decide))
   | (simp at h5)
 cases hwl with
 | cons w1 w2=>
  cases w2;cases w1 with
  | list ho hall=>exact⟨_,_,ns,rfl,rfl,ho,Jr ns _ hall,hlen⟩
theorem yM (l:OpenLaw)(args:List WData):l.row.toRowW.claim.post args (.bool true) args=true:=
 postW_of
  (show WShape.has [] _ _=true by first | rfl | decide | simp[WShape.has,WShape.arms,WShape.armsAll])
  (show (WTm.eq _ _).value [] _=some _ from w_eq_bool (w_res rfl) w_lit) rfl
theorem attach_call {l:OpenLaw}{XP:(Str->Option Value)->Heap->Prop}{YP:World->Heap->Prop}{d:DefRec}
  (hn:l.most=some n) (hdf:d.params.defaults=[])
  (call:∀(w:World) (s₀ s₁:Shared) (mg mb:Str->Option Value) (fa:Addr) (o:Obj) (pm cd doc:Value) (a:Addr) (vs:List Value) (ns:List Int),
   Ground q loose [] XP w s₀ mg mb s₁.heap->YP w s₁.heap->
   s₁.heap.get? fa=some o->o.data= .func (docDef d.name d.params d.body d.scope pm cd doc)->s₁.heap.CodeRec cd d.name->mg d.name=some (.ref fa)->
   s₁.heap.get? a=some { cls:= .type "list",data:= .seq vs.toArray }->IntsAre vs ns->ns.length<=n->s₁.gens= #[]->
   codeAny (model l.prog w) callerA (.call (.ref fa) ⟨[.ref a],[]⟩) (λr s' =>r= .ok (.ret (.bool true))/\OldK s₁.heap s'.heap/\s'.os=s₁.os/\AllBare s'.gens) s₁):
  WalkO q loose XP YP l.row.toRowW d [] (λf vs=>ik f vs):=by
 intro w s₀ s₁ mg mb G Y fa o pm cd doc dV kV ho hd hcd hD hmg hg args vals as hpre hlay hrd hwl hlo;obtain rfl:dV= .none:=Dflts.none hD hdf;obtain rfl:kV= .none:=Dflts.noKw hD;obtain⟨a,vs,ns,rfl,rfl,hobj,hints,hlen⟩:=yL hn hpre hwl;refine enter_call (cg (call w _ _ mg mb fa o pm cd doc a vs ns G Y ho (fd_plain hd) hcd hmg hobj hints hlen hg) λr s' hq=> ?_);obtain⟨rfl,h2,h3,h4⟩:=hq;exact⟨.inl ⟨.bool _,.bool _,[],rfl,λ_=>rfl,.bool _,yM l _,λ_=>⟨List.Pairwise.nil,λ_ hm=>(nomatch hm)⟩⟩,h2,h3,h4⟩
end Att
namespace L2
open PySem PySem.Spec PyProof.Rows
theorem We:∀{vs:List Value} {ns:List Int},IntsAre vs ns->zR (ns.map V.int) vs
 | _,_,.nil=> .nil
 | _,_,.cons n t h=> .cons ⟨t,rfl⟩ (We h)
end L2
namespace L2
open PySem PySem.Spec PyProof.Rows
end L2
namespace L2
open PySem PySem.Spec PyProof.Rows
noncomputable def Zs (s:Stmt):Arguments:=match s with
 | .FunctionDef _ a _ _ _ _ _ _ _ _=>a
 | _=>{ posonlyargs:=[],args:=[],vararg:=none,kwonlyargs:=[],kw_defaults:=[],kwarg:=none,defaults:=[] }
noncomputable def zK (s:Stmt):List Stmt:=match s with
 | .FunctionDef _ _ b _ _ _ _ _ _ _=>b
 | _=>[]
noncomputable def zq (s:Stmt):Scope:=match s with
 | .FunctionDef _ _ _ _ _ _ sc _ _ _=>sc
 | _=>{ kind:= .function,names:=[],isGenerator:=false,isCoroutine:=false }
abbrev CX0:CXT:=λ_ _ _ _ _ _=>False
structure Fun (K:a9) (x qual:Str) (st:Stmt) (f:Addr) (fd:FuncData):Prop where
 ex:∃(oc:Value) (od:Option Addr) (kV doc pm:Value) (an:Option Addr) (cdv ct:Value) (osl:Array (Option Value)),
  fd=bv x qual (Zs st) (zK st) (zq st) .none kV doc pm an cdv ct/\K.lookup f=some ⟨oc,od,.func fd,osl⟩/\d3 K cdv qual=true
 kp:bG K (.ref f)=true
section
variable {P:Program}{w:World}{K:a9}{mg:Str->Option Value}{base:Heap}
theorem Fun.ok {x qual:Str}{st:Stmt}{f:Addr}{fd:FuncData}{N ps:List Str}{k:Nat}{sp:Sp}(F:Fun K x qual st f fd)(S:ZF N ps (zq st))(len:∀vs H Q E,sp vs H Q E->vs.length=ps.length)
  (hbody:∀(cdv:Value) (A:Around) (outer:List Env) (s:Shared) (H:Hp) (vs:List V) (Q:VK) (E:XK),Zy k (A.deeper (envOfC qual (zq st) s.heap.objs.size f cdv))->sp vs H Q E->
   ∃t,PSs (jv CX0 P w K mg base N qual (zq st) f cdv A outer s H E).nox (zK st) t/\t { nx:=λ_ H' =>Q .non H',rt:=Q } (start N vs) H):ZX P w K mg base CX0 (k+1) f fd ps sp:=by
 obtain⟨oc,od,kV,doc,pm,an,cdv,ct,osl,rfl,lk,hcd⟩:=F.ex;refine Vw lk hcd S len λA outer s H vs Q E hr hsp=> ?_;obtain⟨t,h,q⟩:=hbody cdv A _ s H vs Q E hr hsp;exact⟨t,h.nox,q⟩
theorem Fun.binds {x qual:Str}{st:Stmt}{f:Addr}{fd:FuncData}{ps:List Str}(F:Fun K x qual st f fd)
  (h:∀(kV doc pm:Value) (an:Option Addr) (cdv ct:Value) (us:List Value),us.length=ps.length->bindArgs (bv x qual (Zs st) (zK st) (zq st) .none kV doc pm an cdv ct) ⟨us,[]⟩=pure (ps.zip us)):Binds K fd ps []:=by
 obtain⟨oc,od,kV,doc,pm,an,cdv,ct,osl,rfl,lk,hcd⟩:=F.ex;exact .all (h kV doc pm an cdv ct)
theorem vC {x qual:Str}{st:Stmt}{f:Addr}{oc:Value}{od an:Option Addr}{osl:Array (Option Value)}{kV doc pm cdv ct:Value}(l:K.lookup f=some ⟨oc,od,.func (bv x qual (Zs st) (zK st) (zq st) .none kV doc pm an cdv ct),osl⟩)
  (c:d3 K cdv qual=true) (k:bG K (.ref f)=true):Fun K x qual st f (bv x qual (Zs st) (zK st) (zq st) .none kV doc pm an cdv ct):=⟨⟨oc,od,kV,doc,pm,an,cdv,ct,osl,rfl,l,c⟩,k⟩
end
section
theorem pv (i:Nat)(hN:X.N[i]? =some x:=by rfl)(hv:Vis X.env.scope x:=by first | exact Or.inl rfl | exact Or.inr (Or.inl rfl) | exact Or.inr (Or.inr rfl))(hd:(x == ("__debug__":Str))=false:=by decide)
  (hcd:(x == ("__classdict__":Str))=false:=by decide):PE X (.Name x pos) (jK i):=W6 hN hv hd hcd
end
def zt (H H' :Hp):Prop:=∀b o,H b=some o->H' b=some o
theorem zt.refl (H:Hp):zt H H:=λ_ _ h=>h
theorem zt.trans (a:zt H H1)(b:zt H1 H2):zt H H2:=λc o h=>b c o (a c o h)
theorem zt.free (e:zt H H')(h:H' l=Option.none):H l=Option.none:=by
 cases q:H l with
 | none=>rfl
 | some o=>
  rw[e l o q]at h;cases h
end L2
namespace L2
open PySem PySem.Spec PyProof.Rows PySem.W
theorem ux (h:env.frame=some L):frs (env :: outer)=L :: frs outer:=by
 unfold frs;rw[cN,h]
structure Ge (P:Program) (w:World) (outer:List Env) (H:Hp) (s s' :Shared) (ea:Addr) (cls a0:Value) (B:Heap) (H' :Hp):Prop where
 os:s'.os=s.os
 bare:AllBare s'.gens
 fly:Heap.FlyingW B outer ea cls a0 s'.heap
 hok:HOk P w H' B
 un:Un (frs outer) [] H H' s.heap s'.heap
 inB:∀b o,s.heap.get? b=some o->b ∉ frs outer->(H b=none->B.get? b=some o)/\∃o',B.get? b=some o'
def CX1 (P:Program)(w:World):CXT:=λouter H s E e s' =>∃ea cls a0 B H',e= .ref ea/\Ge P w outer H s s' ea cls a0 B H' /\E cls none H'
section
variable {X:Cx}{pins:List (Addr×Obj)}{σ:St}{H H' :Hp}{s s' :Shared}{ea:Addr}{cls a0:Value}{B:Heap}{h' h'' :Heap}
theorem Inv.frNf (I:Inv X pins σ H s):∀b∈frs X.stack,H b=none/\∃o,s.heap.get? b=some o/\∀vs,o.data ≠ .fields vs:=λb hb=>⟨I.stkFree b hb,(I.stack.mem hb).2⟩
theorem Inv.old (I:Inv X pins σ H s)(hX:X.stack=X.env :: X.outer)(hf:X.env.frame=some X.env.locals)(e:X.s₀.heap.get? b=some o)(hb:b ∉ frs X.outer):b ∉ frs X.stack:=by
 rw[hX,ux hf];intro z;rcases ah.mp z with z | z
 ·exact absurd (aG (ao e) I.ok.above) (by rw[z];exact aY _)
 ·exact hb z
theorem yN {X:Cx}(hX:X.stack=X.env :: X.outer)(hf:X.env.frame=some X.env.locals){b:Addr}(hb:b∈frs X.outer):b∈frs X.stack:=by
 rw[hX,ux hf];exact a8 _ hb
theorem Ge.out (I:Inv X pins σ H s)(hX:X.stack=X.env :: X.outer)(hf:X.env.frame=some X.env.locals)(hex:X.ex=[])(L:Ge X.prog X.w X.stack H s s' ea cls a0 B H')
  (fl:Heap.FlyingW B X.outer ea cls a0 h') (sl:s'.heap.UpToSlots h'):Ge X.prog X.w X.outer X.H₀ X.s₀ { s' with heap:=h' } ea cls a0 B H' where
 os:=L.os.trans I.os
 bare:=L.bare
 fly:=fl
 hok:=L.hok
 inB:=λb o e hb=>by
  have nx:b ∉ X.ex:=by rw[hex];simp
  obtain⟨o1,e1⟩:=I.base.there b o e nx;have hb' :=I.old hX hf e hb;exact⟨λn=>(L.inB b o (I.base.keep b o e n hb nx) hb').1 (I.base.free b o e n nx),(L.inB b o1 e1 hb').2⟩
 un:=by
  have nx:∀b,b ∉ X.ex:=λb=>by rw[hex];simp
  have slot:∀b o,X.s₀.heap.get? b=some o->X.H₀ b=none->b∈frs X.outer->∃sl,h'.get? b=some { o with slots:=sl }:=λb o e n hb=>by
   obtain⟨sl1,e1⟩:=I.base.slot b o e n hb (nx b);have n1:=I.base.free b o e n (nx b);obtain⟨sl2,e2⟩:=L.un.slot b _ e1 n1 (yN hX hf hb) (by simp)
   obtain⟨_,o3,e3,nf⟩:=I.frNf b (yN hX hf hb);rw[e1]at e3;cases e3;obtain⟨sl4,e4⟩:=sl b _ e2 nf;exact⟨sl4,e4⟩
  refine⟨λb o e n hb _=> ?_,λb o e n hb _=>slot b o e n hb,λb o e n _=> ?_,λb o e _=> ?_,λb xs e=>L.un.tups b xs (I.base.tups b xs e),λb o xs e=>L.un.frzs b o xs (I.base.frzs b o xs e),λb ps q e=>L.un.tbls b ps q (I.base.tbls b ps q e)⟩
  ·exact fl.1 b o ((L.inB b o (I.base.keep b o e n hb (nx b)) (I.old hX hf e hb)).1 (I.base.free b o e n (nx b)))
  ·obtain⟨o1,e1⟩:=I.base.there b o e (nx b);exact L.un.free b o1 e1 (I.base.free b o e n (nx b)) (by simp)
  ·by_cases hb:b∈frs X.outer
   ·obtain⟨sl1,e1⟩:=slot b o e (I.ok.frf b hb) hb;exact⟨_,e1⟩
   ·obtain⟨o1,e1⟩:=I.base.there b o e (nx b);obtain⟨o',e'⟩:=(L.inB b o1 e1 (I.old hX hf e hb)).2;exact⟨o',fl.1 b o' e'⟩
end
section
variable {P:Program}{w:World}{K:Frag}{mg:Str->Option Value}{base:Heap}{N:List Str}{qual:Str}{scope:Scope}{f:Addr}{cd:Value}{A:Around}{outer:List Env}{s:Shared}{H:Hp}{E:XK}
theorem UB:Z9 (CX1 P w) (jv (CX1 P w) P w K mg base N qual scope f cd A outer s H E) E:=by
 intro pins σ H1 s1 e s' I ⟨ea,cls,a0,B,H',he,L,hE⟩;subst he;exact wpAny_leaves_onW I.ok.frames rfl L.fly λh' fl sl=>⟨ea,cls,a0,B,H',rfl,L.out I rfl rfl rfl fl sl,hE⟩
end
end L2
namespace L2
open PySem PySem.Spec PyProof.Rows PySem.W
noncomputable def ExAt (cls:Value)(a:Addr)(h:Heap):Prop:=∃o,h.get? a=some o/\o.cls=cls
section
end
end L2
namespace L2
open PySem PySem.Spec PyProof.Rows PySem.W
section
end
end L2
namespace PySem
open PySem.W
section
end
end PySem
namespace L2
open PySem PySem.Spec PyProof.Rows PySem.W
section
def kx (X:Cx)(E:XK):Prop:=∀(pins:List (Addr×Obj)) (σ:St) (H:Hp) (s:Shared) (e:Value) (s' :Shared) (C:Addr) (m:Str->Option Value) (E' :Value->Shared->Prop) (cenv:Env),Inv X pins σ H s->s.heap.Ns C m->H C=none->X.s₀.heap.objs.size<=C->C ∉ frs X.stack->cenv.frame=X.env.frame->CX1 X.prog X.w X.stack H s E e s' ->
 wpAny (model X.prog X.w) X.A (noteFrame e cenv) (λ_ s'' =>∃m,s''.heap.Ns C m/\∀h',bT C s''.heap h' ->∀env:Env,env.locals=C->wpAny (model X.prog X.w) X.A (passOn "comprehension.variables-let-go" e env:Sem Value) (λ_ _=>False) X.xe { s'' with heap:=h' }) E' s'
theorem jO (h:E=λ_ _ _=>False):kx X E:=λpins σ H s e s' C m E' cenv I _ _ _ _ _ ⟨_,_,_,_,_,_,_,z⟩=>by subst h;exact z.elim
end
end L2
namespace L2
open PySem PySem.Spec PyProof.Rows
theorem PE.imp (h:PE X e t)(i:∀σ H Q,t' σ H Q->t σ H Q):PE X e t' :=λpins s σ H Q I q=>h _ s σ H Q I (i σ H Q q)
theorem PT.imp (h:PT X e t)(i:∀σ H Q,t' σ H Q->t σ H Q):PT X e t' :=λpins s σ H Q I q=>h _ s σ H Q I (i σ H Q q)
theorem PA.imp (h:PA X e t)(i:∀σ H Q,t' σ H Q->t σ H Q):PA X e t' :=λpos pins s σ H Q I q=>h pos _ s σ H Q I (i σ H Q q)
theorem PS.imp (h:PS X e t)(i:∀D σ H,t' D σ H->t D σ H):PS X e t' :=λpins s σ H D I q=>h _ s σ H D I (i D σ H q)
theorem PSs.imp (h:PSs X e t)(i:∀D σ H,t' D σ H->t D σ H):PSs X e t' :=λpins s σ H D I q=>h _ s σ H D I (i D σ H q)
end L2
namespace PV
open PySem
noncomputable def Wf:Expr->Bool
 | .Starred _ _=>false
 | _=>true
theorem zN (h:Wf e=true):starEach (e :: rest) env=(false,eval e env) :: starEach rest env:=by
 cases e <;> first | rfl | cases h
theorem st2 (h:Wf a=true)(h' :Wf b=true):starEach [a,b] env=[(false,eval a env),(false,eval b env)]:=by
 rw[zN h,zN h'];rfl
theorem st1 (h:Wf a=true):starEach [a] env=[(false,eval a env)]:=by
 rw[zN h];rfl
theorem Zf {pos:Pos}{env:Env}:∀{es:List Expr},es.all Wf=true->((backTo pos (starEach es env)).any λx=>x.fst)=false
 | [],_=>rfl
 | e :: es,h=>by
  rw[cu,ac]at h;rw[zN h.1];have:=Zf (pos:=pos) (env:=env) h.2;show (false || ((backTo pos _).any λx=>x.fst))=false
  rw[this];rfl
open PySem PySem.Spec PyProof.Rows L2
noncomputable abbrev Sg:=L2.St
inductive T where
 | non | bl (b:Bool) | int (i:Int) | str (x:Str) | tup (xs:List T) | lst (xs:List T) | fz (xs:List T)
inductive R (α:Type) where
 | ok (a:α) | ex (c:Nat) | bad
noncomputable def R.bind {α β:Type}(r:R α)(f:α->R β):R β:=match r with
 | .ok a=>f a
 | .ex c=> .ex c
 | .bad=> .bad
mutual
inductive Rep (H:Hp):V->T->Prop where
 | non:Rep H .non .non
 | bl (b:Bool):Rep H (.bl b) (.bl b)
 | int (i:Int):Rep H (.int i) (.int i)
 | str (x:Str):Rep H (.str x) (.str x)
 | tup {a:Addr} {xs:List V} {ts:List T}:H a=some (.tup xs)->zB H xs ts->Rep H (.ref a) (.tup ts)
 | lst {a:Addr} {xs:List V} {ts:List T}:H a=some (.lst xs)->zB H xs ts->Rep H (.ref a) (.lst ts)
 | fz {a:Addr} {o:Obj} {xs:List V} {ts:List T}:H a=some (.frz o (.lst xs))->zB H xs ts->Rep H (.ref a) (.fz ts)
inductive zB (H:Hp):List V->List T->Prop where
 | nil:zB H [] []
 | cons {v:V} {t:T} {vs:List V} {ts:List T}:Rep H v t->zB H vs ts->zB H (v :: vs) (t :: ts)
end
mutual
theorem Rep.mono {H H' :Hp}(s:zt H H'):∀{v:V} {t:T},Rep H v t->Rep H' v t
 | _,_,.non=> .non
 | _,_,.bl b=> .bl b
 | _,_,.int i=> .int i
 | _,_,.str x=> .str x
 | _,_,.tup h r=> .tup (s _ _ h) (zB.mono s r)
 | _,_,.lst h r=> .lst (s _ _ h) (zB.mono s r)
 | _,_,.fz h r=> .fz (s _ _ h) (zB.mono s r)
theorem zB.mono {H H' :Hp}(s:zt H H'):∀{v:List V} {t:List T},zB H v t->zB H' v t
 | _,_,.nil=> .nil
 | _,_,.cons h r=> .cons (Rep.mono s h) (zB.mono s r)
end
theorem zB.length {H:Hp}:∀{vs:List V} {ts:List T},zB H vs ts->vs.length=ts.length
 | _,_,.nil=>rfl
 | _,_,.cons _ r=>congrArg _ (zB.length r)
theorem zB.get {H:Hp}:∀{vs:List V} {ts:List T} {i:Nat} {t:T},zB H vs ts->ts[i]? =some t->∃v,vs[i]? =some v/\Rep H v t
 | _,_,_,_,.nil,e=>by simp at e
 | _,_,0,_,.cons r _,e=>by simp at e;subst e;exact⟨_,rfl,r⟩
 | _,_,i+1,t,.cons _ q,e=>by
  obtain⟨v,h1,h2⟩:=zB.get q (by simpa using e)
  exact⟨v,by simpa using h1,h2⟩
theorem zB.getV {H:Hp}:∀{vs:List V} {ts:List T} {i:Nat} {v:V},zB H vs ts->vs[i]? =some v->∃t,ts[i]? =some t/\Rep H v t
 | _,_,_,_,.nil,e=>by simp at e
 | _,_,0,_,.cons r _,e=>by simp at e;subst e;exact⟨_,rfl,r⟩
 | _,_,i+1,v,.cons _ q,e=>by
  obtain⟨t,h1,h2⟩:=zB.getV q (by simpa using e)
  exact⟨t,by simpa using h1,h2⟩
theorem zB.append {H:Hp}:∀{vs ws:List V} {ts us:List T},zB H vs ts->zB H ws us->zB H (vs++ws) (ts++us)
 | _,_,_,_,.nil,q=>q
 | _,_,_,_,.cons r t,q=> .cons r (zB.append t q)
theorem zB.take {H:Hp}:∀{vs:List V} {ts:List T} (n:Nat),zB H vs ts->zB H (vs.take n) (ts.take n)
 | _,_,0,_=> .nil
 | _,_,_+1,.nil=> .nil
 | _,_,n+1,.cons r t=> .cons r (zB.take n t)
theorem zB.drop {H:Hp}:∀{vs:List V} {ts:List T} (n:Nat),zB H vs ts->zB H (vs.drop n) (ts.drop n)
 | _,_,0,r=>r
 | _,_,_+1,.nil=> .nil
 | _,_,n+1,.cons _ t=>zB.drop n t
theorem zB.rep {H:Hp}{vs:List V}{ts:List T}(h:zB H vs ts):∀n:Nat,zB H (af n vs).flatten (af n ts).flatten
 | 0=> .nil
 | n+1=>by
  exact h.append (zB.rep h n)
theorem zB.nil_iff (h:zB H vs ts):vs=[]↔ts=[]:=by
 cases h <;> simp
def zH (B H H' :Hp):Hp:=λb=>match H b with
 | none=>H' b
 | some _=>B b
theorem zW (h:H b=none):zH B H H' b=H' b:=by unfold zH;rw[h]
theorem Z1 (h:H b=some o):zH B H H' b=B b:=by unfold zH;rw[h]
theorem zH.ge (s:zt B H)(s' :zt H H'):zt B (zH B H H'):=λb o h=>by
 rw[Z1 (s b o h)];exact h
theorem zH.le (s:zt B H)(s' :zt H H'):zt (zH B H H') H' :=λb o h=>by
 cases q:H b with
 | none=>rw[zW q]at h;exact h
 | some u=>rw[Z1 q]at h;exact s' b o (s b o h)
theorem zH.self (B H:Hp)(s:zt B H):zH B H H=B:=by
 funext b
 cases q:H b with
 | none=>
  rw[zW q,q];cases z:B b with
  | none=>rfl
  | some o=>rw[s b o z]at q;cases q
 | some u=>rw[Z1 q]
theorem zH.trans (s1:zt H H1)(s2:zt H1 H2):zH (zH B H H1) H1 H2=zH B H H2:=by
 funext b
 cases q:H b with
 | none=>
  rw[zW q];cases z:H1 b with
  | none=>rw[zW z]
  | some o=>rw[Z1 z,zW q,z,s2 b o z]
 | some u=>rw[Z1 q,Z1 (s1 b u q),Z1 q]
inductive Fd where
 | tv (t:T) | tl (ts:List T)
noncomputable abbrev Ob:=Nat×List (Str×Fd)
noncomputable def vD:List Str:=["kind","remaining","done","undone","first","last","answered"]
def InC (vs:List (Str×V)):Prop:=∀f,f ∉ vD->vs.lookup f=none
inductive Sl where
 | un | vl (t:T) | ow (ts:List T) | xc (c:Nat) | ob (k n:Nat) | oc (k:Nat) (fs:List (Str×Fd)) | st (os:List Ob)
noncomputable def Sl.isS:Sl->Bool
 | .ob _ _=>true
 | .st _=>true
 | _=>false
noncomputable def Sl.isO:Sl->Bool
 | .ob _ _=>true
 | .oc _ _=>true
 | .st _=>true
 | _=>false
noncomputable abbrev En:=List Sl
structure Fx where
 B0:Hp
 H0:Hp
 E:XK
 cl:Nat->Value
 as:List Addr
def WV (ρ:En)(σ:Sg)(l:Addr):Prop:=∀(j:Nat) (us:List T),ρ[j]? =some (Sl.ow us)->σ[j]? ≠ some (some (V.ref l))
def FdR (Y:Fx)(B:Hp)(ρ:En)(σ:Sg)(H:Hp)(o:Addr->Prop)(v:V):Fd->Prop
 | .tv t=>Rep B v t
 | .tl ts=>∃l xs,v= .ref l/\B l=none/\Y.H0 l=none/\H l=some (.lst xs)/\zB B xs ts/\WV ρ σ l/\o l
def FsO (B H:Hp)(vs:List (Str×V))(fs:List (Str×Fd)):Prop:=∀(m:Nat) (f:Str) (d:Fd),fs[m]? =some (f,d)->∃v,vs[m]? =some (f,v)/\match d with
 | .tv t=>Rep B v t
 | .tl ts=>∃l xs,v= .ref l/\H l=some (.lst xs)/\zB B xs ts
theorem FsO.mono {B B' H H' :Hp}{vs:List (Str×V)}{fs:List (Str×Fd)}(h:FsO B H vs fs)(s:zt B B')(s' :zt H H'):FsO B' H' vs fs:=λm f d e=>by
 obtain⟨v,e1,r⟩:=h m f d e;refine⟨v,e1, ?_⟩;cases d with
 | tv t=>exact Rep.mono s r
 | tl ts=>obtain⟨l,xs,a,b,c⟩:=r;exact⟨l,xs,a,s' _ _ b,c.mono s⟩
structure StI (Y:Fx) (B:Hp) (ρ:En) (σ:Sg) (H:Hp) (as:List Addr) (O:Addr->Option (Nat×Nat)):Prop where
 pre:Y.as <+:as
 len:∀(i:Nat) (os:List Ob),ρ[i]? =some (Sl.st os)->as.length=os.length
 one:∀(i j:Nat) (os os' :List Ob),ρ[i]? =some (Sl.st os)->ρ[j]? =some (Sl.st os')->i=j
 ob:∀(i k n:Nat),ρ[i]? =some (Sl.ob k n)->∃a C dx vs,as[n]? =some a/\σ[i]? =some (some (V.ref a))/\Y.cl k= .ref C/\H a=some (.ins C dx vs)/\B a=none/\Y.H0 a=none/\InC vs
 oc:∀(i k:Nat) (fs:List (Str×Fd)),ρ[i]? =some (Sl.oc k fs)->∃a C dx vs,σ[i]? =some (some (V.ref a))/\Y.cl k= .ref C/\Y.H0 a=some (.ins C dx vs)/\InC vs/\FsO B Y.H0 vs fs
 st:∀(i:Nat) (os:List Ob),ρ[i]? =some (Sl.st os)->∀(n k:Nat) (fs:List (Str×Fd)),os[n]? =some (k,fs)->∃a C dx vs,as[n]? =some a/\Y.cl k= .ref C/\H a=some (.ins C dx vs)/\B a=none/\Y.H0 a=none/\O a=some (n,0)/\(vs.length=fs.length/\InC vs)/\
  ∀(m:Nat) (f:Str) (d:Fd),fs[m]? =some (f,d)->∃v,vs[m]? =some (f,v)/\FdR Y B ρ σ H (λl=>O l=some (n,m+1)) v d
structure SI (Y:Fx) (B:Hp) (ρ:En) (σ:Sg) (H:Hp):Prop where
 s0:zt Y.B0 Y.H0
 sH:zt Y.H0 H
 sB:zt B H
 old:∀b o,Y.H0 b=some o->B b=Y.B0 b
 len:ρ.length=σ.length
 vl:∀(i:Nat) (t:T),ρ[i]? =some (Sl.vl t)->∃v:V,σ[i]? =some (some v)/\Rep B v t
 ow:∀(i:Nat) (ts:List T),ρ[i]? =some (Sl.ow ts)->∃(a:Addr) (xs:List V),σ[i]? =some (some (V.ref a))/\B a=none/\Y.H0 a=none/\H a=some (.lst xs)/\zB B xs ts/\
  ∀(j:Nat) (us:List T),j ≠ i->ρ[j]? =some (Sl.ow us)->σ[j]? ≠ some (some (V.ref a))
 xc:∀(i:Nat) (c:Nat),ρ[i]? =some (Sl.xc c)->∃a:Addr,σ[i]? =some (some (V.ref a))/\B a=some (.ext (ExAt (Y.cl c) a))
 st:∃as O,StI Y B ρ σ H as O
theorem StI.on {Y Y' :Fx}{B B' :Hp}{ρ ρ' :En}{σ σ' :Sg}{H H' :Hp}{as:List Addr}{O:Addr->Option (Nat×Nat)}(x:StI Y B ρ σ H as O)(hO:∀(i:Nat) (s:Sl),s.isO=true->ρ'[i]? =some s->ρ[i]? =some s/\σ'[i]? =σ[i]?)(hB:zt B B')(hc:Y'.cl=Y.cl)(hA:Y'.as=Y.as)(h0:zt Y.H0 Y'.H0)
  (hH:∀b o,H b=some o->B b=none->Y.H0 b=none->((∃C dx vs,o= .ins C dx vs)\/WV ρ σ b)->H' b=some o/\B' b=none/\Y'.H0 b=none/\(WV ρ σ b->WV ρ' σ' b)):StI Y' B' ρ' σ' H' as O where
 pre:=by rw[hA];exact x.pre
 len:=λi os h=>x.len i os (hO i _ rfl h).1
 one:=λi j os os' h1 h2=>x.one i j os os' (hO i _ rfl h1).1 (hO j _ rfl h2).1
 ob:=λi k n h=>by
  obtain⟨h1,h2⟩:=hO i _ rfl h;obtain⟨a,C,dx,vs,e1,e2,e3,e4,e5,e6⟩:=x.ob i k n h1;obtain⟨g1,g2,g3,_⟩:=hH a _ e4 e5 e6.1 (.inl ⟨_,_,_,rfl⟩);rw[h2,hc];exact⟨a,C,dx,vs,e1,e2,e3,g1,g2,g3,e6.2⟩
 oc:=λi k fs h=>by
  obtain⟨h1,h2⟩:=hO i _ rfl h;obtain⟨a,C,dx,vs,e1,e2,e3,e4,e5⟩:=x.oc i k fs h1;rw[h2,hc];exact⟨a,C,dx,vs,e1,e2,h0 _ _ e3,e4,e5.mono hB h0⟩
 st:=λi os h n k fs e=>by
  obtain⟨a,C,dx,vs,e1,e2,e3,e4,e5,e6,e7,e8⟩:=x.st i os (hO i _ rfl h).1 n k fs e;obtain⟨g1,g2,g3,_⟩:=hH a _ e3 e4 e5 (.inl ⟨_,_,_,rfl⟩);refine⟨a,C,dx,vs,e1,by rw[hc];exact e2,g1,g2,g3,e6,e7,λm f d z=> ?_⟩
  obtain⟨v,z1,z2⟩:=e8 m f d z;refine⟨v,z1, ?_⟩;cases d with
  | tv t=>exact Rep.mono hB z2
  | tl ts=>
   obtain⟨l,xs,p1,p2,p3,p4,p5,p6,p7⟩:=z2;obtain⟨g1,g2,g3,g4⟩:=hH l _ p4 p2 p3 (.inr p6);exact⟨l,xs,p1,g2,g3,g1,p5.mono hB,g4 p6,p7⟩
theorem StI.no (h:∀(i:Nat) (s:Sl),s.isO=true->ρ[i]? ≠ some s):∃as O,StI Y B ρ σ H as O:=⟨Y.as,λ_=>none,bZ _,λi os e=>(h i _ rfl e).elim,λi j os os' e=>(h i _ rfl e).elim,λi k n e=>(h i _ rfl e).elim,λi k fs e=>(h i _ rfl e).elim,λi os e=>(h i _ rfl e).elim⟩
theorem SI.grow {Y:Fx}{B:Hp}{ρ:En}{σ:Sg}{H H' :Hp}(I:SI Y B ρ σ H)(s:zt H H'):SI Y (zH B H H') ρ σ H' where
 s0:=I.s0
 sH:=I.sH.trans s
 sB:=zH.le I.sB s
 old:=λb o h=>by rw[Z1 (I.sH b o h)];exact I.old b o h
 len:=I.len
 vl:=λi t h=>let ⟨v,e,r⟩:=I.vl i t h;⟨v,e,r.mono (zH.ge I.sB s)⟩
 ow:=λi ts h=>let ⟨a,xs,e,b,h0,hh,r,d⟩:=I.ow i ts h;⟨a,xs,e,by rw[Z1 hh];exact b,h0,s _ _ hh,r.mono (zH.ge I.sB s),d⟩
 xc:=λi c h=>let ⟨a,e,r⟩:=I.xc i c h;⟨a,e,zH.ge I.sB s a _ r⟩
 st:=let ⟨as,O,x⟩:=I.st;⟨as,O,x.on (λ_ _ _ h=>⟨h,rfl⟩) (zH.ge I.sB s) rfl rfl (zt.refl _) λb o h hb h0 _=>⟨s _ _ h,by rw[Z1 h];exact hb,h0,id⟩⟩
def XP (Y:Fx)(B:Hp)(c:Nat):Prop:=∀(d:Option Addr) (H' :Hp),zt Y.H0 H' ->zt B H' ->Y.E (Y.cl c) d H'
def Po {α β:Type}(Y:Fx)(rel:Hp->Hp->β->α->Prop)(B H:Hp)(r:R α)(Q:β->Hp->Prop):Prop:=match r with
 | .ok a=>∀b H',zt H H' ->rel (zH B H H') H' b a->Q b H'
 | .ex c=>XP Y B c
 | .bad=>False
abbrev rC:Hp->Hp->V->T->Prop:=λB _ v t=>Rep B v t
abbrev rB:Hp->Hp->V->T->Prop:=λ_ H v t=>Rep H v t
abbrev rCs:Hp->Hp->List V->List T->Prop:=λB _ v t=>zB B v t
abbrev rE {α:Type}:Hp->Hp->α->α->Prop:=λ_ _ a b=>a=b
def tS {α β:Type}(Y:Fx)(rel:Hp->Hp->β->α->Prop)(f:En->R α)(ρ:En):Sg->Hp->(β->Hp->Prop)->Prop:=λσ H Q=>∃B,SI Y B ρ σ H/\Po Y rel B H (f ρ) Q
structure Snd (X:Cx) (Y:Fx) (e:Expr) (f:En->R T):Prop where
 mk ::
 go:∀ρ,PE X e (tS Y rC f ρ)
instance {X:Cx}{Y:Fx}{e:Expr}{f:En->R T}:CoeFun (Snd X Y e f) λ_=>∀ρ,PE X e (tS Y rC f ρ):=⟨Snd.go⟩
structure ji (X:Cx) (Y:Fx) (e:Expr) (f:En->R T):Prop where
 mk ::
 go:∀ρ,PE X e (tS Y rB f ρ)
instance {X:Cx}{Y:Fx}{e:Expr}{f:En->R T}:CoeFun (ji X Y e f) λ_=>∀ρ,PE X e (tS Y rB f ρ):=⟨ji.go⟩
structure Wg (X:Cx) (Y:Fx) (e:Expr) (f:En->R Bool):Prop where
 mk ::
 go:∀ρ,PT X e (tS Y rE f ρ)
instance {X:Cx}{Y:Fx}{e:Expr}{f:En->R Bool}:CoeFun (Wg X Y e f) λ_=>∀ρ,PT X e (tS Y rE f ρ):=⟨Wg.go⟩
structure W3 (X:Cx) (Y:Fx) (es:List Expr) (f:En->R (List T)):Prop where
 mk ::
 go:∀ρ,PA X es (tS Y rCs f ρ)
instance {X:Cx}{Y:Fx}{es:List Expr}{f:En->R (List T)}:CoeFun (W3 X Y es f) λ_=>∀ρ,PA X es (tS Y rCs f ρ):=⟨W3.go⟩
theorem step {α α' β β' :Type}{rel:Hp->Hp->β->α->Prop}{rel' :Hp->Hp->β' ->α' ->Prop}{f:En->R α}{k:α->R α'}{Q:β' ->Hp->Prop}{K:β->Hp->Prop}
  (I:SI Y B ρ σ H) (h:Po Y rel' B H ((f ρ).bind k) Q)
  (n:∀a b H1,f ρ= .ok a->zt H H1->rel (zH B H H1) H1 b a->SI Y (zH B H H1) ρ σ H1->Po Y rel' (zH B H H1) H1 (k a) Q->K b H1):tS Y rel f ρ σ H K:=by
 refine⟨B,I, ?_⟩;cases e:f ρ with
 | bad=>rw[e]at h;exact h
 | ex c=>rw[e]at h;exact h
 | ok a=>
  rw[e]at h;intro b H1 s r;refine n a b H1 e s r (I.grow s) ?_;have h' :Po Y _ B H (k a) Q:=h;revert h';cases k a with
  | bad=>exact λh' =>h'
  | ex c=>exact λh' d H' s0 sB' =>h' d H' s0 ((zH.ge I.sB s).trans sB')
  | ok a' =>exact λh' b' H2 s2 r2=>h' b' H2 (s.trans s2) (by rw[← zH.trans s s2];exact r2)
theorem ZB {α β:Type}{rel:Hp->Hp->β->α->Prop}{a:α}{b:β}{Q:β->Hp->Prop}(I:SI Y B ρ σ H)(h:Po Y rel B H (.ok a) Q)(r:rel B H b a):Q b H:=h b H (zt.refl H) (by rw[zH.self B H I.sB];exact r)
theorem Snd.b {X:Cx}{Y:Fx}{e:Expr}{f:En->R T}(h:Snd X Y e f):ji X Y e f:= .mk λρ=>PE.imp (h ρ) λσ H Q ⟨B,I,q⟩=>⟨B,I,by
 revert q;cases f ρ with
 | bad=>exact λq=>q
 | ex c=>exact λq=>q
 | ok a=>exact λq b H' s r=>q b H' s (r.mono (zH.le I.sB s))⟩
section
def vE (i:Nat):En->R T:=λρ=>match ρ[i]? with
 | some (.vl t)=> .ok t
 | _=> .bad
def vB (i:Nat):En->R T:=λρ=>match ρ[i]? with
 | some (.vl t)=> .ok t
 | some (.ow ts)=> .ok (.lst ts)
 | _=> .bad
def cE (t:T):En->R T:=λ_=> .ok t
theorem z09 (i:Nat)(h:PE X (.Name x pos) (jK i)):Snd X Y (.Name x pos) (vE i):= .mk λρ=>PE.imp h λσ H Q ⟨B,I,q⟩=>by
 unfold vE at q;split at q
 ·rename_i t e;obtain⟨v,e1,r⟩:=I.vl i t e;exact⟨v,e1,ZB I q r⟩
 ·exact q.elim
theorem ky (i:Nat){x:Str}(h:PE X (.Name x pos) (jK i)):ji X Y (.Name x pos) (vB i):= .mk λρ=>PE.imp h λσ H Q ⟨B,I,q⟩=>by
 unfold vB at q;split at q
 ·rename_i t e;obtain⟨v,e1,r⟩:=I.vl i t e;exact⟨v,e1,ZB I q (r.mono I.sB)⟩
 ·rename_i ts e;obtain⟨a,xs,e1,_,_,hh,r,_⟩:=I.ow i ts e;exact⟨.ref a,e1,ZB I q (.lst hh (r.mono I.sB))⟩
 ·exact q.elim
theorem z0a {i j}:Snd X Y (.Constant (.int i) j pos) (cE (.int i)):= .mk λρ=>PE.imp vw λσ H Q ⟨B,I,q⟩=>ZB I q (.int i)
theorem s_bl {i j}:Snd X Y (.Constant (.bool i) j pos) (cE (.bl i)):= .mk λρ=>PE.imp XU λσ H Q ⟨B,I,q⟩=>ZB I q (.bl i)
theorem z0b {j}:Snd X Y (.Constant .none j pos) (cE .non):= .mk λρ=>PE.imp XV λσ H Q ⟨B,I,q⟩=>ZB I q .non
theorem z0c {i j}:Snd X Y (.Constant (.str i) j pos) (cE (.str i)):= .mk λρ=>PE.imp ym λσ H Q ⟨B,I,q⟩=>ZB I q (.str i)
def zj:En->R (List T):=λ_=> .ok []
def z9 (f:En->R T)(g:En->R (List T)):En->R (List T):=λρ=>(f ρ).bind λt=>(g ρ).bind λts=> .ok (t :: ts)
theorem z0d:W3 X Y [] zj:= .mk λρ=>PA.imp zM λσ H Q ⟨B,I,q⟩=>ZB I q .nil
theorem kz {es:List Expr}{g:En->R (List T)}(h:Snd X Y a fa)(hs:W3 X Y es g)(hq:starEach (a :: es) X.env=(false,eval a X.env) :: starEach es X.env:=by exact zN rfl):W3 X Y (a :: es) (z9 fa g):= .mk λρ=>
 PA.imp (zx (h ρ) (hs ρ) hq) λσ H Q ⟨B,I,q⟩=>step I q λt v H1 _ s1 r1 I1 q1=>step I1 q1 λts vs H2 _ s2 r2 I2 q2=>ZB I2 q2 (.cons (r1.mono (zH.ge I1.sB s2)) r2)
theorem zt.new (h:H p=none)(o:HO):zt H (upd H p o):=λb u q=>by rw[zu (zJ q h)];exact q
theorem jm (h:H p=none)(o:HO):zH B H (upd H p o) p=some o:=by rw[zW h,zw]
noncomputable def bnd:Nat:=16777216
theorem Zg (h:n<=bnd):n<=sizeLine:=by exact h
def Zt (g:En->R (List T)):En->R T:=λρ=>(g ρ).bind λts=>if ts.length<=bnd then .ok (.tup ts) else .bad
def jb (g:En->R (List T)):En->R T:=λρ=>(g ρ).bind λts=>if ts.length<=bnd then .ok (.lst ts) else .bad
theorem VF {ρ:En}{σ:Sg}{B H:Hp}{xs:List V}{ts:List T}(I:SI Y B ρ σ H)(r:zB B xs ts){p:Addr}(h:H p=none):Rep (zH B H (upd H p (.tup xs))) (.ref p) (.tup ts):=
 .tup (jm h _) (r.mono (zH.ge I.sB (zt.new h _)))
theorem VG {ρ:En}{σ:Sg}{B H:Hp}{xs:List V}{ts:List T}(I:SI Y B ρ σ H)(r:zB B xs ts){p:Addr}(h:H p=none):Rep (zH B H (upd H p (.lst xs))) (.ref p) (.lst ts):=
 .lst (jm h _) (r.mono (zH.ge I.sB (zt.new h _)))
theorem z0e {es:List Expr}{g:En->R (List T)}{x1}(h:W3 X Y es g):Snd X Y (.Tuple es x1 pos) (Zt g):= .mk λρ=>PE.imp (yD (h ρ)) λσ H Q ⟨B,I,q⟩=>
 step I q λts vs H1 _ s1 r1 I1 q1=>by
  split at q1
  ·rename_i hb;refine⟨by rw[r1.length];exact Zg hb,λp hp=>q1 _ _ (zt.new hp _) (VF I1 r1 hp)⟩
  ·exact q1.elim
theorem z0f {es:List Expr}{g:En->R (List T)}(h:W3 X Y es g):Snd X Y (.List es pos) (jb g):= .mk λρ=>PE.imp (ur (h ρ)) λσ H Q ⟨B,I,q⟩=>
 step I q λts vs H1 _ s1 r1 I1 q1=>by
  split at q1
  ·rename_i hb;refine⟨by rw[r1.length];exact Zg hb,λp hp=>q1 _ _ (zt.new hp _) (VG I1 r1 hp)⟩
  ·exact q1.elim
end
end PV
namespace PV
open PySem PySem.Spec PyProof.Rows L2
noncomputable def eqL (f:T->T->Option Bool):List T->List T->Option Bool
 | [],[]=>some true
 | [],_ :: _=>some false
 | _ :: _,[]=>some false
 | x :: xs,y :: ys=>match f x y with
  | none=>none
  | some b=>match eqL f xs ys with
   | none=>none
   | some c=>some (b && c)
noncomputable def b2 (b:Bool):Int:=if b then 1 else 0
def eqF:Nat->T->T->Option Bool
 | _,.non,.non=>some true
 | _,.bl a,.bl b=>some (a == b)
 | _,.bl a,.int j=>some (b2 a == j)
 | _,.int i,.bl b=>some (i == b2 b)
 | _,.int i,.int j=>some (i == j)
 | _,.str x,.str y=>some (x == y)
 | n+1,.tup xs,.tup ys=>eqL (eqF n) xs ys
 | n+1,.lst xs,.lst ys=>eqL (eqF n) xs ys
 | n+1,.fz xs,.lst ys=>eqL (eqF n) xs ys
 | n+1,.lst xs,.fz ys=>eqL (eqF n) xs ys
 | n+1,.fz xs,.fz ys=>eqL (eqF n) xs ys
 | 0,.tup _,.tup _=>none
 | 0,.lst _,.lst _=>none
 | 0,.fz _,.lst _=>none
 | 0,.lst _,.fz _=>none
 | 0,.fz _,.fz _=>none
 | _,.non,_=>some false
 | _,.bl _,_=>some false
 | _,.int _,_=>some false
 | _,.str _,_=>some false
 | _,.tup _,_=>some false
 | _,.lst _,_=>some false
 | _,.fz _,_=>some false
mutual
theorem Rep.fn {H:Hp}:∀{v:V} {t t' :T},Rep H v t->Rep H v t' ->t=t'
 | _,_,_,.non,.non=>rfl
 | _,_,_,.bl _,.bl _=>rfl
 | _,_,_,.int _,.int _=>rfl
 | _,_,_,.str _,.str _=>rfl
 | _,_,_,.tup h r,.tup h' r' =>by
  rw[h]at h';cases h';rw[zB.fn r r']
 | _,_,_,.tup h r,.lst h' r' =>by rw[h]at h';cases h'
 | _,_,_,.tup h r,.fz h' r' =>by rw[h]at h';cases h'
 | _,_,_,.lst h r,.tup h' r' =>by rw[h]at h';cases h'
 | _,_,_,.lst h r,.lst h' r' =>by
  rw[h]at h';cases h';rw[zB.fn r r']
 | _,_,_,.lst h r,.fz h' r' =>by rw[h]at h';cases h'
 | _,_,_,.fz h r,.tup h' r' =>by rw[h]at h';cases h'
 | _,_,_,.fz h r,.lst h' r' =>by rw[h]at h';cases h'
 | _,_,_,.fz h r,.fz h' r' =>by
  rw[h]at h';cases h';rw[zB.fn r r']
theorem zB.fn {H:Hp}:∀{v:List V} {t t' :List T},zB H v t->zB H v t' ->t=t'
 | _,_,_,.nil,.nil=>rfl
 | _,_,_,.cons h r,.cons h' r' =>by rw[Rep.fn h h',zB.fn r r']
end
theorem Zm {f:T->T->Option Bool}(hf:∀x b,f x x=some b->b=true):∀(xs:List T) (b:Bool),eqL f xs xs=some b->b=true
 | [],b,h=>by
  have h' :=h;cases h';rfl
 | x :: xs,b,h=>by
  unfold eqL at h;cases e:f x x with
  | none=>rw[e]at h;cases h
  | some c=>
   rw[e]at h;cases e' :eqL f xs xs with
   | none=>rw[e']at h;cases h
   | some d=>
    rw[e']at h;cases h;rw[hf x c e,Zm hf xs d e'];rfl
theorem Z7:∀(n:Nat) (t:T) (b:Bool),eqF n t t=some b->b=true
 | n,.non,b,h=>by unfold eqF at h;cases h;rfl
 | n,.bl x,b,h=>by unfold eqF at h;cases h;simp
 | n,.int x,b,h=>by unfold eqF at h;cases h;simp
 | n,.str x,b,h=>by unfold eqF at h;cases h;simp
 | 0,.tup x,b,h=>by cases h
 | 0,.lst x,b,h=>by cases h
 | 0,.fz x,b,h=>by cases h
 | n+1,.tup x,b,h=>by exact Zm (Z7 n) x b h
 | n+1,.lst x,b,h=>by exact Zm (Z7 n) x b h
 | n+1,.fz x,b,h=>by exact Zm (Z7 n) x b h
theorem yO {f:T->T->Option Bool}:∀{xs ys:List T} {b:Bool},eqL f xs ys=some b->
  ∃e:Nat->Bool,(∀j x y,xs[j]? =some x->ys[j]? =some y->f x y=some (e j))/\((a_ (min xs.length ys.length)).all e && xs.length == ys.length)=b
 | [],[],b,h=>by
  have h' :=h;cases h';exact⟨λ_=>true,λj x y h=>by simp at h,by simp⟩
 | [],y :: ys,b,h=>by
  have h' :=h;cases h';exact⟨λ_=>true,λj x y h=>by simp at h,by simp⟩
 | x :: xs,[],b,h=>by
  have h' :=h;cases h';exact⟨λ_=>true,λj x y h h' =>by simp at h',by simp⟩
 | x :: xs,y :: ys,b,h=>by
  unfold eqL at h;cases e:f x y with
  | none=>rw[e]at h;cases h
  | some c=>
   rw[e]at h;cases e' :eqL f xs ys with
   | none=>rw[e']at h;cases h
   | some d=>
    rw[e']at h;cases h;obtain⟨g,h1,h2⟩:=yO e';refine⟨λj=>match j with | 0=>c | j+1=>g j,λj u v hu hv=> ?_, ?_⟩
    ·cases j with
     | zero=>simp at hu hv;subst hu hv;exact e
     | succ j=>exact h1 j u v (by simpa using hu) (by simpa using hv)
    ·have z:min (x :: xs).length (y :: ys).length=min xs.length ys.length+1:=by simp only[ar];omega
     rw[z,ci,cu,fI];have z2:((x :: xs).length == (y :: ys).length)=(xs.length == ys.length):=by simp
     rw[z2,← h2,Bool.and_assoc];rfl
section
theorem ZH (I:L2.Inv X pins σ H s)(h:H a=some (.tup xs))(r:zB H xs ts):∃its:List Value,zR xs its/\s.heap.IsTuple a its.toArray/\ts.length=its.length/\xs.length<=sizeLine:=by
 obtain⟨its,rv,p,z⟩:=I.tuple (SqT.of h);exact⟨its,rv,p,by rw[← r.length];exact rv.length,z⟩
theorem zO (I:L2.Inv X pins σ H s)(h:Rd H a (.lst xs))(r:zB H xs ts):∃its:List Value,zR xs its/\s.heap.IsList a its.toArray/\ts.length=its.length/\xs.length<=sizeLine:=by
 obtain⟨its,rv,p,z⟩:=I.list (.inl h);exact⟨its,rv,p.isList,by rw[← r.length];exact rv.length,z⟩
end
noncomputable abbrev EqN (A:Around)(s:Shared)(u u' :Value)(b:Bool):Prop:=cB A s u u' b/\eI A s u u' b/\d5 A s u u' (!b)
section
theorem yP {f:T->T->Option Bool}{e:Nat->Bool}(r:zB H xs ts)(r' :zB H ys us)(v:zR xs its)(v' :zR ys its')
  (he:∀(j:Nat) (x y:T),ts[j]? =some x->us[j]? =some y->f x y=some (e j))
  (ih:∀(x y:T) (b:Bool) (p q:V) (u w:Value),f x y=some b->Rep H p x->Rep H q y->Za p u->Za q w->EqN A s u w b) (j:Nat) (h1:j < its.toArray.size) (h2:j < its'.toArray.size):
  cB A s its.toArray[j] its'.toArray[j] (e j):=by
 have l1:=v.length;have l2:=v'.length;have k1:j < xs.length:=by simp at h1;omega
 have k2:j < ys.length:=by simp at h2;omega
 obtain⟨t,et,rt⟩:=r.getV (aj k1);obtain⟨t',et',rt'⟩:=r'.getV (aj k2);obtain⟨u,eu,ru⟩:=v.get (aj k1);obtain⟨u',eu',ru'⟩:=v'.get (aj k2);have q1:=by
  have:its[j]? =some its.toArray[j]:=by simp at h1 ⊢
  rw[eu]at this;exact(aq this).symm
 have q2:=by
  have:its'[j]? =some its'.toArray[j]:=by simp at h2 ⊢
  rw[eu']at this;exact(aq this).symm
 rw[q1,q2];exact(ih t t' _ _ _ u u' (he j t t' et et') rt rt' ru ru').1
theorem VH {A:Around}{a c:Addr}{xs ys:List V}{ts us:List T}{b:Bool}{f:T->T->Option Bool}(I:L2.Inv X pins σ H s)(hu:A.units < cLine)(ha:H a=some (.tup xs))(hc:H c=some (.tup ys))(r:zB H xs ts)(r' :zB H ys us)
  (hb:eqL f ts us=some b) (hr:∀x b,f x x=some b->b=true)
  (ih:∀(x y:T) (b:Bool) (p q:V) (u w:Value),f x y=some b->Rep H p x->Rep H q y->Za p u->Za q w->EqN A.in1 s u w b):EqN A s (.ref a) (.ref c) b:=by
 obtain⟨its,v,p,l,_⟩:=ZH I ha r;obtain⟨its',v',p',l',_⟩:=ZH I hc r';obtain⟨e,he,hb'⟩:=yO hb;have hp:=yP r r' v v' he ih;have z:((a_ (min its.toArray.size its'.toArray.size)).all e && its.toArray.size == its'.toArray.size)=b:=by
  rw[← hb'];simp[l,l']
 have R:=eI.tuples p p' hu hp;have N:=d5.tuples p p' hu hp;rw[z]at R;have N' :d5 A s (.ref a) (.ref c) (!b):=by
  rw[← z];exact N
 refine⟨?_,R,N'⟩
 by_cases hac:a=c
 ·subst hac;rw[ha]at hc;cases hc;have:=r.fn r';subst this;rw[Zm hr ts b hb];exact i4 _
 ·exact fo hac R
theorem wx {A:Around}{a c:Addr}{xs ys:List V}{ts us:List T}{b:Bool}{f:T->T->Option Bool}(I:L2.Inv X pins σ H s)(hu:A.units < cLine)(ha:Rd H a (.lst xs))(hc:Rd H c (.lst ys))(r:zB H xs ts)(r' :zB H ys us)
  (hb:eqL f ts us=some b) (hr:∀x b,f x x=some b->b=true)
  (ih:∀(x y:T) (b:Bool) (p q:V) (u w:Value),f x y=some b->Rep H p x->Rep H q y->Za p u->Za q w->EqN A.in1 s u w b):EqN A s (.ref a) (.ref c) b:=by
 obtain⟨its,v,p,l,_⟩:=zO I ha r;obtain⟨its',v',p',l',_⟩:=zO I hc r';obtain⟨e,he,hb'⟩:=yO hb;have hp:=yP r r' v v' he ih;have RN:eI A s (.ref a) (.ref c) b/\d5 A s (.ref a) (.ref c) (!b):=by
  by_cases hl:its.toArray.size=its'.toArray.size
  ·have z:(a_ its.toArray.size).all e=b:=by
    rw[← hb'];have:ts.length=us.length:=by simp at hl;omega
    rw[this];have k:its.toArray.size=us.length:=by simp;omega
    rw[k];simp
   have R:=eI.lists p p' hl hu hp;have N:=d5.lists p p' hl hu hp;rw[z]at R;refine⟨R, ?_⟩;rw[← z];exact N
  ·have hl' :(its.toArray.size != its'.toArray.size)=true:=by simpa using hl
   have z:b=false:=by
    rw[← hb'];have:¬ ts.length=us.length:=by simp at hl;omega
    simp[this]
   subst z;exact⟨eI.lists_lengths p p' hl' hu,d5.lists_lengths p p' hl' hu⟩
 refine⟨?_,RN.1,RN.2⟩
 by_cases hac:a=c
 ·subst hac;have hxy:xs=ys:=by
   rcases ha with ha | ⟨o,ha⟩ <;> rcases hc with hc | ⟨o',hc⟩ <;> (rw[ha]at hc;cases hc) <;> rfl
  subst hxy;have:=r.fn r';subst this;rw[Zm hr ts b hb];exact i4 _
 ·exact fo hac RN.1
end
section
variable {X:Cx}{pins:List (Addr×Obj)}{σ:Sg}{H:Hp}{s:Shared}
theorem Js {A:Around}:A.in1.units=A.units+1:=rfl
set_option maxHeartbeats 2000000 in
theorem yQ (I:L2.Inv X pins σ H s):∀(A:Around),A.units < cLine->∀(x y:T) (b:Bool) (p q:V) (u w:Value),eqF 0 x y=some b->Rep H p x->Rep H q y->Za p u->Za q w->EqN A s u w b:=by
 intro A hu x y b p q u w h rp rq ru rw';have hu' :=hu;cases rp with
 | non=>
  obtain rfl:u=Value.none:=ru;cases rq with
  | non=>obtain rfl:w=Value.none:=rw';unfold eqF at h;cases h;exact⟨.same _,.none_none,.none_none⟩
  | bl c=>obtain rfl:w=Value.bool c:=rw';unfold eqF at h;cases h;exact⟨.none_bool _,.none_bool _,.none_bool _⟩
  | int c=>obtain⟨t,rfl⟩:=rw';unfold eqF at h;cases h;exact⟨.none_int _ _,.none_int _ _,.none_int _ _⟩
  | str c=>obtain⟨t,rfl⟩:=rw';unfold eqF at h;cases h;exact⟨.none_str _ _,.none_str _ _,.none_str _ _⟩
  | tup h1 r1=>obtain rfl:w=Value.ref _:=rw';unfold eqF at h;cases h;obtain⟨i,_,p,_⟩:=ZH I h1 r1;exact⟨.none_tuple p hu',.none_tuple p hu',.none_tuple p hu'⟩
  | lst h1 r1=>obtain rfl:w=Value.ref _:=rw';unfold eqF at h;cases h;obtain⟨i,_,p,_⟩:=zO I (.inl h1) r1;exact⟨.none_list p hu',.none_list p hu',.none_list p hu'⟩
  | fz h1 r1=>obtain rfl:w=Value.ref _:=rw';unfold eqF at h;cases h;obtain⟨i,_,p,_⟩:=zO I (.inr ⟨_,h1⟩) r1;exact⟨.none_list p hu',.none_list p hu',.none_list p hu'⟩
 | bl d=>
  obtain rfl:u=Value.bool d:=ru;cases rq with
  | non=>obtain rfl:w=Value.none:=rw';unfold eqF at h;cases h;exact⟨.bool_none _,.bool_none _,.bool_none _⟩
  | bl c=>obtain rfl:w=Value.bool c:=rw';unfold eqF at h;cases h;exact⟨.bool_bool _ _,.bool_bool _ _,.bool_bool _ _⟩
  | int c=>obtain⟨t,rfl⟩:=rw';unfold eqF at h;cases h;exact⟨.bool_int _ _ _,.bool_int _ _ _,.bool_int _ _ _⟩
  | str c=>obtain⟨t,rfl⟩:=rw';unfold eqF at h;cases h;exact⟨.bool_str _ _ _,.bool_str _ _ _,.bool_str _ _ _⟩
  | tup h1 r1=>obtain rfl:w=Value.ref _:=rw';unfold eqF at h;cases h;obtain⟨i,_,p,_⟩:=ZH I h1 r1;exact⟨.bool_tuple _ p hu',.bool_tuple _ p hu',.bool_tuple _ p hu'⟩
  | lst h1 r1=>obtain rfl:w=Value.ref _:=rw';unfold eqF at h;cases h;obtain⟨i,_,p,_⟩:=zO I (.inl h1) r1;exact⟨.bool_list _ p hu',.bool_list _ p hu',.bool_list _ p hu'⟩
  | fz h1 r1=>obtain rfl:w=Value.ref _:=rw';unfold eqF at h;cases h;obtain⟨i,_,p,_⟩:=zO I (.inr ⟨_,h1⟩) r1;exact⟨.bool_list _ p hu',.bool_list _ p hu',.bool_list _ p hu'⟩
 | int d=>
  obtain⟨t0,rfl⟩:=ru;cases rq with
  | non=>obtain rfl:w=Value.none:=rw';unfold eqF at h;cases h;exact⟨.int_none _ _,.int_none _ _,.int_none _ _⟩
  | bl c=>obtain rfl:w=Value.bool c:=rw';unfold eqF at h;cases h;exact⟨.int_bool _ _ _,.int_bool _ _ _,.int_bool _ _ _⟩
  | int c=>obtain⟨t,rfl⟩:=rw';unfold eqF at h;cases h;exact⟨.int_int _ _ _ _,.int_int _ _ _ _,.int_int _ _ _ _⟩
  | str c=>obtain⟨t,rfl⟩:=rw';unfold eqF at h;cases h;exact⟨.int_str _ _ _ _,.int_str _ _ _ _,.int_str _ _ _ _⟩
  | tup h1 r1=>obtain rfl:w=Value.ref _:=rw';unfold eqF at h;cases h;obtain⟨i,_,p,_⟩:=ZH I h1 r1;exact⟨.int_tuple _ _ p hu',.int_tuple _ _ p hu',.int_tuple _ _ p hu'⟩
  | lst h1 r1=>obtain rfl:w=Value.ref _:=rw';unfold eqF at h;cases h;obtain⟨i,_,p,_⟩:=zO I (.inl h1) r1;exact⟨.int_list _ _ p hu',.int_list _ _ p hu',.int_list _ _ p hu'⟩
  | fz h1 r1=>obtain rfl:w=Value.ref _:=rw';unfold eqF at h;cases h;obtain⟨i,_,p,_⟩:=zO I (.inr ⟨_,h1⟩) r1;exact⟨.int_list _ _ p hu',.int_list _ _ p hu',.int_list _ _ p hu'⟩
 | str d=>
  obtain⟨t0,rfl⟩:=ru;cases rq with
  | non=>obtain rfl:w=Value.none:=rw';unfold eqF at h;cases h;exact⟨.str_none _ _,.str_none _ _,.str_none _ _⟩
  | bl c=>obtain rfl:w=Value.bool c:=rw';unfold eqF at h;cases h;exact⟨.str_bool _ _ _,.str_bool _ _ _,.str_bool _ _ _⟩
  | int c=>obtain⟨t,rfl⟩:=rw';unfold eqF at h;cases h;exact⟨.str_int _ _ _ _,.str_int _ _ _ _,.str_int _ _ _ _⟩
  | str c=>obtain⟨t,rfl⟩:=rw';unfold eqF at h;cases h;exact⟨.str_str _ _ _ _,.str_str _ _ _ _,.str_str _ _ _ _⟩
  | tup h1 r1=>obtain rfl:w=Value.ref _:=rw';unfold eqF at h;cases h;obtain⟨i,_,p,_⟩:=ZH I h1 r1;exact⟨.str_tuple _ _ p hu',.str_tuple _ _ p hu',.str_tuple _ _ p hu'⟩
  | lst h1 r1=>obtain rfl:w=Value.ref _:=rw';unfold eqF at h;cases h;obtain⟨i,_,p,_⟩:=zO I (.inl h1) r1;exact⟨.str_list _ _ p hu',.str_list _ _ p hu',.str_list _ _ p hu'⟩
  | fz h1 r1=>obtain rfl:w=Value.ref _:=rw';unfold eqF at h;cases h;obtain⟨i,_,p,_⟩:=zO I (.inr ⟨_,h1⟩) r1;exact⟨.str_list _ _ p hu',.str_list _ _ p hu',.str_list _ _ p hu'⟩
 | tup h0 r0=>
  obtain rfl:u=Value.ref _:=ru;obtain⟨i0,_,p0,_⟩:=ZH I h0 r0;cases rq with
  | non=>obtain rfl:w=Value.none:=rw';unfold eqF at h;cases h;exact⟨.tuple_none p0 hu',.tuple_none p0 hu',.tuple_none p0 hu'⟩
  | bl c=>obtain rfl:w=Value.bool c:=rw';unfold eqF at h;cases h;exact⟨.tuple_bool _ p0 hu',.tuple_bool _ p0 hu',.tuple_bool _ p0 hu'⟩
  | int c=>obtain⟨t,rfl⟩:=rw';unfold eqF at h;cases h;exact⟨.tuple_int _ _ p0 hu',.tuple_int _ _ p0 hu',.tuple_int _ _ p0 hu'⟩
  | str c=>obtain⟨t,rfl⟩:=rw';unfold eqF at h;cases h;exact⟨.tuple_str _ _ p0 hu',.tuple_str _ _ p0 hu',.tuple_str _ _ p0 hu'⟩
  | tup h1 r1=>unfold eqF at h;cases h
  | lst h1 r1=>obtain rfl:w=Value.ref _:=rw';unfold eqF at h;cases h;obtain⟨i,_,p,_⟩:=zO I (.inl h1) r1;exact⟨.tuple_list p0 p hu',.tuple_list p0 p hu',.tuple_list p0 p hu'⟩
  | fz h1 r1=>obtain rfl:w=Value.ref _:=rw';unfold eqF at h;cases h;obtain⟨i,_,p,_⟩:=zO I (.inr ⟨_,h1⟩) r1;exact⟨.tuple_list p0 p hu',.tuple_list p0 p hu',.tuple_list p0 p hu'⟩
 | lst h0 r0=>
  obtain rfl:u=Value.ref _:=ru;obtain⟨i0,_,p0,_⟩:=zO I (.inl h0) r0;cases rq with
  | non=>obtain rfl:w=Value.none:=rw';unfold eqF at h;cases h;exact⟨.list_none p0 hu',.list_none p0 hu',.list_none p0 hu'⟩
  | bl c=>obtain rfl:w=Value.bool c:=rw';unfold eqF at h;cases h;exact⟨.list_bool _ p0 hu',.list_bool _ p0 hu',.list_bool _ p0 hu'⟩
  | int c=>obtain⟨t,rfl⟩:=rw';unfold eqF at h;cases h;exact⟨.list_int _ _ p0 hu',.list_int _ _ p0 hu',.list_int _ _ p0 hu'⟩
  | str c=>obtain⟨t,rfl⟩:=rw';unfold eqF at h;cases h;exact⟨.list_str _ _ p0 hu',.list_str _ _ p0 hu',.list_str _ _ p0 hu'⟩
  | tup h1 r1=>obtain rfl:w=Value.ref _:=rw';unfold eqF at h;cases h;obtain⟨i,_,p,_⟩:=ZH I h1 r1;exact⟨.list_tuple p0 p hu',.list_tuple p0 p hu',.list_tuple p0 p hu'⟩
  | lst h1 r1=>unfold eqF at h;cases h
  | fz h1 r1=>unfold eqF at h;cases h
 | fz h0 r0=>
  obtain rfl:u=Value.ref _:=ru;obtain⟨i0,_,p0,_⟩:=zO I (.inr ⟨_,h0⟩) r0;cases rq with
  | non=>obtain rfl:w=Value.none:=rw';unfold eqF at h;cases h;exact⟨.list_none p0 hu',.list_none p0 hu',.list_none p0 hu'⟩
  | bl c=>obtain rfl:w=Value.bool c:=rw';unfold eqF at h;cases h;exact⟨.list_bool _ p0 hu',.list_bool _ p0 hu',.list_bool _ p0 hu'⟩
  | int c=>obtain⟨t,rfl⟩:=rw';unfold eqF at h;cases h;exact⟨.list_int _ _ p0 hu',.list_int _ _ p0 hu',.list_int _ _ p0 hu'⟩
  | str c=>obtain⟨t,rfl⟩:=rw';unfold eqF at h;cases h;exact⟨.list_str _ _ p0 hu',.list_str _ _ p0 hu',.list_str _ _ p0 hu'⟩
  | tup h1 r1=>obtain rfl:w=Value.ref _:=rw';unfold eqF at h;cases h;obtain⟨i,_,p,_⟩:=ZH I h1 r1;exact⟨.list_tuple p0 p hu',.list_tuple p0 p hu',.list_tuple p0 p hu'⟩
  | lst h1 r1=>unfold eqF at h;cases h
  | fz h1 r1=>unfold eqF at h;cases h
set_option maxHeartbeats 2000000 in
theorem Qo (I:L2.Inv X pins σ H s):∀(n:Nat) (A:Around),A.units+n < cLine->∀(x y:T) (b:Bool) (p q:V) (u w:Value),eqF n x y=some b->Rep H p x->Rep H q y->Za p u->Za q w->EqN A s u w b:=by
 intro n
 induction n with
 | zero=>exact λA hu x y b p q u w h=>yQ I A (by omega) x y b p q u w h
 | succ n ih=>
  intro A hu x y b p q u w h rp rq ru rw';have low:=λh=>yQ I A (by omega) x y b p q u w h rp rq ru rw'
  have hu' :A.units < cLine:=by omega
  have ih' :=ih A.in1 (by rw[Js];omega)
  cases rp with
  | tup h0 r0=>
   cases rq with
   | tup h1 r1=>
    obtain rfl:u=Value.ref _:=ru;obtain rfl:w=Value.ref _:=rw';exact VH I hu' h0 h1 r0 r1 h (Z7 n) ih'
   | _=>exact low (by exact h)
  | lst h0 r0=>
   cases rq with
   | lst h1 r1=>
    obtain rfl:u=Value.ref _:=ru;obtain rfl:w=Value.ref _:=rw';exact wx I hu' (.inl h0) (.inl h1) r0 r1 h (Z7 n) ih'
   | fz h1 r1=>
    obtain rfl:u=Value.ref _:=ru;obtain rfl:w=Value.ref _:=rw';exact wx I hu' (.inl h0) (.inr ⟨_,h1⟩) r0 r1 h (Z7 n) ih'
   | _=>exact low (by exact h)
  | fz h0 r0=>
   cases rq with
   | lst h1 r1=>
    obtain rfl:u=Value.ref _:=ru;obtain rfl:w=Value.ref _:=rw';exact wx I hu' (.inr ⟨_,h0⟩) (.inl h1) r0 r1 h (Z7 n) ih'
   | fz h1 r1=>
    obtain rfl:u=Value.ref _:=ru;obtain rfl:w=Value.ref _:=rw';exact wx I hu' (.inr ⟨_,h0⟩) (.inr ⟨_,h1⟩) r0 r1 h (Z7 n) ih'
   | _=>exact low (by exact h)
  | _=>exact low (by cases rq <;> (exact h))
end
section
def rG (Y:Fx)(g:T->T->R T):R2:=λx y H Q=>∃B t t',zt B H/\Rep B x t/\Rep B y t' /\Po Y rC B H (g t t') Q
def zb (g:T->T->R T)(fa fb:En->R T):En->R T:=λρ=>(fa ρ).bind λx=>(fb ρ).bind λy=>g x y
theorem yR (ho:OpR X (binaryOp op) (rG Y g))(ha:Snd X Y a fa)(hb:Snd X Y b fb):Snd X Y (.BinOp a op b pos) (zb g fa fb):= .mk λρ=>
 PE.imp (GW ho (ha ρ) (hb ρ)) λσ H Q ⟨B,I,q⟩=>step I q λt v H1 _ s1 r1 I1 q1=>step I1 q1 λt' v' H2 _ s2 r2 I2 q2=>
  ⟨_,t,t',I2.sB,r1.mono (zH.ge I1.sB s2),r2,q2⟩
theorem po0 (sB:zt B H)(q:Po Y rC B H g Q)(e:g= .ok t)(r:Rep B v t):Q v H:=by
 subst e;exact q v H (zt.refl H) (by rw[zH.self B H sB];exact r)
theorem kA (sB:zt B H)(q:Po Y rC B H g Q)(e:g= .ok (.tup ts))(r:zB B xs ts)(h:H p=none):Q (.ref p) (upd H p (.tup xs)):=by
 subst e;exact q _ _ (zt.new h _) (.tup (jm h _) (r.mono (zH.ge sB (zt.new h _))))
theorem z0g (sB:zt B H)(q:Po Y rC B H g Q)(e:g= .ok (.lst ts))(r:zB B xs ts)(h:H p=none):Q (.ref p) (upd H p (.lst xs)):=by
 subst e;exact q _ _ (zt.new h _) (.lst (jm h _) (r.mono (zH.ge sB (zt.new h _))))
def zE:T->T->R T
 | .int i,.int j=> .ok (.int (i+j))
 | .bl x,.int j=> .ok (.int (b2 x+j))
 | .int i,.bl y=> .ok (.int (i+b2 y))
 | .str x,.str y=>if x.length+y.length<=bnd then .ok (.str (x++y)) else .bad
 | .tup xs,.tup ys=>if xs.length+ys.length<=bnd then .ok (.tup (xs++ys)) else .bad
 | .lst xs,.lst ys=>if xs.length+ys.length<=bnd then .ok (.lst (xs++ys)) else .bad
 | _,_=> .bad
theorem Qp {prog:Program}{w:World}{A:Around}{E:Value->Shared->Prop}{s:Shared}{t b:Addr}{vs ws:List Value}{Q:Value->Shared->Prop}(ht:IsTup s.heap t vs.toArray)(hb:IsTup s.heap b ws.toArray)(hv:vs=[])
  (h1:Q (.ref b) s):wpAny (model prog w) A (binaryOp .Add (.ref t) (.ref b)) Q E s:=by
 obtain⟨⟨cls,dd,data,sl⟩,ho,hc,n,hd⟩:=id ht;obtain⟨⟨cls2,dd2,data2,sl2⟩,ho2,hc2,n2,hd2⟩:=id hb;subst hc hd hc2 hd2;exact concat_meets ⟨_,ho,rfl⟩ ⟨_,ho2,rfl⟩ noFill_tuple_add seq_tuple_add d4 cY (cP _ _)
   (tuple_addW0 t b _ _ n n2 dd dd2 sl sl2 (by simp[hv])) ⟨ho,ho2,h1⟩
theorem VI:OpR X (binaryOp .Add) (rG Y zE):=by
 intro pins s σ H x y v u Q I rx ry h;obtain⟨B,t,t',sB,r,r',q⟩:=h;cases r with
 | int i=>
  cases r' with
  | int j=>exact k9 pins s σ H _ _ v u Q I rx ry ⟨i,j,rfl,rfl,po0 sB q rfl (.int _)⟩
  | bl y=>exact yv pins s σ H _ _ v u Q I rx ry ⟨i,y,rfl,rfl,po0 sB q rfl (.int _)⟩
  | _=>exact q.elim
 | bl x=>
  cases r' with
  | int j=>
   obtain rfl:v=Value.bool x:=rx;obtain⟨tk,rfl⟩:=ry;exact IntBool.add_bool_int (⟨.int _,H,I.tok _,⟨_,rfl⟩,po0 sB q rfl (.int _)⟩)
  | _=>exact q.elim
 | str x=>
  cases r' with
  | str y=>
   by_cases hb:x.length+y.length<=bnd
   ·exact Up pins s σ H _ _ v u Q I rx ry ⟨x,y,rfl,rfl,Zg hb,po0 sB q (if_pos hb) (.str _)⟩
   ·rw[show zE (.str x) (.str y)= .bad from if_neg hb]at q;exact q.elim
  | _=>exact q.elim
 | @tup a xs ts h1 r1=>
  cases r' with
  | @tup a' ys us h2 r2=>
   by_cases hb:ts.length+us.length<=bnd
   ·have eg:zE (.tup ts) (.tup us)= .ok _:=if_pos hb;have hz:xs.length+ys.length<=sizeLine:=by rw[r1.length,r2.length];exact Zg hb
    by_cases hx:xs=[]
    ·obtain rfl:v=Value.ref a:=rx;obtain rfl:u=Value.ref a' :=ry;obtain⟨its,rv,p,_⟩:=I.tuple (SqT.of (sB _ _ h1));obtain⟨its',rv',p',_⟩:=I.tuple (SqT.of (sB _ _ h2));have et:=r1.nil_iff.mp hx;refine Qp p p' (rv.nil_iff.mpr hx) ⟨.ref a',H,I,rfl,po0 sB q eg ?_⟩;rw[et];exact .tup h2 r2
    ·refine VA _ s σ H _ _ v u Q I rx ry ⟨a,a',xs,ys,rfl,rfl,SqT.of (sB _ _ h1),SqT.of (sB _ _ h2),hx,hz,λhy=> ?_,λhy p hp=> ?_⟩
     ·refine po0 sB q eg ?_;rw[r2.nil_iff.mp hy,aW];exact .tup h1 r1
     ·exact kA sB q eg (r1.append r2) hp
   ·rw[show zE (.tup ts) (.tup us)= .bad from if_neg hb]at q;exact q.elim
  | _=>exact q.elim
 | @lst a xs ts h1 r1=>
  cases r' with
  | @lst a' ys us h2 r2=>
   by_cases hb:ts.length+us.length<=bnd
   ·have eg:zE (.lst ts) (.lst us)= .ok _:=if_pos hb;have hz:xs.length+ys.length<=sizeLine:=by rw[r1.length,r2.length];exact Zg hb
    exact ku _ s σ H _ _ v u Q I rx ry ⟨a,a',xs,ys,rfl,rfl,sB _ _ h1,sB _ _ h2,hz,λp hp=>z0g sB q eg (r1.append r2) hp⟩
   ·rw[show zE (.lst ts) (.lst us)= .bad from if_neg hb]at q;exact q.elim
  | _=>exact q.elim
 | _=>cases r' <;> exact q.elim
theorem z0h (ha:Snd X Y a fa)(hb:Snd X Y b fb):Snd X Y (.BinOp a .Add b pos) (zb zE fa fb):=yR VI ha hb
noncomputable def ju:T->T->R T
 | .int i,.int j=> .ok (.int (i - j))
 | _,_=> .bad
noncomputable def jP:T->T->R T
 | .int i,.int j=>if 0 < j then .ok (.int (i % j)) else .bad
 | _,_=> .bad
noncomputable def wy:T->T->R T
 | .int i,.int j=>if 0 < j/\j < 1073741824 then .ok (.int (i / j)) else .bad
 | _,_=> .bad
instance (i j:Int):Decidable (WP i j):=by unfold WP;infer_instance
def Z4:T->T->R T
 | .int i,.int j=>if WP i j then .ok (.int (i*j)) else .bad
 | .lst xs,.int k=>if 0<=k/\k < 1000000/\xs.length*k.toNat<=bnd then .ok (.lst (af k.toNat xs).flatten) else .bad
 | .tup xs,.int k=>if 2<=k/\k < 1000000/\xs ≠ []/\xs.length*k.toNat<=bnd then .ok (.tup (af k.toNat xs).flatten) else .bad
 | _,_=> .bad
theorem VJ:OpR X (binaryOp .Sub) (rG Y ju):=by
 intro pins s σ H x y v u Q I rx ry h;obtain⟨B,t,t',sB,r,r',q⟩:=h;cases r with
 | int i=>
  cases r' with
  | int j=>exact ka _ s σ H _ _ v u Q I rx ry ⟨i,j,rfl,rfl,po0 sB q rfl (.int _)⟩
  | _=>exact q.elim
 | _=>cases r' <;> exact q.elim
theorem VL:OpR X (binaryOp .Mod) (rG Y jP):=by
 intro pins s σ H x y v u Q I rx ry h;obtain⟨B,t,t',sB,r,r',q⟩:=h;cases r with
 | int i=>
  cases r' with
  | int j=>
   by_cases hj:0 < j
   ·exact kd _ s σ H _ _ v u Q I rx ry ⟨i,j,rfl,rfl,hj,po0 sB q (if_pos hj) (.int _)⟩
   ·rw[show jP (.int i) (.int j)= .bad from if_neg hj]at q;exact q.elim
  | _=>exact q.elim
 | _=>cases r' <;> exact q.elim
theorem Qq:OpR X (binaryOp .FloorDiv) (rG Y wy):=by
 intro pins s σ H x y v u Q I rx ry h;obtain⟨B,t,t',sB,r,r',q⟩:=h;cases r with
 | int i=>
  cases r' with
  | int j=>
   by_cases hj:0 < j/\j < 1073741824
   ·exact Vo _ s σ H _ _ v u Q I rx ry ⟨i,j,rfl,rfl,hj,po0 sB q (if_pos hj) (.int _)⟩
   ·rw[show wy (.int i) (.int j)= .bad from if_neg hj]at q;exact q.elim
  | _=>exact q.elim
 | _=>cases r' <;> exact q.elim
theorem UC (l:Addr)(items:Array Value)(n:Nat)(dd:Option Addr)(sl:Array (Option Value))(x:Int)(u:Tok)(h1:2<=x)(h2:x < 1000000)(hne:items.isEmpty=false)(hsz:items.size*x.toNat<=sizeLine):
  Meets (Builtin.«tuple.__mul__» ⟨[.ref l,.int x u],[]⟩) (λ_ R s=>s.heap.get? l=some { cls:= .type "tuple",dict:=dd,data:= .seq items n,slots:=sl }/\
   R (.ok (.ret (Value.ref s.heap.objs.size))) { s with heap:=s.heap.push { cls:=Value.type "tuple",data:=Data.seq (dC (λx1 x2=>x1++x2) #[] (af x.toNat items)) },toks:=s.toks }):=
 .of_wp λprog w A R s h=>by
  obtain⟨hl,h⟩:=h;have e0:(items.size:Int)*x=((items.size*x.toNat:Nat):Int):=by
   have:x=((x.toNat:Nat):Int):=by omega
   rw[i5,← this]
  have sl1:(sizeLine:Nat)=16777216:=bU;have c1:¬ (decide (x < -(2 ^ 63)) || decide (x ≥ 2 ^ 63))=true:=by simp;omega
  have c2:¬ (items.isEmpty || x == 1)=true:=by simp[hne];omega
  have c3:¬ (decide (x<=0) || items.isEmpty)=true:=by simp[hne];omega
  have c4:¬ ((items.size:Int)*x > (2 ^ 63 - 1) / 8):=by rw[e0];omega
  have c5:¬ dD ((items.size:Int)*x)=true:=by
   unfold dD;rw[e0];intro z;have:=of_decide_eq_true z;omega
  unfold Builtin.«tuple.__mul__»
  wp_walk using wpAny_loadPart' hl
  rw[if_neg c1]
  wp_walk using wpAny_loadPart' hl
  rw[if_neg c2]
  try dsimp only
  rw[if_neg c3]
  try dsimp only
  rw[if_neg c4]
  try dsimp only
  rw[if_neg c5]
  try dsimp only
  have hsz' :sizeOk (.seq (dC (λx1 x2=>x1++x2) #[] (af x.toNat items))):=by
   show (dC (λx1 x2=>x1++x2) #[] _).size<=sizeLine;have:=jx items.toList x.toNat [];have q:=by
    simpa using this
   rw[q,az,jN,bP];exact hsz
  exact a7 (be (ax ⟨_,rfl,h⟩) hsz')
theorem Wh:seqRepeat? (.type "tuple")=pure (some (.builtin "tuple.__mul__")):=by
 unfold seqRepeat?;rw[fV (name:="__mul__") dS.lookup (by decide+kernel),fV (name:="__rmul__") fJ.lookup (by decide+kernel)]
 rfl
theorem Ja:fillsNumberSlot (.type "tuple") "mul"=pure false:=
 PySem.fillsNumberSlot_seq dS.lookup (by decide+kernel) fJ.lookup (by decide+kernel)
theorem JM (a:Int)(t:Tok)(l:Addr)(items:Array Value)(n:Nat)(dd:Option Addr)(sl:Array (Option Value)):
  Meets (Builtin.«int.__rmul__» ⟨[.int a t,.ref l],[]⟩) (λ_ R s=>s.heap.get? l=some { cls:= .type "tuple",dict:=dd,data:= .seq items n,slots:=sl }/\R (.ok (.ret Value.notImplemented)) s):=
 .of_wp λprog w A R s h=>by obtain⟨hl,h⟩:=h;wp_walk;exact⟨_,rfl,h⟩
theorem VM {t:Tok}(p:IsTup s.heap l its.toArray)(hne:its ≠ [])(h1:2<=k)(h2:k < 1000000)
  (hsz:its.length*k.toNat<=sizeLine) (q:Q (.ref s.heap.objs.size) { s with heap:=s.heap.push { cls:= .type "tuple",data:= .seq (af k.toNat its).flatten.toArray } }):
  wpAny (model prog w) A (binaryOp .Mult (.ref l) (.int k t)) Q E s:=by
 obtain⟨⟨cls,dd,data,sl⟩,ho,hc,n,hd⟩:=id p;subst hc hd;refine wpAny_binaryOp_repeat_ref (by decide) ⟨_,ho,rfl⟩ (λs' =>typeIs_int s' k t) Ja h_ di Wh fT.lookup
  (df di (typeIs_int s k t) fU (fH _ _) (JM k t l _ n dd sl)
   ⟨ho,rfl,⟨_,ho,rfl⟩,df dS ⟨_,ho,rfl⟩ F.entry_tuple_mul (F.args_tuple_mul_2 _ _) (UC l _ n dd sl k t h1 h2 (by simpa using hne) (by simpa using hsz)) ⟨ho, ?_⟩⟩)
 have:=jx its k.toNat [];rw[this];exact q
theorem VN:OpR X (binaryOp .Mult) (rG Y Z4):=by
 intro pins s σ H x y v u Q I rx ry h;obtain⟨B,t,t',sB,r,r',q⟩:=h;cases r with
 | int i=>
  cases r' with
  | int j=>
   by_cases hj:WP i j
   ·exact kb _ s σ H _ _ v u Q I rx ry ⟨i,j,rfl,rfl,hj,po0 sB q (if_pos hj) (.int _)⟩
   ·rw[show Z4 (.int i) (.int j)= .bad from if_neg hj]at q;exact q.elim
  | _=>exact q.elim
 | @lst l xs ts h1 r1=>
  cases r' with
  | int k=>
   by_cases hk:0<=k/\k < 1000000/\ts.length*k.toNat<=bnd
   ·have eg:Z4 (.lst ts) (.int k)= .ok _:=if_pos hk;exact kv _ s σ H _ _ v u Q I rx ry ⟨l,k,xs,rfl,rfl,sB _ _ h1,by omega,by omega,by rw[r1.length];exact Zg hk.2.2,λp hp=>z0g sB q eg (r1.rep _) hp⟩
   ·rw[show Z4 (.lst ts) (.int k)= .bad from if_neg hk]at q;exact q.elim
  | _=>exact q.elim
 | @tup l xs ts h1 r1=>
  cases r' with
  | int k=>
   by_cases hk:2<=k/\k < 1000000/\ts ≠ []/\ts.length*k.toNat<=bnd
   ·have eg:Z4 (.tup ts) (.int k)= .ok _:=if_pos hk;obtain rfl:v=Value.ref l:=rx;obtain⟨tk,rfl⟩:=ry;obtain⟨its,rv,p,_⟩:=I.tuple (SqT.of (sB _ _ h1));have ln:=r1.length.symm.trans rv.length;have hne:its ≠ []:=λz=>hk.2.2.1 (by rw[z]at ln;exact dU.mp ln)
    refine VM p hne hk.1 hk.2.1 (by rw[← ln];exact Zg hk.2.2.2) ⟨.ref _,upd H _ (.tup (af k.toNat xs).flatten),I.laid (λb u e=>aa _ e) (ai _) ?_,rfl, ?_⟩
    ·exact⟨by rw[jN,r1.length,bP];exact Zg hk.2.2.2,(af _ its).flatten,rv.rep _,⟨_,ag _ rfl,rfl,_,rfl⟩,.inr ⟨_,ag _ rfl,rfl⟩⟩
    ·exact kA sB q eg (r1.rep _) (I.hok.fresh (ai _))
   ·rw[show Z4 (.tup ts) (.int k)= .bad from if_neg hk]at q;exact q.elim
  | _=>exact q.elim
 | _=>cases r' <;> exact q.elim
theorem z0i (ha:Snd X Y a fa)(hb:Snd X Y b fb):Snd X Y (.BinOp a .Sub b pos) (zb ju fa fb):=yR VJ ha hb
theorem z0j (ha:Snd X Y a fa)(hb:Snd X Y b fb):Snd X Y (.BinOp a .Mod b pos) (zb jP fa fb):=yR VL ha hb
theorem kB (ha:Snd X Y a fa)(hb:Snd X Y b fb):Snd X Y (.BinOp a .FloorDiv b pos) (zb wy fa fb):=yR Qq ha hb
theorem z0k (ha:Snd X Y a fa)(hb:Snd X Y b fb):Snd X Y (.BinOp a .Mult b pos) (zb Z4 fa fb):=yR VN ha hb
def JX (fa:En->R T):En->R T:=λρ=>(fa ρ).bind λx=>match x with
 | .int i=> .ok (.int (-i))
 | _=> .bad
theorem z0l (ha:Snd X Y a fa):Snd X Y (.UnaryOp .USub a pos) (JX fa):= .mk λρ=>PE.imp (GX ke (ha ρ)) λσ H Q ⟨B,I,q⟩=>step I q λt v H1 _ s1 r1 I1 q1=>by
 cases r1 with
 | int i=>exact⟨i,rfl,po0 I1.sB q1 rfl (.int _)⟩
 | _=>exact q1.elim
def Wi (g:T->T->R Bool):R2:=λx y H Q=>∃t t' b,Rep H x t/\Rep H y t' /\g t t' = .ok b/\Q (.bl b) H
def ZL (g:T->T->R Bool)(fa fb:En->R T):En->R T:=λρ=>(fa ρ).bind λx=>(fb ρ).bind λy=>(g x y).bind λb=> .ok (.bl b)
def zL (g:T->T->R Bool)(fa fb:En->R T):En->R Bool:=λρ=>(fa ρ).bind λx=>(fb ρ).bind λy=>g x y
noncomputable def Nx (g:T->T->R Bool):Prop:=∀t t' c,g t t' ≠ .ex c
theorem VO (nx:Nx g)(ho:OpR X (compareOp op) (Wi g))(ha:ji X Y a fa)(hb:ji X Y b fb)(hm:behindInMarks op b=false):Snd X Y (.Compare a [op] [b] pos) (ZL g fa fb):= .mk λρ=>
 PE.imp (yw ho (ha ρ) (hb ρ) hm) λσ H Q ⟨B,I,q⟩=>step I q λt v H1 _ s1 r1 I1 q1=>step I1 q1 λt' v' H2 _ s2 r2 I2 q2=>by
  cases e:g t t' with
  | bad=>rw[e]at q2;exact q2.elim
  | ex c=>exact absurd e (nx _ _ _)
  | ok b=>rw[e]at q2;exact⟨t,t',b,r1.mono s2,r2,e,ZB I2 q2 (.bl b)⟩
theorem WW (nx:Nx g)(ho:OpR X (compareOp op) (Wi g))(ha:ji X Y a fa)(hb:ji X Y b fb)(hm:behindInMarks op b=false):Wg X Y (.Compare a [op] [b] pos) (zL g fa fb):= .mk λρ=>
 PT.imp (Vp ho (ha ρ) (hb ρ) hm) λσ H Q ⟨B,I,q⟩=>step I q λt v H1 _ s1 r1 I1 q1=>step I1 q1 λt' v' H2 _ s2 r2 I2 q2=>by
  cases e:g t t' with
  | bad=>rw[e]at q2;exact q2.elim
  | ex c=>exact absurd e (nx _ _ _)
  | ok b=>rw[e]at q2;exact⟨t,t',b,r1.mono s2,r2,e,b,rfl,ZB I2 q2 rfl⟩
def eqC (t t' :T):R Bool:=match eqF 30 t t' with
 | some b=> .ok b
 | none=> .bad
def neC (t t' :T):R Bool:=match eqF 30 t t' with
 | some b=> .ok (!b)
 | none=> .bad
theorem VP:Nx eqC:=λt t' c h=>by unfold eqC at h;split at h <;> cases h
theorem z0m:Nx neC:=λt t' c h=>by unfold neC at h;split at h <;> cases h
theorem yS (hu:X.A.units+64 < cLine):OpR X (compareOp .Eq) (Wi eqC):=by
 intro pins s σ H x y v u Q I rx ry h;obtain⟨t,t',b,r,r',e,q⟩:=h;unfold eqC at e;split at e
 ·rename_i k ek;have e' :=by injection e
  subst e';exact(Qo I 30 X.A (by omega) t t' k x y v u ek r r' rx ry).2.1 _ _ _ _ ⟨.bl k,H,I,rfl,q⟩
 ·cases e
theorem kC (hu:X.A.units+64 < cLine):OpR X (compareOp .NotEq) (Wi neC):=by
 intro pins s σ H x y v u Q I rx ry h;obtain⟨t,t',b,r,r',e,q⟩:=h;unfold neC at e;split at e
 ·rename_i k ek;cases e;exact(Qo I 30 X.A (by omega) t t' k x y v u ek r r' rx ry).2.2 _ _ _ _ ⟨.bl _,H,I,rfl,q⟩
 ·cases e
noncomputable def ltC:T->T->R Bool
 | .int i,.int j=> .ok (decide (i < j))
 | _,_=> .bad
noncomputable def leC:T->T->R Bool
 | .int i,.int j=> .ok (decide (i<=j))
 | .str x,.str y=> .ok (!decide (y.cps.toList < x.cps.toList))
 | _,_=> .bad
noncomputable def gtC:T->T->R Bool
 | .int i,.int j=> .ok (decide (j < i))
 | _,_=> .bad
theorem z0n:Nx ltC:=λt t' c h=>by unfold ltC at h;split at h <;> cases h
theorem wz:Nx leC:=λt t' c h=>by unfold leC at h;split at h <;> cases h
theorem z0o:Nx gtC:=λt t' c h=>by unfold gtC at h;split at h <;> cases h
theorem kD:OpR X (compareOp .Lt) (Wi ltC):=by
 intro pins s σ H x y v u Q I rx ry h;obtain⟨t,t',b,r,r',e,q⟩:=h;unfold ltC at e;split at e
 ·rename_i i j;cases e;cases r;cases r';exact GZ _ s σ H _ _ v u Q I rx ry ⟨i,j,rfl,rfl,q⟩
 ·cases e
theorem kG:OpR X (compareOp .Gt) (Wi gtC):=by
 intro pins s σ H x y v u Q I rx ry h;obtain⟨t,t',b,r,r',e,q⟩:=h;unfold gtC at e;split at e
 ·rename_i i j;cases e;cases r;cases r';exact z01 _ s σ H _ _ v u Q I rx ry ⟨i,j,rfl,rfl,q⟩
 ·cases e
theorem jz:OpR X (compareOp .LtE) (Wi leC):=by
 intro pins s σ H x y v u Q I rx ry h;obtain⟨t,t',b,r,r',e,q⟩:=h;unfold leC at e;split at e
 ·rename_i i j;cases e;cases r;cases r';exact z00 _ s σ H _ _ v u Q I rx ry ⟨i,j,rfl,rfl,q⟩
 ·cases e;cases r;cases r';obtain⟨t1,rfl⟩:=rx;obtain⟨t2,rfl⟩:=ry;exact PySem.P.le_str ⟨.bl _,H,I,rfl,q⟩
 ·cases e
end
section
variable {X:Cx}{Y:Fx}{a b c d:Expr}{fa fb fc fd:En->R T}{pos:Pos}
noncomputable def JJ (f:T->Option Bool):List T->Option Bool
 | []=>some false
 | t :: r=>match f t with
  | none=>none
  | some b=>match JJ f r with
   | none=>none
   | some c=>some (b || c)
def inC (t t' :T):R Bool:=match t' with
 | .tup ys=>match JJ (λy=>eqF 30 y t) ys with | some b=> .ok b | none=> .bad
 | .lst ys=>match JJ (λy=>eqF 30 y t) ys with | some b=> .ok b | none=> .bad
 | _=> .bad
def Qr (t t' :T):R Bool:=(inC t t').bind λb=> .ok (!b)
theorem Qs:Nx inC:=λt t' c h=>by
 unfold inC at h;split at h
 ·split at h <;> cases h
 ·split at h <;> cases h
 ·cases h
theorem kH:Nx Qr:=λt t' c h=>by
 unfold Qr at h;cases e:inC t t' with
 | bad=>rw[e]at h;cases h
 | ex k=>exact absurd e (Qs _ _ _)
 | ok k=>rw[e]at h;cases h
open Classical in
theorem yT (f:T->Option Bool):∃e:Value->Bool,∀(v:V) (t:T) (u:Value) (b:Bool),Za v u->Rep H v t->f t=some b->e u=b:=by
 refine⟨λu=>decide (∃v t,Za v u/\Rep H v t/\f t=some true),λv t u b rv r e=> ?_⟩;cases b with
 | true=>exact decide_eq_true ⟨v,t,rv,r,e⟩
 | false=>
  refine decide_eq_false ?_
  rintro⟨v',t',rv',r',e'⟩
  have:=rv.inj rv';subst this;have:=r.fn r';subst this;rw[e]at e';cases e'
theorem yU {H:Hp}{f:T->Option Bool}{e:Value->Bool}(he:∀(v:V) (t:T) (u:Value) (b:Bool),Za v u->Rep H v t->f t=some b->e u=b):∀{xs:List V} {ts:List T} {its:List Value} {b:Bool},
  zR xs its->zB H xs ts->JJ f ts=some b->its.any e=b/\∀u∈its,∃v t k,Za v u/\Rep H v t/\f t=some k
 | _,_,_,b,.nil,.nil,h=>by
  have h' :=h;cases h';exact⟨rfl,λu hu=>by simp at hu⟩
 | _,_,_,b,.cons rv vs,.cons r rs,h=>by
  rename_i v u vals us t ts;unfold JJ at h;cases q:f t with
  | none=>rw[q]at h;cases h
  | some k=>
   rw[q]at h;cases q' :JJ f ts with
   | none=>rw[q']at h;cases h
   | some k' =>
    rw[q']at h;cases h;obtain⟨h1,h2⟩:=yU he vs rs q';refine⟨by rw[List.any_cons,h1,he v t u k rv r q],λw hw=> ?_⟩
    rcases ah.mp hw with rfl | hw
    ·exact⟨v,t,k,rv,r,q⟩
    ·exact h2 w hw
theorem yV (hu:X.A.units+64 < cLine)(neg:Bool):OpR X (compareOp (if neg then .NotIn else .In)) (Wi (if neg then Qr else inC)):=by
 intro pins s σ H x y v u Q I rx ry h;obtain⟨t,t',b,r,r',e,q⟩:=h;have hs:∃k,inC t t' = .ok k/\b=(if neg then !k else k):=by
  cases neg with
  | false=>exact⟨b,e,rfl⟩
  | true=>
   have e' :Qr t t' = .ok b:=e;unfold Qr at e';cases z:inC t t' with
   | bad=>rw[z]at e';cases e'
   | ex k=>exact absurd z (Qs _ _ _)
   | ok k=>rw[z]at e';cases e';exact⟨k,rfl,rfl⟩
 obtain⟨k,ek,rfl⟩:=hs;unfold inC at ek;obtain⟨f,hf⟩:=yT λy=>eqF 30 y t;have eqa:∀w,(∃v t' k,Za v w/\Rep H v t' /\eqF 30 t' t=some k)->cB X.A.in1 s w v (f w):=λw ⟨v',t',k,rv,rr,ee⟩=>by
  rw[hf v' t' w k rv rr ee];exact(Qo I 30 _ (by rw[Js];omega) t' t k v' x w v ee rr r rv rx).1
 split at ek
 ·split at ek
  ·rename_i k' hk;cases ek;cases r' with
   | @tup l xs _ h1 r1=>
    obtain rfl:u=Value.ref l:=ry;obtain⟨its,rv,p,_⟩:=ZH I h1 r1;obtain⟨h2,h3⟩:=yU hf rv r1 hk;have h4:its.toArray.any f=k:=by simpa using h2
    cases neg with
    | false=>exact SeqAt.in_tupleAt f p (λw hw=>eqa w (h3 w (by simpa using hw))) (by rw[h4];exact⟨.bl k,H,I,rfl,q⟩)
    | true=>exact SeqAt.notIn_tupleAt f p (λw hw=>eqa w (h3 w (by simpa using hw))) (by rw[h4];exact⟨.bl _,H,I,rfl,q⟩)
  ·cases ek
 ·split at ek
  ·rename_i k' hk;cases ek;cases r' with
   | @lst l xs _ h1 r1=>
    obtain rfl:u=Value.ref l:=ry;obtain⟨its,rv,p,_⟩:=zO I (.inl h1) r1;obtain⟨h2,h3⟩:=yU hf rv r1 hk;have h4:its.toArray.any f=k:=by simpa using h2
    cases neg with
    | false=>exact SeqAt.in_listAt f p (λw hw=>eqa w (h3 w (by simpa using hw))) (by rw[h4];exact⟨.bl k,H,I,rfl,q⟩)
    | true=>exact SeqAt.notIn_listAt f p (λw hw=>eqa w (h3 w (by simpa using hw))) (by rw[h4];exact⟨.bl _,H,I,rfl,q⟩)
  ·cases ek
 ·cases ek
theorem vF (hu:X.A.units+64 < cLine):OpR X (compareOp .In) (Wi inC):=yV hu false
theorem VQ (hu:X.A.units+64 < cLine):OpR X (compareOp .NotIn) (Wi Qr):=yV hu true
noncomputable def isNC (t t' :T):R Bool:=match t' with
 | .non=>match t with | .non=> .ok true | _=> .ok false
 | .bl k=>match t with | .bl j=> .ok (j == k) | _=> .ok false
 | _=> .bad
def chE (g g' :T->T->R Bool)(fa fb fc:En->R T):En->R T:=λρ=>(fa ρ).bind λx=>(fb ρ).bind λy=>(g x y).bind λk=>if k=true then (fc ρ).bind λz=>(g' y z).bind λk' => .ok (.bl k') else .ok (.bl false)
def chT (g g' :T->T->R Bool)(fa fb fc:En->R T):En->R Bool:=λρ=>(fa ρ).bind λx=>(fb ρ).bind λy=>(g x y).bind λk=>if k=true then (fc ρ).bind λz=>g' y z else .ok false
theorem VR (nx:Nx g)(nx' :Nx g')(ho:OpR X (compareOp op) (Wi g))(ho' :OpR X (compareOp op') (Wi g'))(ha:ji X Y a fa)(hb:ji X Y b fb)(hc:ji X Y c fc)
  (hm:lastMarks [op,op'] [b,c]=false:=by with_unfolding_all rfl):Snd X Y (.Compare a [op,op'] [b,c] pos) (chE g g' fa fb fc):= .mk λρ=>
 PE.imp (Qf ho ho' (ha ρ) (hb ρ) (hc ρ) hm) λσ H Q ⟨B,I,q⟩=>step I q λt v H1 _ s1 r1 I1 q1=>step I1 q1 λt' v' H2 _ s2 r2 I2 q2=>by
  cases e:g t t' with
  | bad=>rw[e]at q2;exact q2.elim
  | ex c=>exact absurd e (nx _ _ _)
  | ok k=>
   rw[e]at q2;refine⟨t,t',k,r1.mono s2,r2,e,k,rfl, ?_⟩;cases k with
   | false=>exact ZB I2 q2 (.bl _)
   | true=>
    refine step I2 q2 λt3 v3 H3 _ s3 r3 I3 q3=> ?_
    ·cases e:g' t' t3 with
     | bad=>rw[e]at q3;exact q3.elim
     | ex c=>exact absurd e (nx' _ _ _)
     | ok k=>rw[e]at q3;exact⟨t',t3,k,r2.mono s3,r3,e,ZB I3 q3 (.bl k)⟩
theorem VS (nx:Nx g)(nx' :Nx g')(ho:OpR X (compareOp op) (Wi g))(ho' :OpR X (compareOp op') (Wi g'))(ha:ji X Y a fa)(hb:ji X Y b fb)(hc:ji X Y c fc)
  (hm:lastMarks [op,op'] [b,c]=false:=by with_unfolding_all rfl):Wg X Y (.Compare a [op,op'] [b,c] pos) (chT g g' fa fb fc):= .mk λρ=>
 PT.imp (Qg ho ho' (ha ρ) (hb ρ) (hc ρ) hm) λσ H Q ⟨B,I,q⟩=>step I q λt v H1 _ s1 r1 I1 q1=>step I1 q1 λt' v' H2 _ s2 r2 I2 q2=>by
  cases e:g t t' with
  | bad=>rw[e]at q2;exact q2.elim
  | ex c=>exact absurd e (nx _ _ _)
  | ok k=>
   rw[e]at q2;refine⟨t,t',k,r1.mono s2,r2,e,k,rfl, ?_⟩;cases k with
   | false=>exact⟨false,rfl,ZB I2 q2 rfl⟩
   | true=>
    refine step I2 q2 λt3 v3 H3 _ s3 r3 I3 q3=> ?_
    ·cases e:g' t' t3 with
     | bad=>rw[e]at q3;exact q3.elim
     | ex c=>exact absurd e (nx' _ _ _)
     | ok k=>rw[e]at q3;exact⟨t',t3,k,r2.mono s3,r3,e,k,rfl,ZB I3 q3 rfl⟩
def VT (r r' r'' :R2)(ta tb tc td:TE):TE:=λσ H Q=>ta σ H λx H1=>tb σ H1 λy H2=>r x y H2 λz H3=>∃k,z= .bl k/\
 (if k=true then tc σ H3 λw' H4=>r' y w' H4 λz' H5=>∃k',z' = .bl k' /\(if k' =true then td σ H5 λw2 H6=>r'' w' w2 H6 Q else Q (.bl false) H5) else Q (.bl false) H3)
theorem yW (ho:OpR X (compareOp op) r)(ho' :OpR X (compareOp op') r')(ho'' :OpR X (compareOp op'') r'')(ha:PE X a ta)(hb:PE X b tb)(hc:PE X c tc)(hd:PE X d td)
  (hm:lastMarks [op,op',op''] [b,c,d]=false:=by with_unfolding_all rfl):PE X (.Compare a [op,op',op''] [b,c,d] pos) (VT r r' r'' ta tb tc td):=by
 intro pins s σ H Q I h;refine Compare_chain (thn (ha _ s σ H _ I h) λv s1 ⟨x,H1,I1,r1,q1⟩=>chain_link (thn (hb _ s1 σ H1 _ I1 q1) λu s2 ⟨y,H2,I2,r2,q2⟩=>
  thn (ho _ s2 σ H2 x y v u _ I2 r1 r2 q2) λd' s3 ⟨z,H3,I3,r3,k,e,q3⟩=> ?_)) hm
 subst e;cases r3;refine b9 ?_;cases k with
 | false=>exact ite_ff ⟨.bl _,H3,I3,rfl,q3⟩
 | true=>
  refine ite_tt (chain_link (thn (hc _ s3 σ H3 _ I3 q3) λw' s4 ⟨z',H4,I4,r4,q4⟩=>thn (ho' _ s4 σ H4 y z' u w' _ I4 r2 r4 q4) λd2 s5 ⟨z5,H5,I5,r5,k5,e5,q5⟩=> ?_));subst e5;cases r5;refine b9 ?_;cases k5 with
  | false=>exact ite_ff ⟨.bl _,H5,I5,rfl,q5⟩
  | true=>exact ite_tt (chain_last (thn (hd _ s5 σ H5 _ I5 q5) λw6 s6 ⟨z6,H6,I6,r6,q6⟩=>ho'' _ s6 σ H6 z' z6 w' w6 Q I6 r4 r6 q6))
def ch3E (g g' g'' :T->T->R Bool)(fa fb fc fd:En->R T):En->R T:=λρ=>(fa ρ).bind λx=>(fb ρ).bind λy=>(g x y).bind λk=>if k=true then (fc ρ).bind λz=>(g' y z).bind λk' =>
 if k' =true then (fd ρ).bind λw=>(g'' z w).bind λk'' => .ok (.bl k'') else .ok (.bl false) else .ok (.bl false)
theorem Qt (nx:Nx g)(nx' :Nx g')(nx'' :Nx g'')(ho:OpR X (compareOp op) (Wi g))(ho' :OpR X (compareOp op') (Wi g'))(ho'' :OpR X (compareOp op'') (Wi g''))
  (ha:ji X Y a fa) (hb:ji X Y b fb) (hc:ji X Y c fc) (hd:ji X Y d fd)
  (hm:lastMarks [op,op',op''] [b,c,d]=false:=by with_unfolding_all rfl):Snd X Y (.Compare a [op,op',op''] [b,c,d] pos) (ch3E g g' g'' fa fb fc fd):= .mk λρ=>
 PE.imp (yW ho ho' ho'' (ha ρ) (hb ρ) (hc ρ) (hd ρ) hm) λσ H Q ⟨B,I,q⟩=>step I q λt v H1 _ s1 r1 I1 q1=>step I1 q1 λt' v' H2 _ s2 r2 I2 q2=>by
  cases e:g t t' with
  | bad=>rw[e]at q2;exact q2.elim
  | ex c=>exact absurd e (nx _ _ _)
  | ok k=>
   rw[e]at q2;refine⟨t,t',k,r1.mono s2,r2,e,k,rfl, ?_⟩;cases k with
   | false=>exact ZB I2 q2 (.bl _)
   | true=>
    refine step I2 q2 λt3 v3 H3 _ s3 r3 I3 q3=> ?_
    ·cases e:g' t' t3 with
     | bad=>rw[e]at q3;exact q3.elim
     | ex c=>exact absurd e (nx' _ _ _)
     | ok k=>
      rw[e]at q3;refine⟨t',t3,k,r2.mono s3,r3,e,k,rfl, ?_⟩;cases k with
      | false=>exact ZB I3 q3 (.bl _)
      | true=>
       refine step I3 q3 λt4 v4 H4 _ s4 r4 I4 q4=> ?_
       ·cases e:g'' t3 t4 with
        | bad=>rw[e]at q4;exact q4.elim
        | ex c=>exact absurd e (nx'' _ _ _)
        | ok k=>rw[e]at q4;exact⟨t3,t4,k,r3.mono s4,r4,e,ZB I4 q4 (.bl k)⟩
variable {rest:List Expr}{ga gb:En->R Bool}
def ZM (fa fb:En->R T):En->R T:=λρ=>(fa ρ).bind λx=>match x with
 | .bl true=>fb ρ
 | .bl false=> .ok (.bl false)
 | _=> .bad
def orE (fa fb:En->R T):En->R T:=λρ=>(fa ρ).bind λx=>match x with
 | .bl true=> .ok (.bl true)
 | .bl false=>fb ρ
 | _=> .bad
def Qu (fa:En->R T):En->R T:=λρ=>(fa ρ).bind λx=>match x with
 | .bl k=> .ok (.bl (!k))
 | _=> .bad
theorem z0p {op}(h:Snd X Y a fa):Snd X Y (.BoolOp op [a] pos) fa:= .mk λρ=>XY (h ρ)
theorem z0q (ha:Snd X Y a fa)(hb:Snd X Y (.BoolOp .And (b :: rest) pos) fb):Snd X Y (.BoolOp .And (a :: b :: rest) pos) (ZM fa fb):= .mk λρ=>
 PE.imp (XZ (ha ρ) (hb ρ)) λσ H Q ⟨B,I,q⟩=>step I q λt v H1 _ s1 r1 I1 q1=>by
  cases r1 with
  | bl k=>
   refine⟨k,rfl, ?_⟩;cases k with
   | true=>exact⟨_,I1,q1⟩
   | false=>exact ZB I1 q1 (.bl _)
  | _=>exact q1.elim
theorem s_or (ha:Snd X Y a fa)(hb:Snd X Y (.BoolOp .Or (b :: rest) pos) fb):Snd X Y (.BoolOp .Or (a :: b :: rest) pos) (orE fa fb):= .mk λρ=>
 PE.imp (GO (ha ρ) (hb ρ)) λσ H Q ⟨B,I,q⟩=>step I q λt v H1 _ s1 r1 I1 q1=>by
  cases r1 with
  | bl k=>
   refine⟨k,rfl, ?_⟩;cases k with
   | false=>exact⟨_,I1,q1⟩
   | true=>exact ZB I1 q1 (.bl _)
  | _=>exact q1.elim
theorem z0r (ha:Snd X Y a fa):Snd X Y (.UnaryOp .Not a pos) (Qu fa):= .mk λρ=>
 PE.imp (k0 (ha ρ)) λσ H Q ⟨B,I,q⟩=>step I q λt v H1 _ s1 r1 I1 q1=>by
  cases r1 with
  | bl k=>exact⟨k,rfl,ZB I1 q1 (.bl _)⟩
  | _=>exact q1.elim
structure yf (X:Cx) (Y:Fx) (e:Expr) (f:En->R Bool):Prop where
 mk ::
 go:∀ρ,PW X e (tS Y rE f ρ)
instance {X:Cx}{Y:Fx}{e:Expr}{f:En->R Bool}:CoeFun (yf X Y e f) λ_=>∀ρ,PW X e (tS Y rE f ρ):=⟨yf.go⟩
theorem yf.t (h:yf X Y e f):Wg X Y e f:= .mk λρ=>(h ρ).pt
theorem PW.imp (h:PW X e t)(i:∀σ H Q,t' σ H Q->t σ H Q):PW X e t' :=λwh pins s σ H Q I q=>h wh _ s σ H Q I (i σ H Q q)
def kI (fa fb:En->R Bool):En->R Bool:=λρ=>(fa ρ).bind λx=>if x=true then fb ρ else .ok false
def orT (fa fb:En->R Bool):En->R Bool:=λρ=>(fa ρ).bind λx=>if x=true then .ok true else fb ρ
def WQ (fa:En->R Bool):En->R Bool:=λρ=>(fa ρ).bind λx=> .ok (!x)
theorem kJ (h:Wg X Y a ga):yf X Y (.BoolOp .And [a] pos) ga:= .mk λρ=>Vn (h ρ)
theorem z0s (h:Wg X Y a ga):yf X Y (.BoolOp .Or [a] pos) ga:= .mk λρ=>XW (h ρ)
theorem z0t (ha:Wg X Y a ga)(hb:yf X Y (.BoolOp .And (b :: rest) pos) gb):yf X Y (.BoolOp .And (a :: b :: rest) pos) (kI ga gb):= .mk λρ=>
 PW.imp (XX (ha ρ) (hb ρ)) λσ H Q ⟨B,I,q⟩=>step I q λt v H1 _ s1 r1 I1 q1=>by
  have r1' :=r1;subst r1';cases v with
  | true=>exact⟨_,I1,q1⟩
  | false=>exact ZB I1 q1 rfl
theorem w_or (ha:Wg X Y a ga)(hb:yf X Y (.BoolOp .Or (b :: rest) pos) gb):yf X Y (.BoolOp .Or (a :: b :: rest) pos) (orT ga gb):= .mk λρ=>
 PW.imp (GL (ha ρ) (hb ρ)) λσ H Q ⟨B,I,q⟩=>step I q λt v H1 _ s1 r1 I1 q1=>by
  have r1' :=r1;subst r1';cases v with
  | false=>exact⟨_,I1,q1⟩
  | true=>exact ZB I1 q1 rfl
theorem z0u (ha:Wg X Y a ga):Wg X Y (.UnaryOp .Not a pos) (WQ ga):= .mk λρ=>
 PT.imp (vx (ha ρ)) λσ H Q ⟨B,I,q⟩=>step I q λt v H1 _ s1 r1 I1 q1=>by
  have r1' :=r1;subst r1';exact ZB I1 q1 rfl
noncomputable def tru:T->R Bool
 | .bl k=> .ok k
 | .non=> .ok false
 | .int i=> .ok (i != 0)
 | .tup xs=> .ok (!xs.isEmpty)
 | .lst xs=> .ok (!xs.isEmpty)
 | _=> .bad
def JN (fa:En->R T):En->R Bool:=λρ=>(fa ρ).bind tru
theorem isE (r:zB H xs ts):(!xs.isEmpty)= !ts.isEmpty:=by cases r <;> rfl
theorem z0v (ha:ji X Y a fa)(he:∀whole,isTrue a X.env whole=(do let v ← whole;standAt a.pos;holding [v] (truthy v)):=by intro _;rfl):Wg X Y a (JN fa):= .mk λρ=>
 PT.imp (uq (ha ρ) he) λσ H Q ⟨B,I,q⟩=>step I q λt v H1 _ s1 r1 I1 q1=>by
  cases r1 with
  | bl k=>exact⟨k,rfl,ZB I1 q1 rfl⟩
  | non=>exact⟨false,rfl,ZB I1 q1 rfl⟩
  | int i=>exact⟨_,rfl,ZB I1 q1 rfl⟩
  | tup h r=>exact⟨_,.inr (.inl ⟨_,SqT.of h,rfl⟩),ZB I1 q1 (isE r)⟩
  | lst h r=>exact⟨_,.inl ⟨_,SqL.of h,rfl⟩,ZB I1 q1 (isE r)⟩
  | _=>exact q1.elim
def ifE (g:En->R Bool)(fa fb:En->R T):En->R T:=λρ=>(g ρ).bind λk=>if k=true then fa ρ else fb ρ
theorem s_if (hc:Wg X Y c ga)(ha:Snd X Y a fa)(hb:Snd X Y b fb):Snd X Y (.IfExp c a b pos) (ifE ga fa fb):= .mk λρ=>
 PE.imp (Qd (hc ρ) (ha ρ) (hb ρ)) λσ H Q ⟨B,I,q⟩=>step I q λt v H1 _ s1 r1 I1 q1=>by
  have r1' :=r1;subst r1';cases v with
  | true=>exact⟨_,I1,q1⟩
  | false=>exact⟨_,I1,q1⟩
end
end PV
namespace PV
open PySem PySem.Spec PyProof.Rows L2
section
variable {X:Cx}{Y:Fx}{a b c d:Expr}{fa fb fc fd:En->R T}{pos p:Pos}
def ap1 (g:T->R T)(fa:En->R T):En->R T:=λρ=>(fa ρ).bind g
noncomputable abbrev St1 (X:Cx)(a:Expr):Prop:=starEach [a] X.env=[(false,eval a X.env)]
theorem Wj {id:String}{x:Str}{r:List V->Hp->VK->Prop}{g:T->R T}(hc:Zo X (.builtin id) r)(hr:∀v t B H Q,Rep H v t->zt B H->Po Y rC B H (g t) Q->r [v] H Q)
  (gl:Gl X x) (mg:X.mg x=none) (bt:bootBuiltins x=some (.builtin id)) (ha:ji X Y a fa) (hs:St1 X a:=by exact st1 rfl) (hn:x ≠ "__name__":=by decide) (hd:(x == ("__debug__":Str))=false:=by decide):Snd X Y (.Call (.Name x p) [a] [] pos) (ap1 g fa):= .mk λρ=>
 PE.imp (ZS hc gl mg bt (zx (ha ρ) zM hs) hn hd hs rfl) λσ H Q ⟨B,I,q⟩=>step I q λt v H1 _ s1 r1 I1 q1=>hr v t _ H1 Q r1 I1.sB q1
theorem vG {id:String}{x:Str}{r:List V->Hp->VK->Prop}{g:T->R T}(hc:Zo X (.type id) r)(hr:∀v t B H Q,Rep B v t->zt B H->Po Y rC B H (g t) Q->r [v] H Q)
  (gl:Gl X x) (mg:X.mg x=none) (bt:bootBuiltins x=some (.type id)) (ha:Snd X Y a fa) (hs:St1 X a:=by exact st1 rfl) (hn:x ≠ "__name__":=by decide) (hd:(x == ("__debug__":Str))=false:=by decide):Snd X Y (.Call (.Name x p) [a] [] pos) (ap1 g fa):= .mk λρ=>
 PE.imp (Zd hc gl mg bt (zx (ha ρ) zM hs) hn hd hs rfl) λσ H Q ⟨B,I,q⟩=>step I q λt v H1 _ s1 r1 I1 q1=>hr v t _ H1 Q r1 I1.sB q1
def Zw:T->R T
 | .tup xs=> .ok (.int xs.length)
 | .lst xs=> .ok (.int xs.length)
 | .fz xs=> .ok (.int xs.length)
 | .str x=>if x.length<=bnd then .ok (.int x.length) else .bad
 | _=> .bad
theorem z0w (v:V)(t:T)(B H:Hp)(Q:VK)(r:Rep H v t)(sB:zt B H)(q:Po Y rC B H (Zw t) Q):
  (∃p ys,[v]=[V.ref p]/\(SqL X.K H p ys\/SqT X.K H p ys)/\Q (V.int ys.length) H)\/(∃z,[v]=[V.str z]/\z.length<=sizeLine/\Q (V.int z.length) H):=by
 cases r with
 | tup h r=>exact .inl ⟨_,_,rfl,.inr (SqT.of h),po0 sB q rfl (by rw[r.length];exact .int _)⟩
 | lst h r=>exact .inl ⟨_,_,rfl,.inl (SqL.of h),po0 sB q rfl (by rw[r.length];exact .int _)⟩
 | fz h r=>exact .inl ⟨_,_,rfl,.inl (.inl (.inr ⟨_,h⟩)),po0 sB q rfl (by rw[r.length];exact .int _)⟩
 | str x=>
  by_cases hb:x.length<=bnd
  ·exact .inr ⟨x,rfl,Zg hb,po0 sB q (if_pos hb) (.int _)⟩
  ·rw[show Zw (.str x)= .bad from if_neg hb]at q;exact q.elim
 | _=>exact q.elim
theorem z0x (gl:Gl X "len")(mg:X.mg "len"=none)(ha:ji X Y a fa)(hs:St1 X a:=by exact st1 rfl):Snd X Y (.Call (.Name "len" p) [a] [] pos) (ap1 Zw fa):=
 Wj (Wc.or Wd) z0w gl mg PySem.boot_len ha hs
noncomputable def Gf:T->R T
 | .tup xs=> .ok (.tup xs)
 | .lst xs=> .ok (.tup xs)
 | _=> .bad
theorem z0y (v:V)(t:T)(B H:Hp)(Q:VK)(r:Rep B v t)(sB:zt B H)(q:Po Y rC B H (Gf t) Q):
  ∃p ys,[v]=[V.ref p]/\((SqL X.K H p ys/\∀l,H l=none->Q (.ref l) (upd H l (.tup ys)))\/(SqT X.K H p ys/\Q (.ref p) H)):=by
 cases r with
 | tup h r=>exact⟨_,_,rfl,.inr ⟨SqT.of (sB _ _ h),po0 sB q rfl (.tup h r)⟩⟩
 | lst h r=>exact⟨_,_,rfl,.inl ⟨SqL.of (sB _ _ h),λl hl=>kA sB q rfl r hl⟩⟩
 | _=>exact q.elim
theorem VU (gl:Gl X "tuple")(mg:X.mg "tuple"=none)(ha:Snd X Y a fa)(hs:St1 X a:=by exact st1 rfl):Snd X Y (.Call (.Name "tuple" p) [a] [] pos) (ap1 Gf fa):=
 vG jw z0y gl mg (PyProof.Rows.Boot.«tuple») ha hs
noncomputable def tyN:T->String
 | .non=>"NoneType"
 | .bl _=>"bool"
 | .int _=>"int"
 | .str _=>"str"
 | .tup _=>"tuple"
 | .lst _=>"list"
 | .fz _=>"list"
def isT (n:String)(t:T):Bool:=tyN t == n || (n == "int" && tyN t == "bool")
theorem z0z (K:a9)(r:Rep H v t):Ut K H v (.type (tyN t)):=by
 cases r with
 | non=>exact .non
 | bl b=>exact .bl b
 | int b=>exact .int b
 | str b=>exact .str b
 | tup h _=>exact .tup h
 | lst h _=>exact .lst h
 | fz h _=>exact .frz h
theorem uy:Zo X (.builtin "isinstance") (λxs H Q=>∃v n t,xs=[v,.ty n]/\Rep H v t/\bi X.K (.type (tyN t)) (.type n)=some (isT n t)/\Q (.bl (isT n t)) H):=by
 intro pins s σ H xs us Q I rv h;obtain⟨v,n,t,rfl,r,hk,q⟩:=h;obtain⟨u,w,rfl,ru,rw'⟩:=Uq rv;obtain rfl:w=Value.type n:=rw';exact yC I ru (z0z X.K r) hk λtk=>⟨.bl _,H,I.tok tk,rfl,q⟩
def yg (n:String)(t:T):R T:= .ok (.bl (isT n t))
theorem VV (K:a9)(t:T):bi K (.type (tyN t)) (.type "int")=some (isT "int" t):=by cases t <;> rfl
theorem Qv (K:a9)(t:T):bi K (.type (tyN t)) (.type "bool")=some (isT "bool" t):=by cases t <;> rfl
theorem VW (K:a9)(t:T):bi K (.type (tyN t)) (.type "str")=some (isT "str" t):=by cases t <;> rfl
theorem Wk (K:a9)(t:T):bi K (.type (tyN t)) (.type "tuple")=some (isT "tuple" t):=by cases t <;> rfl
theorem uz (K:a9)(t:T):bi K (.type (tyN t)) (.type "list")=some (isT "list" t):=by cases t <;> rfl
theorem Qw (hk:∀t,bi X.K (.type (tyN t)) (.type n)=some (isT n t))(gl:Gl X "isinstance")(mg:X.mg "isinstance"=none)(gl' :Gl X (aD n))(mg' :X.mg (aD n)=none)(bt:bootBuiltins (aD n)=some (.type n))(ha:ji X Y a fa)
  (hs:starEach [a,.Name (aD n) p'] X.env=[(false,eval a X.env),(false,eval (.Name (aD n) p') X.env)]:=by exact st2 rfl rfl) (hs2:starEach [.Name (aD n) p'] X.env=[(false,eval (.Name (aD n) p') X.env)]:=by exact st1 rfl)
  (hn:aD n ≠ "__name__":=by decide) (hd:(aD n == ("__debug__":Str))=false:=by decide) (hz:((backTo pos (starEach [.Name (aD n) p'] X.env)).any λx=>x.fst)=false:=by exact Zf rfl):
  Snd X Y (.Call (.Name "isinstance" p) [a,.Name (aD n) p'] [] pos) (ap1 (yg n) fa):= .mk λρ=>
 PE.imp (ZS uy gl mg PyProof.Rows.Boot.«isinstance» (zx (ha ρ) (zx (wt (v:= .ty n) gl' mg' bt rfl hn hd) zM hs2) (by rw[hs,hs2])) (by decide) (by decide) (by rw[hs,hs2]) hz) λσ H Q ⟨B,I,q⟩=>
  step I q λt v H1 _ s1 r1 I1 q1=>⟨v,n,t,rfl,r1,hk t,po0 I1.sB q1 rfl (.bl _)⟩
def atT (xs:List T)(i:Int):R T:=match atI xs i with
 | some t=> .ok t
 | none=> .bad
def ixT:T->T->R T
 | .tup xs,.int i=>atT xs i
 | .lst xs,.int i=>atT xs i
 | .fz xs,.int i=>atT xs i
 | .str z,.int i=>if z.length<=bnd then match atI z.cps.toList i with | some c=> .ok (.str ⟨#[c]⟩) | none=> .bad else .bad
 | _,_=> .bad
theorem JY (r:zB H xs ts)(h:atI ts i=some t):∃v,atI xs i=some v/\Rep H v t:=by
 unfold atI at h ⊢;rw[r.length];cases e:ixN _ i with
 | none=>rw[e]at h;cases h
 | some j=>
  rw[e]at h;obtain⟨v,h1,h2⟩:=r.get (h);exact⟨v,h1,h2⟩
theorem s_ix (ha:Snd X Y a fa)(hb:Snd X Y b fb)(hs:Jq b:=by exact λ_ _=>rfl):Snd X Y (.Subscript a b pos) (zb ixT fa fb):= .mk λρ=>
 PE.imp (Qm uv (ha ρ) (hb ρ) hs) λσ H Q ⟨B,I,q⟩=>step I q λt v H1 _ s1 r1 I1 q1=>step I1 q1 λt' v' H2 _ s2 r2 I2 q2=>by
  have r1:=r1.mono (zH.ge I1.sB s2);cases r2 with
  | int i=>
   cases r1 with
   | @tup _ xs ts h r=>
    have q2:Po Y rC _ H2 (atT ts i) Q:=q2;unfold atT at q2;split at q2
    ·rename_i t' e;obtain⟨w,e1,e2⟩:=JY r e;exact .inr (.inl ⟨_,xs,i,w,rfl,rfl,SqT.of (I2.sB _ _ h),e1,po0 I2.sB q2 rfl e2⟩)
    ·exact q2.elim
   | @lst _ xs ts h r=>
    have q2:Po Y rC _ H2 (atT ts i) Q:=q2;unfold atT at q2;split at q2
    ·rename_i t' e;obtain⟨w,e1,e2⟩:=JY r e;exact .inl ⟨_,xs,i,w,rfl,rfl,SqL.of (I2.sB _ _ h),e1,po0 I2.sB q2 rfl e2⟩
    ·exact q2.elim
   | @fz _ _ xs ts h r=>
    have q2:Po Y rC _ H2 (atT ts i) Q:=q2;unfold atT at q2;split at q2
    ·rename_i t' e;obtain⟨w,e1,e2⟩:=JY r e;exact .inl ⟨_,xs,i,w,rfl,rfl,.inl (.inr ⟨_,I2.sB _ _ h⟩),e1,po0 I2.sB q2 rfl e2⟩
    ·exact q2.elim
   | str z=>
    have q2:Po Y rC _ H2 (if z.length<=bnd then match atI z.cps.toList i with | some c=> .ok _ | none=> .bad else .bad) Q:=q2
    split at q2
    ·rename_i hb;split at q2
     ·rename_i c e;exact .inr (.inr ⟨z,i,c,rfl,rfl,Zg hb,e,po0 I2.sB q2 rfl (.str _)⟩)
     ·exact q2.elim
    ·exact q2.elim
   | _=>exact q2.elim
  | _=>cases r1 <;> exact q2.elim
structure VX (X:Cx) (Y:Fx) (e:Option Expr) (f:En->R (Option Int)):Prop where
 mk ::
 go:∀ρ,PO X e (tS Y rE f ρ)
instance {X:Cx}{Y:Fx}{e:Option Expr}{f:En->R (Option Int)}:CoeFun (VX X Y e f) λ_=>∀ρ,PO X e (tS Y rE f ρ):=⟨VX.go⟩
def noO:En->R (Option Int):=λ_=> .ok none
def UD (fa:En->R T):En->R (Option Int):=λρ=>(fa ρ).bind λt=>match t with
 | .int i=> .ok (some i)
 | _=> .bad
theorem PO.imp {e:Option Expr}{t t' :TO}(h:PO X e t)(i:∀σ H Q,t' σ H Q->t σ H Q):PO X e t' :=λpins s σ H Q I q=>h _ s σ H Q I (i σ H Q q)
theorem kK:VX X Y none noO:= .mk λρ=>PO.imp Vy λσ H Q ⟨B,I,q⟩=>ZB I q rfl
theorem kL (ha:Snd X Y a fa):VX X Y (some a) (UD fa):= .mk λρ=>PO.imp (Vz (ha ρ)) λσ H Q ⟨B,I,q⟩=>step I q λt v H1 _ s1 r1 I1 q1=>by
 cases r1 with
 | int i=>exact⟨i,rfl,ZB I1 q1 rfl⟩
 | _=>exact q1.elim
noncomputable def cut (xs:List T)(lo hi:Option Int):List T:=(xs.drop (HT.sIx xs.length 0 lo)).take (HT.sIx xs.length xs.length hi - HT.sIx xs.length 0 lo)
def slT (t:T)(lo hi:Option Int):R T:=match t with
 | .tup xs=> .ok (.tup (cut xs lo hi))
 | .lst xs=> .ok (.lst (cut xs lo hi))
 | _=> .bad
def slE (fa:En->R T)(fl fh:En->R (Option Int)):En->R T:=λρ=>(fa ρ).bind λt=>(fl ρ).bind λlo=>(fh ρ).bind λhi=>slT t lo hi
theorem yX {lo hi:Option Int}(r:zB H xs ts):zB H (XB xs lo hi) (cut ts lo hi):=by
 unfold XB cut;rw[r.length];exact(r.drop _).take _
theorem jQ {lo hi:Option Int}(ht:IsTup s.heap t items)(hs:s.heap.IsSliceOf sl vl vu .none)(pl:IsPart vl lo)(pu:IsPart vu hi)
  (hw:HT.sIx items.size 0 lo=0/\HT.sIx items.size items.size hi=items.size) (h:Q (.ref t) s):wpAny (model prog w) A (getItem (.ref t) (.ref sl)) Q E s:=by
 obtain⟨os,hos,hcs,hds⟩:=id hs;have hTs:s.TypeIs (.ref sl) _:=⟨os,hos,hcs⟩;unfold getItem
 try with_reducible refine bW ?_
 refine a7 (wpAny_sequenceKey ht.typeIs (by decide) ?_)
 refine a7 (bn ht.typeIs bc
  (bF bc ht.typeIs entry_tuple_getitem ?_ (args_tuple_getitem _ _)))
 show wpAny _ _ (dB _ >>= _) _ _ s;refine a7 (tupleItemsOf_ ht ?_);refine a7 (wpAny_typeOf hTs ?_);refine a7 (HT.sliceApplied_gen hs pl pu ?_);have hyes:(((HT.sIx items.size 0 lo):Int) == 0 && (1:Int) == 1 && (HT.sIx items.size items.size hi - HT.sIx items.size 0 lo) == items.size)=true:=by
  rw[hw.1,hw.2];simp
 show wpAny _ _ (if (((HT.sIx _ 0 lo:Nat):Int) == 0 && (1) == 1 && (HT.sIx _ _ hi - HT.sIx _ 0 lo) == items.size)=true then _ else _) _ _ s
 rw[if_pos hyes];refine a7 (a7 (wpAny_typeOf ht.typeIs (ax ?_)));exact a7 (wpAny_rule (ax ⟨_,rfl,ax h⟩))
theorem UE:SlR X (λx lo hi H Q=>∃a xs,x= .ref a/\SqT X.K H a xs/\(HT.sIx xs.length 0 lo=0/\HT.sIx xs.length xs.length hi=xs.length)/\Q (.ref a) H):=by
 intro pins s σ H x v vl vu lo hi sl Q I rx hs pl pu h;obtain⟨a,xs,rfl,hx,hw,q⟩:=h;obtain rfl:v=Value.ref a:=rx;obtain⟨its,r,ht,hz⟩:=I.tuple hx;have hlen:its.toArray.size=xs.length:=by exact r.length.symm
 refine⟨"tuple",_,bc.lookup,ht.typeIs, ?_⟩;exact jQ ht hs pl pu (by rw[hlen];exact hw) ⟨.ref a,H,I,rfl,q⟩
theorem VY {lo hi:Option Int}(h1:HT.sIx xs.length 0 lo=0)(h2:HT.sIx xs.length xs.length hi=xs.length):cut xs lo hi=xs:=by
 unfold cut;rw[h1,h2];simp
theorem VZ {lo hi:Option Expr}{fl fh:En->R (Option Int)}(ha:Snd X Y a fa)(hl:VX X Y lo fl)(hh:VX X Y hi fh):Snd X Y (.Subscript a (.Slice lo hi none p2) pos) (slE fa fl fh):= .mk λρ=>
 PE.imp (Ql (ki.or (UE.or VC)) (ha ρ) (hl ρ) (hh ρ)) λσ H Q ⟨B,I,q⟩=>step I q λt v H1 _ s1 r1 I1 q1=>step I1 q1 λl l' H2 _ s2 el I2 q2=>step I2 q2 λh h' H3 _ s3 eh I3 q3=>by
  have el' :=el;have eh' :=eh;subst el' eh';have r1:=r1.mono ((zH.ge I1.sB s2).trans (zH.ge I2.sB s3));cases r1 with
  | @tup _ xs ts hx r=>
   by_cases hw:HT.sIx xs.length 0 l' =0/\HT.sIx xs.length xs.length h' =xs.length
   ·refine .inr (.inl ⟨_,xs,rfl,SqT.of (I3.sB _ _ hx),hw,po0 I3.sB q3 rfl ?_⟩);rw[r.length]at hw;rw[VY hw.1 hw.2];exact .tup hx r
   ·exact .inl ⟨_,xs,rfl,SqT.of (I3.sB _ _ hx),hw,λp hp=>kA I3.sB q3 rfl (yX r) hp⟩
  | @lst _ xs ts hx r=>
   exact .inr (.inr ⟨_,xs,rfl,SqL.of (I3.sB _ _ hx),λp hp=>z0g I3.sB q3 rfl (yX r) hp⟩)
  | _=>exact q3.elim
noncomputable def yY (t t' :T):R T:=match t,t' with
 | .int i,.int j=> .ok (.int (if j < i then j else i))
 | _,_=> .bad
theorem kM (hc:X.calm=true)(gl:Gl X "min")(mg:X.mg "min"=none)(ha:Snd X Y a fa)(hb:Snd X Y b fb)
  (hs:starEach [a,b] X.env=[(false,eval a X.env),(false,eval b X.env)]:=by exact st2 rfl rfl) (hs2:starEach [b] X.env=[(false,eval b X.env)]:=by exact st1 rfl):
  Snd X Y (.Call (.Name "min" p) [a,b] [] pos) (zb yY fa fb):= .mk λρ=>
 PE.imp (ZS (yy hc) gl mg PyProof.Rows.Boot.«min» (zx (ha ρ) (zx (hb ρ) zM hs2) (by rw[hs,hs2])) (by decide) (by decide) (by rw[hs,hs2]) (by rw[hs2];rfl)) λσ H Q ⟨B,I,q⟩=>
  step I q λt v H1 _ s1 r1 I1 q1=>step I1 q1 λt' v' H2 _ s2 r2 I2 q2=>by
   cases r1 with
   | int i=>
    cases r2 with
    | int j=>exact⟨i,j,rfl,po0 I2.sB q2 rfl (.int _)⟩
    | _=>exact q2.elim
   | _=>cases r2 <;> exact q2.elim
noncomputable def Wl:List T->Option Bool
 | []=>some true
 | .bl k :: r=>match Wl r with | some j=>some (k && j) | none=>none
 | _ :: _=>none
def vH:T->R T
 | .lst ts=>match Wl ts with | some k=> .ok (.bl k) | none=> .bad
 | _=> .bad
theorem yZ:∀{H:Hp} {xs:List V} {ts:List T} {its:List Value} {k:Bool},zB H xs ts->zR xs its->Wl ts=some k->∃tr:Nat->Bool,(∀i v,its[i]? =some v->v=Value.bool (tr i))/\(a_ its.length).all tr=k
 | _,_,_,_,k,.nil,.nil,h=>by
  have h' :=h;cases h';exact⟨λ_=>true,λi v e=>by simp at e,rfl⟩
 | H,_,_,_,k,.cons r rs,.cons (b:=u) rv vs,h=>by
  cases r with
  | bl b=>
   unfold Wl at h;split at h
   ·rename_i j e;cases h;obtain⟨tr,h1,h2⟩:=yZ rs vs e;obtain rfl:u=Value.bool b:=rv;refine⟨λi=>match i with | 0=>b | i+1=>tr i,λi v e=> ?_, ?_⟩
    ·cases i with
     | zero=>simp at e;exact e.symm
     | succ i=>exact h1 i v (by simpa using e)
    ·rw[ar,ci,cu,fI,← h2];rfl
   ·cases h
  | _=>cases h
theorem Y0 (hh:X.A.handled=none):Zo X (.builtin "all") (λvs H Q=>∃l xs ts k,vs=[.ref l]/\H l=some (.lst xs)/\zB H xs ts/\Wl ts=some k/\Q (.bl k) H):=by
 intro pins s σ H vs us Q I rv h;obtain⟨l,xs,ts,k,rfl,hl,r,hk,q⟩:=h;obtain⟨u,rfl,ru⟩:=ZK rv;obtain rfl:u=Value.ref l:=ru;obtain⟨its,rv,p,_⟩:=zO I (.inl hl) r;obtain⟨tr,h1,h2⟩:=yZ r rv hk;refine call_all_walk (wpAny_pyIter_list p ?_);have hlt:=I.hok.lt hl;have old:∀b o,s.heap.get? b=some o->(s.heap.push { cls:= .type "list_iterator",data:= .fields #[.ref l,.int 0 0] }).get? b=some o:=λb o e=>aa _ e;refine⟨s.heap.objs.size,_,_,_,_,_,tr,rfl,il (A:=X.A.in1) hh _ l (aE hlt) its.toArray, ?_, ?_,λh' tk hk' => ?_⟩
 ·refine⟨?_,p.at λo e=>old _ o e⟩;exact⟨_,ag _ rfl,rfl,rfl⟩
 ·intro i v s' Q' E' hi hq;rw[h1 i v (by simpa using hi)]
  exact b9 hq
 ·rw[az,h2];refine⟨.bl k,H,I.kept (λb o e=>hk' b o ?_ (old b o e)),rfl,q⟩;simp;exact aE (ao e)
theorem z0A (hh:X.A.handled=none)(gl:Gl X "all")(mg:X.mg "all"=none)(ha:ji X Y a fa)(hs:St1 X a:=by exact st1 rfl):Snd X Y (.Call (.Name "all" p) [a] [] pos) (ap1 vH fa):=
 Wj (Y0 hh) (λv t B H Q r sB q=>by
  cases r with
  | @lst l xs ts h r=>
   have q:Po Y rC B H (match Wl ts with | some k=> .ok _ | none=> .bad) Q:=q
   split at q
   ·rename_i k e;exact⟨l,xs,ts,k,rfl,h,r,e,po0 sB q rfl (.bl k)⟩
   ·exact q.elim
  | _=>exact q.elim) gl mg PyProof.Rows.Boot.«all» ha hs
end
inductive RS where
 | nx (ρ:En) | rt (t:T) | bk (ρ:En) | ct (ρ:En) | ex (c:Nat) | bad | rf (ts:List T)
noncomputable def R.s {α:Type}(r:R α)(k:α->RS):RS:=match r with
 | .ok a=>k a
 | .ex c=> .ex c
 | .bad=> .bad
def PoS (Y:Fx)(B:Hp)(r:RS)(D:Q2):Prop:=match r with
 | .nx ρ' =>∀σ' H' B',zt B B' ->SI Y B' ρ' σ' H' ->D.nx σ' H'
 | .rt t=>∀v H',zt Y.H0 H' ->Rep (zH Y.B0 Y.H0 H') v t->D.rt v H'
 | .bk ρ' =>∀σ' H' B',zt B B' ->SI Y B' ρ' σ' H' ->D.bk σ' H'
 | .ct ρ' =>∀σ' H' B',zt B B' ->SI Y B' ρ' σ' H' ->D.ct σ' H'
 | .ex c=>XP Y B c
 | .bad=>False
 | .rf ts=>∀a xs H' B',zt Y.H0 H' ->Y.H0 a=none->H' a=some (.lst xs)->zB B' xs ts->B' a=none->zt B' (zH Y.B0 Y.H0 H')->D.rt (.ref a) H'
theorem PoS.up {r:RS}{D:Q2}(s:zt B B')(h:PoS Y B r D):PoS Y B' r D:=by
 cases r with
 | nx ρ=>exact λσ' H' B2 s2 I=>h σ' H' B2 (s.trans s2) I
 | bk ρ=>exact λσ' H' B2 s2 I=>h σ' H' B2 (s.trans s2) I
 | ct ρ=>exact λσ' H' B2 s2 I=>h σ' H' B2 (s.trans s2) I
 | rt t=>exact h
 | rf t=>exact h
 | ex c=>exact λd H' s0 sB=>h d H' s0 (s.trans sB)
 | bad=>exact h
def tSS (Y:Fx)(f:En->RS)(ρ:En):TS:=λD σ H=>∃B,SI Y B ρ σ H/\PoS Y B (f ρ) D
structure jA (X:Cx) (Y:Fx) (e:Stmt) (f:En->RS):Prop where
 mk ::
 go:∀ρ,PS X e (tSS Y f ρ)
instance {X:Cx}{Y:Fx}{e:Stmt}{f:En->RS}:CoeFun (jA X Y e f) λ_=>∀ρ,PS X e (tSS Y f ρ):=⟨jA.go⟩
structure JZ (X:Cx) (Y:Fx) (e:List Stmt) (f:En->RS):Prop where
 mk ::
 go:∀ρ,PSs X e (tSS Y f ρ)
instance {X:Cx}{Y:Fx}{e:List Stmt}{f:En->RS}:CoeFun (JZ X Y e f) λ_=>∀ρ,PSs X e (tSS Y f ρ):=⟨JZ.go⟩
theorem ZZ {α β:Type}{rel:Hp->Hp->β->α->Prop}{f:En->R α}{k:α->RS}{D:Q2}{K:β->Hp->Prop}
  (I:SI Y B ρ σ H) (h:PoS Y B ((f ρ).s k) D)
  (n:∀a b H1,f ρ= .ok a->zt H H1->rel (zH B H H1) H1 b a->SI Y (zH B H H1) ρ σ H1->PoS Y (zH B H H1) (k a) D->K b H1):tS Y rel f ρ σ H K:=by
 refine⟨B,I, ?_⟩;cases e:f ρ with
 | bad=>rw[e]at h;exact h
 | ex c=>rw[e]at h;exact h
 | ok a=>
  rw[e]at h;exact λb H1 s r=>n a b H1 e s r (I.grow s) (PoS.up (zH.ge I.sB s) h)
theorem zr {α:Type}{xs:List α}{x y:α}(h:(xs.set i x)[j]? =some y):(j=i/\y=x)\/(j ≠ i/\xs[j]? =some y):=by
 by_cases e:j=i
 ·subst e
  by_cases hl:j < xs.length
  ·rw[aU hl]at h;exact .inl ⟨rfl,(aq h).symm⟩
  ·rw[aR (by rw[aF];omega)]at h;cases h
 ·rw[ay (aX e)]at h;exact .inr ⟨e,h⟩
theorem Wm {α:Type}{xs:List α}{x y:α}(h:(xs.set i x)[i]? =some y):i < xs.length:=by
 by_cases hl:i < xs.length
 ·exact hl
 ·rw[aR (by rw[aF];omega)]at h;cases h
theorem StI.set {O:Addr->Option (Nat×Nat)}(x:StI Y B ρ σ H as O)(i:Nat)(s:Sl)(v:Option V)(h1:s.isO=false)(h3:∀ts,s ≠ .ow ts):StI Y B (ρ.set i s) (σ.set i v) H as O:=
 x.on (λj y hy h=>by
  rcases zr h with ⟨_,e⟩ | ⟨hj,h'⟩
  ·rw[e,h1]at hy;cases hy
  ·exact⟨h',ay (aX hj)⟩) (zt.refl _) rfl rfl (zt.refl _) λb o hb b0 h0 _=>⟨hb,b0,h0,λok j us h=>by
  rcases zr h with ⟨_,e⟩ | ⟨hj,h'⟩
  ·exact absurd e.symm (h3 us)
  ·rw[ay (aX hj)];exact ok j us h'⟩
theorem SI.setV (I:SI Y B ρ σ H)(i:Nat)(r:Rep B v t):SI Y B (ρ.set i (.vl t)) (σ.set i (some v)) H where
 s0:=I.s0
 sH:=I.sH
 sB:=I.sB
 old:=I.old
 len:=by rw[aF,aF];exact I.len
 vl:=λj u h=>by
  rcases zr h with ⟨rfl,e⟩ | ⟨hj,h'⟩
  ·cases e;exact⟨v,aU (by rw[← I.len];exact Wm h),r⟩
  ·obtain⟨w,e,rr⟩:=I.vl j u h';exact⟨w,by rw[ay (aX hj)];exact e,rr⟩
 ow:=λj us h=>by
  rcases zr h with ⟨rfl,e⟩ | ⟨hj,h'⟩
  ·cases e
  ·obtain⟨a,xs,e,b0,h0,hh,rr,d⟩:=I.ow j us h';refine⟨a,xs,by rw[ay (aX hj)];exact e,b0,h0,hh,rr,λk ws hk hw=> ?_⟩
   rcases zr hw with ⟨rfl,e'⟩ | ⟨hk',hw'⟩
   ·cases e'
   ·rw[ay (aX hk')];exact d k ws hk hw'
 xc:=λj c h=>by
  rcases zr h with ⟨rfl,e⟩ | ⟨hj,h'⟩
  ·cases e
  ·obtain⟨a,e,r⟩:=I.xc j c h';exact⟨a,by rw[ay (aX hj)];exact e,r⟩
 st:=let ⟨as,O,x⟩:=I.st;⟨as,O,x.set i _ _ rfl (λ_=>Sl.noConfusion)⟩
theorem SI.newO (I:SI Y B ρ σ H)(i:Nat)(hp:H p=none)(r:zB B xs ts):SI Y B (ρ.set i (.ow ts)) (σ.set i (some (.ref p))) (upd H p (.lst xs)) where
 s0:=I.s0
 sH:=I.sH.trans (zt.new hp _)
 sB:=I.sB.trans (zt.new hp _)
 old:=I.old
 len:=by rw[aF,aF];exact I.len
 vl:=λj u h=>by
  rcases zr h with ⟨rfl,e⟩ | ⟨hj,h'⟩
  ·cases e
  ·obtain⟨w,e,rr⟩:=I.vl j u h';exact⟨w,by rw[ay (aX hj)];exact e,rr⟩
 ow:=λj us h=>by
  have op:∀k ws a,ρ[k]? =some (Sl.ow ws)->σ[k]? =some (some (V.ref a))->a ≠ p:=λk ws a h1 h2=>by
   obtain⟨a',xs',e,_,_,hh,_⟩:=I.ow k ws h1;rw[e]at h2;cases h2;exact zJ hh hp
  rcases zr h with ⟨rfl,e⟩ | ⟨hj,h'⟩
  ·cases e;refine⟨p,xs,aU (by rw[← I.len];exact Wm h),I.sB.free hp,I.sH.free hp,zw,r,λk ws hk hw=> ?_⟩
   rcases zr hw with ⟨rfl,e'⟩ | ⟨hk',hw'⟩
   ·exact absurd rfl hk
   ·rw[ay (aX hk')];exact λz=>op k ws p hw' z rfl
  ·obtain⟨a,xs',e,b0,h0,hh,rr,d⟩:=I.ow j us h';refine⟨a,xs',by rw[ay (aX hj)];exact e,b0,h0,by rw[zu (op j us a h' e)];exact hh,rr,λk ws hk hw=> ?_⟩
   rcases zr hw with ⟨rfl,e'⟩ | ⟨hk',hw'⟩
   ·rw[aU (by rw[← I.len];exact Wm hw)]
    intro z;exact op j us a h' e (by injection z with z;injection z with z;injection z with z;exact z.symm)
   ·rw[ay (aX hk')];exact d k ws hk hw'
 xc:=λj c h=>by
  rcases zr h with ⟨rfl,e⟩ | ⟨hj,h'⟩
  ·cases e
  ·obtain⟨a,e,r⟩:=I.xc j c h';exact⟨a,by rw[ay (aX hj)];exact e,r⟩
 st:=by
  obtain⟨as,O,x⟩:=I.st;refine⟨as,O,x.on (λj y hy h=> ?_) (zt.refl _) rfl rfl (zt.refl _) λb o hb b0 h0 _=> ?_⟩
  ·rcases zr h with ⟨_,e⟩ | ⟨hj,h'⟩
   ·subst e;cases hy
   ·exact⟨h',ay (aX hj)⟩
  ·have hne:b ≠ p:=zJ hb hp;refine⟨by rw[zu hne];exact hb,b0,h0,λok j us h=> ?_⟩
   rcases zr h with ⟨rfl,e⟩ | ⟨hj,h'⟩
   ·rw[aU (by rw[← I.len];exact Wm h)]
    intro z;injection z with z;injection z with z;injection z with z;exact hne z.symm
   ·rw[ay (aX hj)];exact ok j us h'
theorem SI.chg (I:SI Y B ρ σ H)(i:Nat)(hi:ρ[i]? =some (.ow ts))(he:σ[i]? =some (some (.ref p)))(r:zB B ys us):SI Y B (ρ.set i (.ow us)) σ (upd H p (.lst ys)):=by
 obtain⟨p',xs,e,b0,h0,hh,rr,d⟩:=I.ow i ts hi;rw[he]at e;cases e;have nb:∀b o,B b=some o->b ≠ p:=λb o h z=>by subst z;rw[b0]at h;cases h
 have n0:∀b o,Y.H0 b=some o->b ≠ p:=λb o h z=>by subst z;rw[h0]at h;cases h
 refine⟨I.s0,λb o h=>by rw[zu (n0 b o h)];exact I.sH b o h,λb o h=>by rw[zu (nb b o h)];exact I.sB b o h,I.old,by rw[aF];exact I.len,λj u h=> ?_,λj ws h=> ?_,λj c h=> ?_, ?_⟩
 rotate_right
 ·obtain⟨as,O,x⟩:=I.st;refine⟨as,O,x.on (λj y hy h=> ?_) (zt.refl _) rfl rfl (zt.refl _) λb o hb b0' h0' cs=> ?_⟩
  ·rcases zr h with ⟨_,e⟩ | ⟨hj,h'⟩
   ·subst e;cases hy
   ·exact⟨h',rfl⟩
  ·have hne:b ≠ p:=λz=>by
    subst z;rcases cs with ⟨C,dx,vs,ez⟩ | ok
    ·rw[hh]at hb;cases hb;cases ez
    ·exact ok i ts hi he
   refine⟨by rw[zu hne];exact hb,b0',h0',λok j us h=> ?_⟩
   rcases zr h with ⟨rfl,e⟩ | ⟨hj,h'⟩
   ·rw[he];intro z;injection z with z;injection z with z;injection z with z;exact hne z.symm
   ·exact ok j us h'
 rotate_right
 ·rcases zr h with ⟨rfl,z⟩ | ⟨hj,h'⟩
  ·cases z
  ·exact I.xc j c h'
 ·rcases zr h with ⟨rfl,z⟩ | ⟨hj,h'⟩
  ·cases z
  ·exact I.vl j u h'
 ·rcases zr h with ⟨rfl,z⟩ | ⟨hj,h'⟩
  ·cases z;refine⟨p,ys,he,b0,h0,zw,r,λk vs hk hw=> ?_⟩;rcases zr hw with ⟨rfl,e'⟩ | ⟨hk',hw'⟩
   ·exact absurd rfl hk
   ·exact d k vs hk hw'
  ·obtain⟨a,xs',e,c0,g0,gg,ss,d'⟩:=I.ow j ws h';have hne:a ≠ p:=λz=>by subst z;exact d j ws hj h' e
   refine⟨a,xs',e,c0,g0,by rw[zu hne];exact gg,ss,λk vs hk hw=> ?_⟩
   rcases zr hw with ⟨rfl,e'⟩ | ⟨hk',hw'⟩
   ·rw[he];intro z;injection z with z;injection z with z;injection z with z;exact hne z.symm
   ·exact d' k vs hk hw'
noncomputable def frz1:Sl->Sl
 | .ow ts=> .vl (.lst ts)
 | .ob _ _=> .un
 | .st _=> .un
 | x=>x
def frz (ρ:En):En:=ρ.map frz1
theorem SI.up (I:SI Y B ρ σ H):zt B (zH B Y.H0 H):=λb o h=>by
 cases q:Y.H0 b with
 | none=>rw[zW q];exact I.sB b o h
 | some u=>rw[Z1 q];exact h
theorem SI.frz (I:SI Y B ρ σ H):SI Y (zH B Y.H0 H) (PV.frz ρ) σ H:=by
 have up:zt B (zH B _ H):=λb o h=>by
  cases q:Y.H0 b with
  | none=>rw[zW q];exact I.sB b o h
  | some u=>rw[Z1 q];exact h
 refine⟨I.s0,I.sH,λb o h=> ?_,λb o h=>by rw[Z1 h];exact I.old b o h,by unfold PV.frz;rw[ae];exact I.len,λj t h=> ?_,λj ts h=> ?_,λj c h=> ?_, ?_⟩
 rotate_right
 ·have no:∀(j:Nat) (y:Sl),y.isS=true->(PV.frz ρ)[j]? ≠ some y:=λj y hy h=>by
   unfold PV.frz at h;rw[ak]at h;cases e:ρ[j]? with
   | none=>rw[e]at h;cases h
   | some x=>rw[e]at h;cases x <;> (cases h;cases hy)
  obtain⟨as,O,x⟩:=I.st;refine⟨Y.as,λ_=>none,bZ _,λi os e=>(no i _ rfl e).elim,λi j os os' e=>(no i _ rfl e).elim,λi k n e=>(no i _ rfl e).elim,λi k fs h=> ?_,λi os e=>(no i _ rfl e).elim⟩;have h' :ρ[i]? =some (Sl.oc k fs):=by
   unfold PV.frz at h;rw[ak]at h;cases e:ρ[i]? with
   | none=>rw[e]at h;cases h
   | some x=>rw[e]at h;cases x <;> (cases h;try rfl)
  obtain⟨a,C,dx,vs,e1,e2,e3,e4,e5⟩:=x.oc i k fs h';exact⟨a,C,dx,vs,e1,e2,e3,e4,e5.mono up (zt.refl _)⟩
 rotate_right
 ·unfold PV.frz at h;rw[ak]at h;cases e:ρ[j]? with
  | none=>rw[e]at h;cases h
  | some x=>
   rw[e]at h;cases x with
   | xc d=>
    cases h;obtain⟨a,e1,r⟩:=I.xc j _ e;exact⟨a,e1,up a _ r⟩
   | un=>cases h
   | vl _=>cases h
   | ow _=>cases h
   | ob _ _=>cases h
   | oc _ _=>cases h
   | st _=>cases h
 ·cases q:Y.H0 b with
  | none=>rw[zW q]at h;exact h
  | some u=>rw[Z1 q]at h;exact I.sB b o h
 ·unfold PV.frz at h;rw[ak]at h;cases e:ρ[j]? with
  | none=>rw[e]at h;cases h
  | some x=>
   rw[e]at h;cases x with
   | un=>cases h
   | vl u=>
    cases h;obtain⟨v,e1,r⟩:=I.vl j _ e;exact⟨v,e1,r.mono up⟩
   | ow us=>
    cases h;obtain⟨a,xs,e1,b0,h0,hh,rr,_⟩:=I.ow j us e;exact⟨.ref a,e1,.lst (by rw[zW h0];exact hh) (rr.mono up)⟩
   | xc _=>cases h
   | ob _ _=>cases h
   | oc _ _=>cases h
   | st _=>cases h
 ·unfold PV.frz at h;rw[ak]at h;cases e:ρ[j]? with
  | none=>rw[e]at h;cases h
  | some x=>
   rw[e]at h;cases x with
   | un=>cases h
   | vl u=>cases h
   | ow us=>cases h
   | xc _=>cases h
   | ob _ _=>cases h
   | oc _ _=>cases h
   | st _=>cases h
theorem Wn {Y:Fx}{B H H' :Hp}(s0:zt Y.H0 H)(old:∀b o,Y.H0 b=some o->B b=Y.B0 b)(s:zt H H')(sB:zt B H):zt (zH B H H') (zH Y.B0 Y.H0 H'):=λb o h=>by
 cases q:H b with
 | none=>
  rw[zW q]at h;rw[zW (s0.free q)];exact h
 | some u=>
  rw[Z1 q]at h;cases z:Y.H0 b with
  | none=>rw[zW z];exact s b o (sB b o h)
  | some w=>rw[Z1 z,← old b w z];exact h
section
variable {X:Cx}{Y:Fx}{a b c d:Expr}{fa fb fc fd:En->R T}{pos p:Pos}{st:Stmt}{sts sts' :List Stmt}{f g:En->RS}
def nxS:En->RS:=λρ=> .nx ρ
def zA (f g:En->RS):En->RS:=λρ=>match f ρ with
 | .nx ρ' =>g ρ'
 | r=>r
theorem z0B:JZ X Y [] nxS:= .mk λρ=>PSs.imp WS λD σ H ⟨B,I,q⟩=>q σ H B (zt.refl B) I
theorem z0C (h:jA X Y st f):JZ X Y [st] f:= .mk λρ=>wu (h ρ)
theorem kN (h1:jA X Y st f)(h2:JZ X Y sts g):JZ X Y (st :: sts) (zA f g):= .mk λρ=>by
 refine PSs.imp (j9 (u:=λD σ H=>∃ρ',tSS Y g ρ' D σ H) (h1 ρ) ?_) ?_
 ·intro pins s σ H D I ⟨ρ',q⟩;exact h2 ρ' _ s σ H D I q
 ·intro D σ H ⟨B,I,q⟩;refine⟨B,I, ?_⟩;unfold zA at q;cases e:f ρ with
  | nx ρ' =>
   rw[e]at q;intro σ' H' B' s' I';exact⟨ρ',B',I',PoS.up s' q⟩
  | rt t=>rw[e]at q;exact q
  | rf t=>rw[e]at q;exact q
  | bk ρ' =>rw[e]at q;exact q
  | ct ρ' =>rw[e]at q;exact q
  | ex c=>rw[e]at q;exact q
  | bad=>rw[e]at q;exact q
def zV (i:Nat)(fa:En->R T):En->RS:=λρ=>(fa ρ).s λt=> .nx (ρ.set i (.vl t))
theorem kP (hN:X.N.Nodup)(hi:X.N[i]? =some x)(hx:L2.Loc X.env.scope x)(ha:Snd X Y a fa)(hs:swapsWith a (some (.Name x p')) pos.line X.env=pure false:=by rfl)
  (hf:X.fn x=true\/X.env.scope.names.lookup x=some .local:=by first | exact .inl rfl | exact .inr rfl | assumption):jA X Y (.Assign [.Name x p'] a pos) (zV i fa):= .mk λρ=>
 PS.imp (JR hN hi hx (ha ρ) hs hf) λD σ H ⟨B,I,q⟩=>ZZ I q λt v H1 _ s1 r1 I1 q1=>q1 _ _ _ (zt.refl _) (I1.setV i r1)
def WX (i:Nat)(ga:En->R (List T)):En->RS:=λρ=>(ga ρ).s λts=>if ts.length<=bnd then .nx (ρ.set i (.ow ts)) else .bad
theorem kQ (hN:X.N.Nodup)(hi:X.N[i]? =some x)(hx:L2.Loc X.env.scope x)(ha:W3 X Y es ga)(hs:swapsWith (.List es p) (some (.Name x p')) pos.line X.env=pure false:=by rfl)
  (hf:X.fn x=true\/X.env.scope.names.lookup x=some .local:=by first | exact .inl rfl | exact .inr rfl | assumption):jA X Y (.Assign [.Name x p'] (.List es p) pos) (WX i ga):= .mk λρ=>
 PS.imp (JR hN hi hx (ur (ha ρ)) hs hf) λD σ H ⟨B,I,q⟩=>ZZ I q λts vs H1 _ s1 r1 I1 q1=>by
  split at q1
  ·rename_i hb;exact⟨by rw[r1.length];exact Zg hb,λp hp=>q1 _ _ _ (zt.refl _) (I1.newO i hp r1)⟩
  ·exact q1.elim
def zF (fa:En->R T):En->RS:=λρ=>(fa (frz ρ)).s λt=> .rt t
theorem z0D (ha:Snd X Y a fa):jA X Y (.Return (some a) pos) (zF fa):= .mk λρ=>
 PS.imp (jY (ha _)) λD σ H ⟨B,I,q⟩=>by
  refine⟨_,I.frz, ?_⟩;unfold zF at q;cases e:fa _ with
  | bad=>rw[e]at q;exact q
  | ex c=>
   rw[e]at q;exact λd H' s0 sG=>q d H' s0 (I.up.trans sG)
  | ok t=>
   rw[e]at q;intro v H' s r;have J:=I.frz;exact q v H' (I.sH.trans s) (r.mono (Wn J.sH J.old s J.sB))
def ifS (g:En->R Bool)(f1 f2:En->RS):En->RS:=λρ=>(g ρ).s λk=>if k=true then f1 ρ else f2 ρ
theorem z0E (hc:Wg X Y c ga)(h1:JZ X Y sts f)(h2:JZ X Y sts' g):jA X Y (.If c sts sts' pos) (ifS ga f g):= .mk λρ=>
 PS.imp (k3 (hc ρ) (h1 ρ) (h2 ρ)) λD σ H ⟨B,I,q⟩=>ZZ I q λt v H1 _ s1 r1 I1 q1=>by
  have r1' :=r1;subst r1';cases v with
  | true=>exact⟨_,I1,q1⟩
  | false=>exact⟨_,I1,q1⟩
def jn (fa:En->R T):En->RS:=λρ=>(fa ρ).s λ_=> .nx ρ
theorem kR (ha:Snd X Y a fa)(hs:swapsWith a none pos.line X.env=pure false:=by rfl):jA X Y (.Expr a pos) (jn fa):= .mk λρ=>
 PS.imp (jL (ha ρ) hs) λD σ H ⟨B,I,q⟩=>ZZ I q λt v H1 _ s1 r1 I1 q1=>q1 _ _ _ (zt.refl _) I1
def UG (i:Nat)(fa:En->R T):En->RS:=λρ=>match ρ[i]? with
 | some (.ow ts)=>(fa ρ).s λt=>if ts.length < bnd then .nx (ρ.set i (.ow (ts++[t]))) else .bad
 | _=> .bad
def Q3 (i:Nat)(fa:En->R T):En->RS:=λρ=>match ρ[i]? with
 | some (.ow ts)=>(fa ρ).s λt=>match t with
  | .lst us=>if ts.length+us.length<=bnd then .nx (ρ.set i (.ow (ts++us))) else .bad
  | _=> .bad
 | _=> .bad
theorem Y1 (h:n < bnd):n < sizeLine:=by exact h
theorem z0F (hv:PE X (.Name x px) (jK i))(ha:Snd X Y a fa)(hb:attributeBase (.Name x px) "append" X.env (eval (.Name x px) X.env)=eval (.Name x px) X.env:=by rfl)(hs:St1 X a:=by exact st1 rfl)
  (hz:(pa.endLine == p.line)=true:=by rfl) (hw:swapsWith (.Call (.Attribute (.Name x px) "append" pa) [a] [] p) none pos.line X.env=pure false:=by rfl):jA X Y (.Expr (.Call (.Attribute (.Name x px) "append" pa) [a] [] p) pos) (UG i fa):= .mk λρ=>by
 have e1:(((((backTo p (starEach [a] X.env)).all λx=> !x.fst) && (backToKw p (keywordEach [] X.env)).all λx=>x.fst.isSome) && decide (([a].length+([]:List Keyword).length+if ([]:List Keyword).isEmpty=true then 0 else 1) < 30))=true):=by rw[hs];rfl
 refine PS.imp (jL (UA bI cR cS jy hv (zx (ha ρ) zM hs) hb e1 hz hs rfl) hw) λD σ H ⟨B,I,q⟩=> ?_;unfold UG at q;split at q
 ·rename_i ts e;obtain⟨l,xs,e1,b0,h0,hh,rr,d⟩:=I.ow i ts e;refine⟨.ref l,e1,.inl ⟨rfl,_,SqL.of hh⟩, ?_⟩;refine ZZ I q λt v H1 _ s1 r1 I1 q1=> ?_;split at q1
  ·rename_i hb;refine⟨l,xs,v,rfl,rfl,s1 _ _ hh,by rw[rr.length];exact Y1 hb, ?_⟩
   exact q1 _ _ _ (zt.refl _) (I1.chg i e e1 ((rr.mono (zH.ge I.sB s1)).append (.cons r1 .nil)))
  ·exact q1.elim
 ·exact q.elim
theorem z0G (hv:PE X (.Name x px) (jK i))(ha:Snd X Y a fa)(hb:attributeBase (.Name x px) "extend" X.env (eval (.Name x px) X.env)=eval (.Name x px) X.env:=by rfl)(hs:St1 X a:=by exact st1 rfl)
  (hz:(pa.endLine == p.line)=true:=by rfl) (hw:swapsWith (.Call (.Attribute (.Name x px) "extend" pa) [a] [] p) none pos.line X.env=pure false:=by rfl):jA X Y (.Expr (.Call (.Attribute (.Name x px) "extend" pa) [a] [] p) pos) (Q3 i fa):= .mk λρ=>by
 have e1:(((((backTo p (starEach [a] X.env)).all λx=> !x.fst) && (backToKw p (keywordEach [] X.env)).all λx=>x.fst.isSome) && decide (([a].length+([]:List Keyword).length+if ([]:List Keyword).isEmpty=true then 0 else 1) < 30))=true):=by rw[hs];rfl
 refine PS.imp (jL (UA bI PySem.F.slot_list_extend PySem.F.type_list_extend yK hv (zx (ha ρ) zM hs) hb e1 hz hs rfl) hw) λD σ H ⟨B,I,q⟩=> ?_;unfold Q3 at q;split at q
 ·rename_i ts e;obtain⟨l,xs,e1,b0,h0,hh,rr,d⟩:=I.ow i ts e;refine⟨.ref l,e1,.inl ⟨rfl,_,SqL.of hh⟩, ?_⟩;refine ZZ I q λt v H1 _ s1 r1 I1 q1=> ?_;cases r1 with
  | @lst b zs us hb r=>
   have q1:PoS Y _ (if ts.length+us.length<=bnd then .nx _ else .bad) D:=q1
   split at q1
   ·rename_i hl;refine⟨l,b,xs,zs,rfl,rfl,s1 _ _ hh,I1.sB _ _ hb,by rw[rr.length,r.length];exact Zg hl, ?_⟩
    exact q1 _ _ _ (zt.refl _) (I1.chg i e e1 ((rr.mono (zH.ge I.sB s1)).append r))
   ·exact q1.elim
  | _=>exact q1.elim
 ·exact q.elim
end
def spP (cl:Nat->Value)(n:Nat)(g:List T->R T):Sp:=λvs H Q E=>∃B ts,ts.length=n/\zt B H/\zB B vs ts/\Po ⟨B,H,E,cl,[]⟩ rC B H (g ts) Q
theorem spP.len (vs:List V)(H:Hp)(Q:VK)(E:XK)(h:spP cl n g vs H Q E):vs.length=n:=by
 obtain⟨B,ts,hl,_,r,_⟩:=h;rw[r.length,hl]
def za (n:Nat)(g:List T->R T)(ga:En->R (List T)):En->R T:=λρ=>(ga ρ).bind λts=>if ts.length=n then g ts else .bad
section
theorem kS (F:ZX X.prog X.w X.K X.mg X.base CX k f fd ps (spP Y.cl n g))(hr:Zy k X.A)(gl:Gl X x)(mg:X.mg x=some (.ref f))
  (kp:bG X.K (.ref f)=true) (bd:L2.Binds X.K fd ps []) (hx:Z9 CX X Y.E) (ha:W3 X Y (a :: es) ga) (hd:(x == ("__debug__":Str))=false:=by decide)
  (hs:starEach (a :: es) X.env=(false,eval a X.env) :: starEach es X.env:=by exact zN rfl) (hz:((backTo pos (starEach es X.env)).any λx=>x.fst)=false:=by exact Zf rfl):Snd X Y (.Call (.Name x p) (a :: es) [] pos) (za n g ga):= .mk λρ=>
 PE.imp (yF F hr gl mg kp bd .nil hx (ha ρ) hd hs hz) λσ H Q ⟨B,I,q⟩=>step I q λts vs H1 _ s1 r1 I1 q1=>by
  split at q1
  ·rename_i hn;rw[aW];refine⟨_,ts,hn,I1.sB,r1, ?_⟩;revert q1;cases g ts with
   | bad=>exact λq1=>q1
   | ex c=>exact λq1 d H' s sB=>q1 d H' (I1.sH.trans s) sB
   | ok t=>exact λq1=>q1
  ·exact q1.elim
end
noncomputable def zy:RS->R T
 | .rt t=> .ok t
 | .rf ts=> .ok (.lst ts)
 | .nx _=> .ok .non
 | .ex c=> .ex c
 | _=> .bad
def en0 (n:Nat)(ts:List T):En:=ts.map Sl.vl++af (n - ts.length) Sl.un
theorem zB.vl {H:Hp}:∀{vs:List V} {ts:List T} {i:Nat} {t:T} {n m:Nat},zB H vs ts->(ts.map Sl.vl++af n Sl.un)[i]? =some (Sl.vl t)->∃v:V,(vs.map some++af m none)[i]? =some (some v)/\Rep H v t
 | _,_,i,t,n,m,.nil,h=>by
  simp only[cI,bL]at h;rw[aL]at h;split at h
  ·cases h
  ·cases h
 | _,_,0,t,n,m,.cons r _,h=>by
  simp at h;subst h;exact⟨_,rfl,r⟩
 | _,_,i+1,t,n,m,.cons _ q,h=>by
  obtain⟨v,h1,h2⟩:=zB.vl q (by simpa using h)
  exact⟨v,by simpa using h1,h2⟩
theorem vI {n:Nat}:∀{ts:List T} {i:Nat} {us:List T},(ts.map Sl.vl++af n Sl.un)[i]? =some (Sl.ow us)->False
 | [],i,us,h=>by
  simp only[cI,bL]at h;rw[aL]at h;split at h
  ·cases h
  ·cases h
 | t :: ts,0,us,h=>by simp at h
 | t :: ts,i+1,us,h=>vI (by simpa using h)
theorem vJ {n:Nat}:∀{ts:List T} {i:Nat} {c:Nat},(ts.map Sl.vl++af n Sl.un)[i]? =some (Sl.xc c)->False
 | [],i,us,h=>by
  simp only[cI,bL]at h;rw[aL]at h;split at h
  ·cases h
  ·cases h
 | t :: ts,0,us,h=>by simp at h
 | t :: ts,i+1,us,h=>vJ (by simpa using h)
theorem WY {n:Nat}{x:Sl}(h1:∀t,x ≠ .vl t)(h2:x ≠ .un):∀{ts:List T} {i:Nat},(ts.map Sl.vl++af n Sl.un)[i]? =some x->False
 | [],i,h=>by
  simp only[cI,bL]at h;rw[aL]at h;split at h
  ·exact h2 (aq h).symm
  ·cases h
 | t :: ts,0,h=>h1 t (aq (by simpa using h)).symm
 | t :: ts,i+1,h=>WY h1 h2 (by simpa using h)
theorem SI.start {Y:Fx}{N:List Str}{vs:List V}{ts:List T}(s:zt Y.B0 Y.H0)(r:zB Y.B0 vs ts):SI Y Y.B0 (en0 N.length ts) (L2.start N vs) Y.H0 where
 s0:=s
 sH:=zt.refl _
 sB:=s
 old:=λ_ _ _=>rfl
 len:=by unfold en0 L2.start;simp[r.length]
 vl:=λi t h=>r.vl h
 ow:=λi ts h=>(vI h).elim
 xc:=λi c h=>(vJ h).elim
 st:=StI.no λi s hs h=>WY (λt z=>by rw[z]at hs;cases hs) (λz=>by rw[z]at hs;cases hs) h
section
variable {P:Program}{w:World}{K:a9}{mg:Str->Option Value}{base:Heap}
theorem z0H {cl:Nat->Value}{x qual:Str}{st:Stmt}{f:Addr}{fd:FuncData}{N ps:List Str}{k n:Nat}{fb:En->RS}{g:List T->R T}(F:Fun K x qual st f fd)(S:ZF N ps (zq st))(hn:n=ps.length)
  (hb:∀(cdv:Value) (A:Around) (outer:List Env) (s:Shared) (H:Hp) (E:XK) (Y:Fx),Y.cl=cl->Zy k (A.deeper (envOfC qual (zq st) s.heap.objs.size f cdv))->
   JZ (jv CX0 P w K mg base N qual (zq st) f cdv A outer s H E).nox Y (zK st) fb)
  (hg:∀ts,ts.length=n->g ts=zy (fb (en0 N.length ts))):ZX P w K mg base CX0 (k+1) f fd ps (spP cl n g):=by
 subst hn;refine F.ok S spP.len λcdv A outer s H vs Q E hr ⟨B,ts,hl,sB,r,q⟩=> ?_;refine⟨_,hb cdv A _ s H E ⟨B,H,E,cl,[]⟩ rfl hr _,B,SI.start sB r, ?_⟩;rw[hg ts hl]at q;revert q;cases fb _ with
 | rt t=>exact λq v H' s r=>q v H' s r
 | rf t=>exact λq a xs H' B' s0 n e r _ l=>q _ H' s0 (.lst (by rw[zW n];exact e) (r.mono l))
 | nx ρ=>exact λq σ' H' B' _ I=>q _ H' I.sH .non
 | ex c=>exact λq=>q
 | bk ρ=>exact λq=>q.elim
 | ct ρ=>exact λq=>q.elim
 | bad=>exact λq=>q
end
abbrev rI:Hp->Hp->It->List T->Prop:=λB1 _ J ts=>∀B2 H2,zt B1 B2->zt B2 H2->(∀i,i < ts.length->J.go i H2)/\(∀(i:Nat) t x H3,ts[i]? =some t->J.yld i H2 x H3->zt H2 H3/\Rep (zH B2 H2 H3) x t)/\(∀i,ts.length<=i->J.stop i H2)
structure W4 (X:Cx) (Y:Fx) (tg iter:Expr) (f:En->R (List T)):Prop where
 mk ::
 go:∀ρ,PI X tg iter (tS Y rI f ρ)
instance {X:Cx}{Y:Fx}{tg iter:Expr}{f:En->R (List T)}:CoeFun (W4 X Y tg iter f) λ_=>∀ρ,PI X tg iter (tS Y rI f ρ):=⟨W4.go⟩
section
theorem PI.imp (h:PI X tg e t)(i:∀σ H Q,t' σ H Q->t σ H Q):PI X tg e t' :=λpins s σ H Q I q=>h _ s σ H Q I (i σ H Q q)
theorem kT {K:a9}{B1 H1:Hp}{a:Addr}{xs:List V}{ts:List T}(h:B1 a=some (.tup xs))(r:zB B1 xs ts):rI B1 H1 (Itt K a) ts:=λB2 H2 s1 s2=>by
 have h2:=s2 _ _ (s1 _ _ h);refine⟨λi hi=> ?_,λi t x H3 e y=> ?_,λi hi=>⟨xs,SqT.of h2,by rw[r.length];exact hi⟩⟩
 ·obtain⟨v,e,_⟩:=r.get (aj hi);exact⟨xs,v,SqT.of h2,e⟩
 ·obtain⟨rfl,y⟩:=y;obtain⟨v,e1,r1⟩:=r.get e;have:=y xs (SqT.of h2);rw[e1]at this;cases this;refine⟨zt.refl _, ?_⟩;rw[zH.self B2 _ s2];exact r1.mono s1
theorem kU {K:a9}{B1 H1:Hp}{a:Addr}{xs:List V}{ts:List T}(h:B1 a=some (.lst xs))(r:zB B1 xs ts):rI B1 H1 (Itl K a) ts:=λB2 H2 s1 s2=>by
 have h2:=s2 _ _ (s1 _ _ h);refine⟨λi hi=> ?_,λi t x H3 e y=> ?_,λi hi=>⟨xs,SqL.of h2,by rw[r.length];exact hi⟩⟩
 ·obtain⟨v,e,_⟩:=r.get (aj hi);exact⟨xs,v,SqL.of h2,e⟩
 ·obtain⟨rfl,y⟩:=y;obtain⟨v,e1,r1⟩:=r.get e;have:=y xs (SqL.of h2);rw[e1]at this;cases this;refine⟨zt.refl _, ?_⟩;rw[zH.self B2 _ s2];exact r1.mono s1
noncomputable def rng (lo:Int)(n:Nat):List T:=(a_ n).map λ(i:Nat)=>T.int (lo+(i:Int))
theorem vK {B1 H1:Hp}{lo:Int}{n:Nat}:rI B1 H1 (Itr lo n) (rng lo n):=λB2 H2 s1 s2=>by
 have hl:(rng lo n).length=n:=by unfold rng;simp
 refine⟨λi hi=>by rw[hl]at hi;exact hi,λi t x H3 e y=> ?_,λi hi=>by rw[hl]at hi;exact hi⟩
 obtain⟨rfl,rfl⟩:=y;refine⟨zt.refl _, ?_⟩;unfold rng at e;rw[ak]at e
 by_cases hi:i < n
 ·rw[bN hi]at e;cases e;exact .int _
 ·rw[aR (by simp;omega)]at e;cases e
def ZN (fa:En->R T):En->R (List T):=λρ=>(fa ρ).bind λt=>match t with
 | .int j=>if -1000000 < j/\j < 1000000 then .ok (rng 0 j.toNat) else .bad
 | _=> .bad
def jh (fa fb:En->R T):En->R (List T):=λρ=>(fa ρ).bind λt=>(fb ρ).bind λt' =>match t,t' with
 | .int i,.int j=>if -1000000 < i/\i < 1000000/\ -1000000 < j/\j < 1000000 then .ok (rng i (j - i).toNat) else .bad
 | _,_=> .bad
theorem kW (gl:Gl X "range")(mg:X.mg "range"=none)(ha:Snd X Y a fa)(hs:St1 X a:=by exact st1 rfl):W4 X Y tg (.Call (.Name "range" p) [a] [] pos) (ZN fa):= .mk λρ=>PI.imp (yr gl mg (zx (ha ρ) zM hs) hs) λσ H R ⟨B,I,q⟩=>step I q λt v H1 _ s1 r1 I1 q1=>by
 cases r1 with
 | int j=>
  have q1:Po Y rI _ H1 (if -1000000 < j/\j < 1000000 then .ok _ else .bad) R:=q1
  split at q1
  ·exact⟨j,rfl,by omega,by omega,ZB I1 q1 vK⟩
  ·exact q1.elim
 | _=>exact q1.elim
theorem kX (gl:Gl X "range")(mg:X.mg "range"=none)(ha:Snd X Y a fa)(hb:Snd X Y b fb)(hs:starEach [a,b] X.env=[(false,eval a X.env),(false,eval b X.env)]:=by exact st2 rfl rfl)(hs2:St1 X b:=by exact st1 rfl):W4 X Y tg (.Call (.Name "range" p) [a,b] [] pos) (jh fa fb):= .mk λρ=>
 PI.imp (yt gl mg (zx (ha ρ) (zx (hb ρ) zM hs2) (by rw[hs,hs2])) hs hs2) λσ H R ⟨B,I,q⟩=>step I q λt v H1 _ s1 r1 I1 q1=>step I1 q1 λt' v' H2 _ s2 r2 I2 q2=>by
  cases r1 with
  | int i=>
   cases r2 with
   | int j=>
    have q2:Po Y rI _ H2 (if -1000000 < i/\i < 1000000/\ -1000000 < j/\j < 1000000 then .ok _ else .bad) R:=q2
    split at q2
    ·exact⟨i,j,rfl,⟨by omega,by omega,by omega,by omega⟩,ZB I2 q2 vK⟩
    ·exact q2.elim
   | _=>exact q2.elim
  | _=>cases r2 <;> exact q2.elim
def Gg (X:Cx)(Y:Fx)(tg:Expr)(g:T->En->R En):Prop:=∃t:TG,PG X tg t/\∀B ρ σ H v x Q,SI Y B ρ σ H->Rep B v x->(match g x ρ with | .ok ρ' =>∀σ',SI Y B ρ' σ' H->Q σ' H | _=>False)->t v σ H Q
def zP (i:Nat):T->En->R En:=λt ρ=> .ok (ρ.set i (.vl t))
theorem vL (hN:X.N.Nodup)(hi:X.N[i]? =some x)(hx:L2.Loc X.env.scope x)(hf:X.fn x=true\/X.env.scope.names.lookup x=some .local:=by first | exact .inl rfl | exact .inr rfl | assumption):Gg X Y (.Name x pos) (zP i):=
 ⟨JL i,ZE hN hi hx hf,λB ρ σ H v x Q I r q=>q _ (I.setV i r)⟩
def Ze (i j:Nat):T->En->R En:=λt ρ=>match t with
 | .tup [x,y]=> .ok ((ρ.set i (.vl x)).set j (.vl y))
 | _=> .bad
theorem kY (hc:X.calm=true)(hN:X.N.Nodup)(hi:X.N[i]? =some x)(hj:X.N[j]? =some y)(hx:L2.Loc X.env.scope x)(hy:L2.Loc X.env.scope y)
  (hf:X.fn x=true\/X.env.scope.names.lookup x=some .local:=by first | exact .inl rfl | exact .inr rfl | assumption) (hf' :X.fn y=true\/X.env.scope.names.lookup y=some .local:=by first | exact .inl rfl | exact .inr rfl | assumption):
  Gg X Y (.Tuple [.Name x pos,.Name y p'] k p2) (Ze i j):=by
 refine⟨Gc X.K 2 _,yo hc (ZR (ZE hN hi hx hf) (ZR (ZE hN hj hy hf') WT)),λB ρ σ H v t Q I r q=> ?_⟩;cases r with
 | @tup l xs ts h r=>
  cases r with
  | nil=>exact q.elim
  | cons r1 rr=>
   cases rr with
   | nil=>exact q.elim
   | cons r2 rr=>
    cases rr with
    | cons _ _=>exact q.elim
    | nil=>
     exact⟨l,_,rfl,SqT.of (I.sB _ _ h),rfl,_,_,rfl,_,_,rfl,rfl,q _ ((I.setV i r1).setV j r2)⟩
 | _=>exact q.elim
def Zn (g:T->En->R En)(fb:En->RS):List T->En->RS
 | [],ρ=> .nx ρ
 | t :: ts,ρ=>match g t ρ with
  | .ok ρ1=>match fb ρ1 with
   | .nx ρ2=>Zn g fb ts ρ2
   | .ct ρ2=>Zn g fb ts ρ2
   | .bk ρ2=> .nx ρ2
   | r=>r
  | .ex c=> .bad
  | .bad=> .bad
def jJ (fi:En->R (List T))(g:T->En->R En)(fb:En->RS):En->RS:=λρ=>(fi ρ).s λts=>Zn g fb ts ρ
theorem z0I {g:T->En->R En}(hp:PassesOwn (model X.prog X.w) X.A X.env X.xe)(hc:X.calm=true)(hi:W4 X Y tg iter fi)(hg:Gg X Y tg g)(hb:JZ X Y sts fb)
  (hs:∀x,foldedSetIterable iter X.env x=pure x:=by intro _;rfl):jA X Y (.For tg iter sts [] pos) (jJ fi g fb):= .mk λρ=>by
 obtain⟨tG,hG,hG'⟩:=hg;refine PS.imp (k8 (tb:=λD σ H=>∃ρ',tSS Y fb ρ' D σ H) hp hc (hi ρ) hG (λpins s σ H D I ⟨ρ',q⟩=>hb ρ' _ s σ H D I q) hs) λD σ H ⟨B,I,q⟩=> ?_;refine ZZ I q λts J H1 _ s1 r1 I1 q1=> ?_;refine⟨λi m σ' H' =>m=ts.length - i/\i<=ts.length/\∃ρ' B',SI Y B' ρ' σ' H' /\zt _ B' /\PoS Y B' (Zn g fb (ts.drop i) ρ') D,⟨ts.length,by simp,bg _,ρ,_,I1,zt.refl _,q1⟩, ?_⟩
 rintro i m σ' H' ⟨rfl,hi,ρ',B',I',sB',q'⟩
 obtain⟨hgo,hyld,hstop⟩:=r1 B' H' sB' I'.sB
 by_cases hlt:i < ts.length
 ·refine .inr ⟨hgo i hlt,λσ2 H2=>∃ρ2 B2,SI Y B2 ρ2 σ2 H2/\zt _ B2/\PoS Y B2 _ D,λσ2 H2 ⟨ρ2,B2,I2,s2,q2⟩=>⟨ts.length - (i+1),by omega,rfl,hlt,ρ2,B2,I2,s2,q2⟩,λx H2 y=> ?_⟩
  obtain⟨s2,r2⟩:=hyld i _ x H2 (aj hlt) y;rw[cM hlt]at q';unfold Zn at q';refine hG' _ ρ' σ' H2 x _ _ (I'.grow s2) r2 ?_;cases eg:g _ ρ' with
  | bad=>rw[eg]at q';exact q'
  | ex c=>rw[eg]at q';exact q'
  | ok ρ1=>
   rw[eg]at q';intro σ1 J1;refine⟨ρ1,_,J1, ?_⟩;have q2:=PoS.up (zH.ge I'.sB s2) q';dsimp only at q2;have s3:=sB'.trans (zH.ge I'.sB s2);revert q2;cases fb ρ1 with
   | nx ρ2=>exact λq2 σ3 H3 B3 s4 I3=>⟨ρ2,B3,I3,s3.trans s4,PoS.up s4 q2⟩
   | ct ρ2=>exact λq2 σ3 H3 B3 s4 I3=>⟨ρ2,B3,I3,s3.trans s4,PoS.up s4 q2⟩
   | bk ρ2=>exact λq2=>q2
   | rt t=>exact λq2=>q2
   | rf t=>exact λq2=>q2
   | ex c=>exact λq2=>q2
   | bad=>exact λq2=>q2
 ·have e:i=ts.length:=by omega
  subst e;rw[dW]at q';exact .inl ⟨hstop _ (ai _),q' σ' H' B' (zt.refl _) I'⟩
def jj (g:En->R Bool)(fb:En->RS):Nat->En->RS
 | 0,_=> .bad
 | n+1,ρ=>(g ρ).s λk=>if k=true then match fb ρ with
   | .nx ρ2=>jj g fb n ρ2
   | .ct ρ2=>jj g fb n ρ2
   | .bk ρ2=> .nx ρ2
   | r=>r
  else .nx ρ
theorem x6 (hp:PassesOwn (model X.prog X.w) X.A X.env X.xe)(hc:Wg X Y c ga)(hb:JZ X Y sts fb):jA X Y (.While c sts [] pos) (jj ga fb n):= .mk λρ=>by
 refine PS.imp (Qe (tc:=λσ H Q=>∃ρ',tS Y rE ga ρ' σ H Q) (tb:=λD σ H=>∃ρ',tSS Y fb ρ' D σ H) hp (λpins s σ H D I ⟨ρ',q⟩=>hc ρ' _ s σ H D I q) (λpins s σ H D I ⟨ρ',q⟩=>hb ρ' _ s σ H D I q)) λD σ H ⟨B,I,q⟩=> ?_;refine⟨λm σ' H' =>∃ρ' B',SI Y B' ρ' σ' H' /\PoS Y B' (jj ga fb m ρ') D,⟨n,ρ,B,I,q⟩, ?_⟩
 rintro m σ' H' ⟨ρ',B',I',q'⟩
 cases m with
 | zero=>exact q'.elim
 | succ m=>
  unfold jj at q';refine⟨ρ',ZZ I' q' λt v H1 _ s1 r1 I1 q1=> ?_⟩;have r1' :=r1;subst r1';cases v with
  | false=>exact q1 _ _ _ (zt.refl _) I1
  | true=>
   refine⟨λσ2 H2=>∃ρ2 B2,SI Y B2 ρ2 σ2 H2/\PoS Y B2 _ D,λσ2 H2 h=>⟨m,bY m,h⟩,ρ',_,I1, ?_⟩;revert q1;cases fb ρ' with
   | nx ρ2=>exact λq2 σ3 H3 B3 s4 I3=>⟨ρ2,B3,I3,PoS.up s4 q2⟩
   | ct ρ2=>exact λq2 σ3 H3 B3 s4 I3=>⟨ρ2,B3,I3,PoS.up s4 q2⟩
   | bk ρ2=>exact λq2=>q2
   | rt t=>exact λq2=>q2
   | rf t=>exact λq2=>q2
   | ex c=>exact λq2=>q2
   | bad=>exact λq2=>q2
end
theorem Jt:∀(ns:List (Str×NameKind)) (acc:List (Str×Addr)),(∀x∈ns,x.2=NameKind.free->∃c,env.cells.lookup x.1=some c)->(∀x c,acc.lookup x=some c->env.cells.lookup x=some c)->
  ∃cl,(forIn ns acc (λ(x:Str×NameKind) (r:List (Str×Addr))=>if (x.2 == NameKind.free)=true then (do let c ← cellOf env x.1;pure (ForInStep.yield ((x.1,c) :: r))) else pure (ForInStep.yield r)):Sem _)=pure cl/\
   (∀x c,cl.lookup x=some c->env.cells.lookup x=some c)/\(∀x c,acc.lookup x=some c->∃c',cl.lookup x=some c')/\(∀x∈ns,x.2=NameKind.free->∃c,cl.lookup x.1=some c)
 | [],acc,_,h=>⟨acc,rfl,h,λx c e=>⟨c,e⟩,λx hx=>by simp at hx⟩
 | (n,k) :: ns,acc,hf,h=>by
  by_cases hk:k=NameKind.free
  ·obtain⟨c,hc⟩:=hf _ ab hk;have h' :∀x d,((n,c) :: acc).lookup x=some d->env.cells.lookup x=some d:=λx d e=>by
    by_cases hx:x=n
    ·subst hx;have e' :=by simpa[av] using e
     cases e';exact hc
    ·have e' :=by
      rw[av,(beq_eq_false_iff_ne.mpr hx)]at e;exact e
     exact h x d e'
   obtain⟨cl,e,h1,h2,h3⟩:=Jt ns _ (λx hx=>hf x (a8 _ hx)) h';refine⟨cl, ?_,h1,λx d ed=> ?_,λx hx hxf=> ?_⟩
   ·rw[i6];subst hk;have q:cellOf env n=pure c:=by unfold cellOf;rw[hc]
    simp only[beq_self_eq_true,if_true,q];exact e
   ·by_cases hx:x=n
    ·subst hx;exact h2 x c (by simp[av])
    ·exact h2 x d (by rw[av,(beq_eq_false_iff_ne.mpr hx)];exact ed)
   ·rcases ah.mp hx with rfl | hx
    ·exact h2 n c (by simp[av])
    ·exact h3 x hx hxf
  ·obtain⟨cl,e,h1,h2,h3⟩:=Jt ns acc (λx hx=>hf x (a8 _ hx)) h;refine⟨cl, ?_,h1,h2,λx hx hxf=> ?_⟩
   ·rw[i6];have q:(k == NameKind.free)=false:=by simpa using hk
    simp only[q,aO,if_false];exact e
   ·rcases ah.mp hx with rfl | hx
    ·exact absurd hxf hk
    ·exact h3 x hx hxf
theorem wA (hf:∀x∈scope.names,x.2=NameKind.free->∃c,env.cells.lookup x.1=some c):
  ∃cl,closureFor scope env=pure cl/\(∀x c,cl.lookup x=some c->env.cells.lookup x=some c)/\(∀x∈scope.names,x.2=NameKind.free->∃c,cl.lookup x.1=some c):=by
 obtain⟨cl,e,h1,_,h3⟩:=Jt _ [] hf (λx c e=>by simp at e)
 refine⟨cl, ?_,h1,h3⟩;unfold closureFor;exact(by simpa using e)
def cxC (X:Cx)(scope:Scope)(N' :List Str)(cl:List (Str×Addr))(C:Addr)(s3:Shared)(H3:Hp)(fp:List Addr)(pins:List (Addr×Obj)):Cx:=
 { X with N:=N',s₀:=s3,H₀:=H3,env:=compEnvC scope cl C X.env,outer:=X.stack,stack:=X.stack,ex:=fp,fn:=λ_=>false,pn:=X.pn++pins,xe:=λ_ _=>False }
structure CSc (X:Cx) (scope:Scope):Prop where
 kind:scope.kind= .function
 nocell:∀x∈scope.names,x.2 ≠ .cell
 loc:∀x∈scope.names,x.2= .local->scope.names.lookup x.1=some .local
 fre:∀x∈scope.names,x.2= .free->X.env.kindOf x.1=some .cell\/X.env.kindOf x.1=some .free
theorem jB (h:(relabel scope env).names.lookup x=some k)(hk:k= .cell\/k= .free)(hn:∀x∈scope.names,x.2 ≠ NameKind.cell):∃y∈scope.names,y.1=x/\y.2= .free:=by
 have go:∀ns:List (Str×NameKind),(∀x∈ns,x.2 ≠ NameKind.cell)->(ns.map λ(n,k)=>if (k == NameKind.free && env.scope.kind == .function && env.kindOf n == some .cell) then (n,NameKind.cell) else (n,k)).lookup x=some k->∃y∈ns,y.1=x/\y.2= .free:=by
  intro ns
  induction ns with
  | nil=>intro _ h;simp at h
  | cons y ns ih=>
   intro hn h;obtain⟨n,k'⟩:=y
   by_cases hx:x=n
   ·subst hx;refine⟨(x,k'),ab,rfl, ?_⟩;rw[aI]at h
    by_cases hc:(k' == NameKind.free && env.scope.kind == .function && env.kindOf x == some .cell)=true
    ·rw[ac,ac]at hc;exact eq_of_beq hc.1.1
    ·simp only[if_neg hc,av,beq_self_eq_true]at h;cases h;rcases hk with rfl | rfl
     ·exact absurd rfl (hn _ ab)
     ·rfl
   ·obtain⟨z,hz,h1,h2⟩:=ih (λz hz=>hn z (a8 _ hz)) (by
     rw[aI]at h
     by_cases hc:(k' == NameKind.free && env.scope.kind == .function && env.kindOf n == some .cell)=true
     ·simp only[if_pos hc,av,(beq_eq_false_iff_ne.mpr hx)]at h;exact h
     ·simp only[if_neg hc,av,(beq_eq_false_iff_ne.mpr hx)]at h;exact h)
    exact⟨z,a8 _ hz,h1,h2⟩
 exact go _ hn h
section
theorem Y2 (I:L2.Inv X pins σ H s)(S:CSc X scope)(hc:X.calm=true)
  (hcl:∀x c,cl.lookup x=some c->X.env.cells.lookup x=some c) (hcf:∀x∈scope.names,x.2=NameKind.free->∃c,cl.lookup x.1=some c)
  (hfp:∀b∈fp,JS X pins H b) (hfo:∀b∈fp,∃o,s.heap.get? b=some o)
  (hns:h'.Ns s.heap.objs.size (λ_=>none)) (hk:∀b o,s.heap.get? b=some o->h'.get? b=some o)
  (hl:σ'.length=N'.length) (hσ:∀(i:Nat) (x:Str) (v:V),N'[i]? =some x->σ'[i]? =some (some v)->∃j:Nat,X.N[j]? =some x/\σ[j]? =some (some v)/\Vis X.env.scope x/\(scope.names.lookup x=some .free)/\(X.env.kindOf x=some .cell\/X.env.kindOf x=some .free)):
  L2.Inv (cxC X scope N' cl s.heap.objs.size s H fp pins) [] σ' H { s with heap:=h',toks:=tk }:=by
 have stk:=I.stkSub;have hlt:=λb hb=>let ⟨o,e⟩:=hfo b hb;ao e;have fresh:=I.hok.fresh (ai _);refine⟨⟨I.ok.mod,S.kind,I.ok.glob,I.ok.blt,ai _,λx y c h1 h2=>I.ok.inj x y c (hcl _ _ h1) (hcl _ _ h2),λx hx=> ?_,λx c h _=>(aH h).elim,λ_=>I.ok.hd hc,I.ok.frames,.inl rfl,λb hb=> ?_,I.bs,
   aC I.ok.bsz I.sz,λb o e hb=> ?_,λb hb hb' => ?_,I.stack,I.stkFree⟩,rfl,I.bare,Un.kept hk,⟨_,hns,λi x v h1 h2 h3=> ?_⟩,λx c e=> ?_,fresh,λx c e=>I.freeC x c (hcl _ _ e),λp hp=> ?_,I.hok.kept hk,hl⟩
 ·have hx' :=hx;obtain⟨y,hy,rfl,hyf⟩:∃y∈scope.names,y.1=x/\y.2= .free:=by
   rcases hx' with h | h
   ·exact jB h (.inl rfl) S.nocell
   ·exact jB h (.inr rfl) S.nocell
  exact hcf y hy hyf
 ·refine⟨aE (hlt b hb),λx c e=>(hfp b hb).2.2.2.2.1 x c (hcl _ _ e)⟩
 ·rcases(hfp b hb).2.2.2.1 with h | h
  ·exact I.ok.noex b o e h
  ·exact absurd (aG (ao e) (aC I.ok.bsz h)) (aY _)
 ·have q:=hfp b hb;rcases ah.mp (stk b hb') with z | z
  ·exact q.2.1 z
  ·exact q.2.2.1 z
 ·obtain⟨j,e1,e2,e3,e4,e5⟩:=hσ i x v h1 h2;obtain⟨m,hn,hloc⟩:=I.loc;obtain⟨u,ru,lk⟩:=hloc j x v e1 e2 e3;refine⟨u,ru,.inr ⟨?_, ?_⟩⟩
  ·rcases h3 with h | h | h
   ·exfalso;have:∀ns:List _,ns.lookup x=some .free->(ns.map λ(n,k)=>if (k == NameKind.free && X.env.scope.kind == .function && X.env.kindOf n == some .cell) then (n,NameKind.cell) else (n,k)).lookup x ≠ some .local:=by
     intro ns
     induction ns with
     | nil=>intro z;simp at z
     | cons y ns ih=>
      obtain⟨n,k⟩:=y;intro z w;rw[aI]at w
      by_cases hx:x=n
      ·subst hx;have hkf:=by simpa[av] using z
       by_cases hcn:(k == NameKind.free && X.env.scope.kind == .function && X.env.kindOf x == some .cell)=true
       ·simp only[if_pos hcn,av,beq_self_eq_true]at w;cases w
       ·simp only[if_neg hcn,av,beq_self_eq_true]at w;rw[hkf]at w;cases w
      ·have z' :=by rw[av,(beq_eq_false_iff_ne.mpr hx)]at z;exact z
       refine ih z' ?_
       by_cases hcn:(k == NameKind.free && X.env.scope.kind == .function && X.env.kindOf n == some .cell)=true
       ·simp only[if_pos hcn,av,(beq_eq_false_iff_ne.mpr hx)]at w;exact w
       ·simp only[if_neg hcn,av,(beq_eq_false_iff_ne.mpr hx)]at w;exact w
    exact this _ e4 h
   ·exact .inl h
   ·exact .inr h
  ·rcases lk with ⟨hk',_⟩ | ⟨_,c,hc',hcell⟩
   ·rcases e5 with z | z <;> (rw[z]at hk';cases hk')
   ·obtain⟨c',hc2⟩:=hcf _ (aZ e4) rfl;have:=hcl x c' hc2;rw[hc']at this;cases this;obtain⟨o,eo,ed⟩:=hcell;exact⟨c,hc2,o,hk _ _ eo,ed⟩
 ·obtain⟨v,o,eo,ed⟩:=I.cell x c (hcl _ _ e);exact⟨v,o,hk _ _ eo,ed⟩
 ·have hp' :=by
   have:=hp;rwa[aW]at this
  obtain⟨e,n,ne,nf,dc⟩:=I.pin p hp';refine⟨hk _ _ e,n,aE (ao e),λhb=> ?_,dc⟩;rcases ah.mp (stk _ hb) with z | z
  ·exact ne z
  ·exact nf z
end
def PIf (X:Cx)(ifs:List Expr)(t:TT):Prop:=
 ∀(pins:List (Addr×Obj)) (s:Shared) (σ:Sg) (H:Hp) (Q:Bool->Hp->Prop),L2.Inv X pins σ H s->t σ H Q->
  wpAny (model X.prog X.w) X.A (forIn ifs true λc r=>if r=true then do let ok ← isTrue c X.env (eval c X.env);pure (ForInStep.yield ok) else pure (ForInStep.yield r)) (TP X pins σ Q) X.xe s
theorem x8:PIf X [] (λ_ H Q=>Q true H):=λ_ _ σ H _ I h=>wpAny_tests_nil ⟨H,I,h⟩
theorem x9 (h:PT X c t):PIf X [c] t:=λpins s σ H Q I q=>wpAny_tests_one (h _ s σ H Q I q)
noncomputable abbrev XE (X:Cx)(xe:Value->Shared->Prop):Cx:={ X with xe:=xe }
theorem uA (I:L2.Inv X pins σ H s):L2.Inv (XE X xe) pins σ H s:=
 ⟨⟨I.ok.mod,I.ok.kind,I.ok.glob,I.ok.blt,I.ok.above,I.ok.inj,I.ok.has,I.ok.cab,I.ok.hd,I.ok.frames,I.ok.stk,I.ok.exf,I.ok.bs,I.ok.bsz,I.ok.noex,I.ok.exfs,I.ok.funs,I.ok.frf⟩,I.os,I.bare,I.base,I.loc,I.cell,I.free,I.freeC,I.pin,I.hok,I.len⟩
theorem Y3 (I:L2.Inv (XE X xe) pins σ H s):L2.Inv X pins σ H s:=(uA I:L2.Inv _ _ σ H s)
theorem z0J (hx:X.xe=λ_ _=>False)(h:PG X e t):PG (XE X xe) e t:=λpins s σ H v u Q I r q=>cW (h _ s σ H v u Q (Y3 I) r q) (λ_ s' ⟨σ',H',I',q'⟩=>⟨σ',H',uA I',q'⟩) λe s' z=>by rw[hx]at z;exact z.elim
theorem kZ (hx:X.xe=λ_ _=>False)(h:PIf X e t):PIf (XE X xe) e t:=λpins s σ H Q I q=>cW (h _ s σ H Q (Y3 I) q) (λ_ s' ⟨H',I',q'⟩=>⟨H',uA I',q'⟩) λe s' z=>by rw[hx]at z;exact z.elim
theorem uB {α:Type}{m:Sem α}{Q:α->Shared->Prop}(hE:∀e s',E' e s' ->E e s')(h:wpAny M A m Q E' s):wpAny M A m Q E s:=cW h (λ_ _ q=>q) hE
def UH (J:It)(D:Addr)(g:TG)(tt:TT)(te:TE)(fin:Sg->Hp->Prop)(W:Nat->Nat->List V->Sg->Hp->Prop):Prop:=
 ∀i m ys σ H,W i m ys σ H->H D=some (.lst ys)/\((J.stop i H/\fin σ H)\/(J.go i H/\∀x H2,J.yld i H x H2->g x σ H2 λσ3 H3=>tt σ3 H3 λk H4=>
  if k=true then te σ3 H4 λv H5=>H5 D=some (.lst ys)/\ys.length < sizeLine/\∃m',m' < m/\W (i+1) m' (ys++[v]) σ3 (upd H5 D (.lst (ys++[v]))) else ∃m',m' < m/\W (i+1) m' ys σ3 H4))
theorem Wo {X:Cx}{R:Result->Shared->Prop}(hx:∀e s',X.xe e s' ->notedBy (model X.prog X.w) X.A X.env (λe s' =>R (.error e) s') e s')(hc:X.calm=true){tg iter elt:Expr}{ifs:List Expr}{scope:Scope}{pos:Pos}{J:It}{fp:List Addr}{it:Addr}{tn:Nat->Heap->Prop}(TJ:Uj X.prog X.w X.K tg J fp it tn)
  {g:TG} {tt:TT} {te:TE} (hg:PG X tg g) (ht:PIf X ifs tt) (he:PE X elt te) {D:Addr} {fin:Sg->Hp->Prop} (W:Nat->Nat->List V->Sg->Hp->Prop) (turn:UH J D g tt te fin W)
  (hR:∀s σ H,L2.Inv X [] σ H s->fin σ H->R (.ok .next) s) {m0:Nat} {σ0:Sg} {H0:Hp} {s0:Shared} (w0:W 0 m0 [] σ0 H0) (I0:L2.Inv X [] σ0 H0 s0) (t0:tn 0 s0.heap) (f0:∀b∈fp,JS X [] H0 b):
  codeAny (model X.prog X.w) X.A (.compLoop (.ListComp elt [⟨tg,iter,ifs,0⟩] scope pos) 0 (.ref it) (.ref D) X.env) R s0:=by
 have stat:∀{H' :Hp},(∀b∈fp,H' b=none)->∀b∈fp,JS X [] H' b:=λhn b hb=>⟨hn b hb,(f0 b hb).2⟩;refine codeAny_loop rfl (λn s' =>∃i ys σ' H',L2.Inv X [] σ' H' s' /\tn i s'.heap/\(∀b∈fp,H' b=none)/\W i n ys σ' H') (λn s3 h3=> ?_) m0 ⟨0,[],σ0,H0,I0,t0,λb hb=>(f0 b hb).1,w0⟩;obtain⟨i,ys,σ3,H3,I3,st3,fr3,w3⟩:=h3;show wpAny _ X.A ((compTurn _ 0 _ _ _).onRaise (λx=>do noteFrame x _;theTreesLotGoes x)) _ _ s3
 refine wpAny_noted ?_;obtain⟨hD,h⟩:=turn i n ys σ3 H3 w3;rcases h with ⟨stop,qn⟩ | ⟨go,next⟩
 ·refine a7 (wpAny_standAt (a7 (thn (TJ.done X rfl rfl rfl hc i [] s3 σ3 H3 _ I3 (stat fr3) st3 stop) λr s4 ⟨hr,I4⟩=> ?_)));subst hr;exact ax (hR s4 σ3 H3 I4 qn)
 ·refine a7 (wpAny_standAt (a7 (thn (TJ.item X rfl rfl rfl hc i [] s3 σ3 H3 _ I3 (stat fr3) st3 go) λr s4 ⟨u,hr,h4⟩=> ?_)));subst hr;refine a7 (thn h4 λ_ s5 ⟨x,H5,I5,r5,y5,st5,fr5⟩=> ?_);have I5' :=I5.pinned (stat fr5) (TJ.obj _ _ st5);refine a7 (uB hx (thn (hg _ s5 σ3 H5 x u _ I5' r5 (next x H5 y5)) λ_ s6 ⟨σ6,H6,I6,q6⟩=> ?_));have again:∀{σ7:Sg} {H7:Hp} {s7:Shared} {ys' :List V},L2.Inv X _ σ7 H7 s7->(∃m',m' < n/\W (i+1) m' ys' σ7 H7)->∃m,m < n/\∃i ys σ' H',L2.Inv X [] σ' H' s7/\tn i _/\(∀b∈fp,H' b=none)/\W i m ys σ' H' :=λ{σ7 H7 s7 ys'} I7 ⟨m',hm,w7⟩=>by
   refine⟨m',hm,i+1,ys',σ7,H7,I7.unpinned,TJ.keep _ _ _ st5 λb hb o e=>(I7.pin _ (aV _ (aV _ (ja hb e)))).1,λb hb=> ?_,w7⟩;obtain⟨o,e,d⟩:=TJ.obj _ _ st5 b hb;exact(I7.pin _ (aV _ (aV _ (ja hb e)))).2.1
  refine a7 (uB hx (thn (ht _ s6 σ6 H6 _ I6 q6) λk s7 ⟨H7,I7,q7⟩=> ?_));cases k with
  | false=>exact ax ⟨rfl,again I7 q7⟩
  | true=>
   refine a7 (a7 (uB hx (thn (he _ s7 σ6 H7 _ I7 q7) λv s8 ⟨y,H8,I8,r8,hD8,hlen,q8⟩=> ?_)));refine a7 (uB hx (thn (jy _ s8 σ6 H8 (.ref D) [y] _ [v] (λ_ H9=>∃m',m' < n/\W _ m' _ σ6 H9) I8 rfl (.cons r8 .nil) ⟨D,ys,y,rfl,rfl,hD8,hlen,q8⟩) λw s9 ⟨_,H9,I9,_,q9⟩=> ?_));exact ax (ax ⟨rfl,again I9 q9⟩)
def JK (k:Nat)(js:List Nat)(σ:Sg):Sg:=af k none++js.map λj=>(σ[j]?).getD none
section
abbrev vM (X:Cx)(scope:Scope)(N' :List Str)(P:Cx->Prop):Prop:=∀cl C s3 H3 fp pins,P (cxC X scope N' cl C s3 H3 fp pins)
abbrev K0 (X:Cx)(scope:Scope)(N' :List Str)(E:XK)(P:Cx->Prop):Prop:=∀cl C s3 H3 fp pins xe,Z9 (CX1 X.prog X.w) (XE (cxC X scope N' cl C s3 H3 fp pins) xe) E->P (XE (cxC X scope N' cl C s3 H3 fp pins) xe)
structure XF (X:Cx) (scope:Scope) (N' :List Str) (k:Nat) (js:List Nat):Prop where
 len:N'.length=k+js.length
 cap:∀(i j:Nat),js[i]? =some j->∃x,N'[k+i]? =some x/\X.N[j]? =some x/\Vis X.env.scope x/\scope.names.lookup x=some .free/\(X.env.kindOf x=some .cell\/X.env.kindOf x=some .free)
theorem wB (hp:kx X E){js:List Nat}{use:Option (Value->Sem Unit)}(S:CSc X scope)(CP:XF X scope N' k js)(hc:X.calm=true)
  (hi:PI X tg iter wi) (hg:vM X scope N' λXC=>PG XC tg g) (ht:vM X scope N' λXC=>PIf XC ifs tt) (he:K0 X scope N' E λXC=>PE XC elt te) {pins:List (Addr×Obj)} {σ:Sg} {H:Hp} {s:Shared} {Q:Value->Shared->Prop} {F:Addr->Hp->Prop} (I:L2.Inv X pins σ H s)
  (h:wi σ H λJ H1=>∀D,H1 D=none->∃W,(∃m,W 0 m [] (JK k js σ) (upd H1 D (.lst [])))/\UH J D g tt te (λ_ H' =>F D H') W)
  (hQ:∀D C H' s',L2.Inv X pins σ H' s' ->F D H' ->H' C=none->(X.s₀.heap.objs.size<=C)->C ≠ X.env.locals->(∀x c,X.env.cells.lookup x=some c->c ≠ C)->(∀p∈X.pn++pins,p.1 ≠ C)->(∃m,s'.heap.Ns C m)->compPost (model X.prog X.w) X.A X.xe use Q (.ref D) C (.ok .next) s')
  (hs:∀x,foldedSetIterable iter X.env x=pure x:=by intro _;rfl):
  wpAny (model X.prog X.w) X.A (comprehension (.ListComp elt [⟨tg,iter,ifs,0⟩] scope pos) scope X.env pos' (newList []) false (eval iter X.env) use) Q X.xe s:=by
 obtain⟨cl,ecl,hcl,hcf⟩:=wA (scope:=scope) (env:=X.env) λx hx hf=>I.ok.has x.1 (S.fre x hx hf);refine wpAny_comprehension_free rfl hs ecl S.kind S.loc ?_;refine thn (hi pins s σ H _ I h) λv s1 h1=>thn h1 λitv s2 h2=> ?_;obtain⟨it,fp,tn,J,H2,e,I2,TJ,st2,f2,q2⟩:=h2;subst e;refine be ?_;have hD:=I2.hok.fresh (ai _);have I3:L2.Inv X pins σ (upd H2 s2.heap.objs.size (.lst [])) { s2 with heap:=s2.heap.push { cls:= .type "list",data:= .seq _ } }:=
  I2.laid (t' :=s2.toks) (λb u e=>aa _ e) (ai _) ⟨bg _,[],_,.nil,ag _ rfl⟩
 obtain⟨W,⟨m0,w0⟩,turn⟩:=q2 s2.heap.objs.size hD;have f3:∀b∈fp,JS X pins (upd H2 s2.heap.objs.size (.lst [])) b:=λb hb=>by
  obtain⟨o,eo,_⟩:=TJ.obj _ _ st2 b hb;exact⟨by rw[zu (aE (ao eo))];exact(f2 b hb).1,(f2 b hb).2⟩
 have o3:∀b∈fp,∃o,(s2.heap.push { cls:= .type "list",data:= .seq ([]:List Value).toArray }).get? b=some o:=λb hb=>by
  obtain⟨o,eo,_⟩:=TJ.obj _ _ st2 b hb;exact⟨o,aa _ eo⟩
 refine wpAny_newFunctionEnv S.nocell (by intro y hy;simp at hy) (λh4 hns4 hsb4=> ?_) S.kind
 generalize hG:s2.heap.push _=G3 at I3 o3 hns4 hsb4 ⊢;have s3e:∃s3:Shared,s3={ s2 with heap:=G3 }:=⟨_,rfl⟩;obtain⟨s3,es3⟩:=s3e;have hh3:s3.heap=s2.heap.push { cls:= .type "list",data:= .seq ([]:List Value).toArray }:=by rw[es3,hG]
 have hg3:G3=s3.heap:=by rw[es3]
 rw[← es3]at I3;rw[hg3]at hns4 hsb4 o3;have k4:=λb o e=>hsb4.extBut b o (aE (ao e)) (aa _ e);have IC:=Y2 (N' :=N') (cl:=cl) (fp:=fp) (σ' :=JK k js σ) (tk:=s3.toks+([]:List (Str×Value)).length) I3 S hc hcl hcf f3 o3 hns4 k4 (by unfold JK;simp[CP.len]) (λi x v h1 h2=>by
  unfold JK at h2
  by_cases hik:i < k
  ·rw[aB (by simpa using hik),aL,if_pos hik]at h2
   cases h2
  ·have hk' :k<=i:=by omega
   rw[au (by simpa using hk'),aJ,ak]at h2
   cases ej:js[i - k]? with
   | none=>rw[ej]at h2;cases h2
   | some j=>
    rw[ej]at h2;obtain⟨y,e1,e2,e3,e4,e5⟩:=CP.cap (i - k) j ej;have:k+(i - k)=i:=by omega
    rw[this,h1]at e1;cases e1;refine⟨j,e2, ?_,e3,e4,e5⟩;have h2' :some ((σ[j]?).getD none)=some (some v):=h2;cases ez:σ[j]? with
    | none=>rw[ez]at h2';cases h2'
    | some z=>rw[ez]at h2';exact congrArg some (aq h2'))
 have TC:Uj _ _ _ tg J fp it tn:=TJ;have t4:tn 0 h4:=TJ.keep _ _ _ st2 λb hb o e=>k4 b o (by rw[hh3];exact aa _ e)
 have fC:∀b∈fp,JS (cxC X scope N' cl s3.heap.objs.size s3 (upd H2 s2.heap.objs.size (.lst [])) fp pins) [] _ b:=λb hb=>by
  obtain⟨q0,q1,q2,q3,q4,q5⟩:=f3 b hb;obtain⟨o,eo⟩:=o3 b hb;refine⟨q0,aE (ao eo),λhb' => ?_,.inl hb,λx c e=>q4 x c (hcl _ _ e),λp hp=> ?_⟩
  ·rcases ah.mp (I3.stkSub b hb') with z | z
   ·exact q1 z
   ·exact q2 z
  ·exact q5 p (by
    have:=hp;rwa[aW]at this)
 have fin:∀(s5:Shared) (σ5:Sg) (H5:Hp),L2.Inv (cxC X scope N' cl s3.heap.objs.size s3 (upd H2 s2.heap.objs.size (.lst [])) fp pins) [] σ5 H5 s5->F s2.heap.objs.size H5->compPost (model X.prog X.w) X.A X.xe use Q _ s3.heap.objs.size (.ok .next) s5:=λs5 σ5 H5 I5 q5=>by
  have J5:=I3.call' (ch:=fp) I5.os I5.base I5.hok I5.bare λb hb=>by
   obtain⟨q0,q1,q2,q3,q4,q5⟩:=f3 b hb;exact⟨q3,q1,q4,q5⟩
  refine hQ _ _ H5 s5 J5 q5 I5.free I3.sz (cG I3.lt) (λx c e z=> ?_) (λp hp z=> ?_) (let ⟨m,hm,_⟩:=I5.loc;⟨m,hm⟩)
  ·obtain⟨v',o,eo,_⟩:=I3.cell x c e;exact absurd (ao eo) (by rw[z];exact aY _)
  ·exact absurd (ao (I3.pin p hp).1) (by rw[z];exact aY _)
 have pass:Z9 (CX1 X.prog X.w) (XE (cxC X scope N' cl s3.heap.objs.size s3 (upd H2 s2.heap.objs.size (.lst [])) fp pins) (notedBy (model X.prog X.w) X.A (compEnvC scope cl s3.heap.objs.size X.env) λe s' =>compPost (model X.prog X.w) X.A X.xe use Q (.ref s2.heap.objs.size) s3.heap.objs.size (.error e) s')) E:=by
  intro pins1 σ1 H1 s1 e s' I1 c1;have J1:=I3.call' I1.os I1.base I1.hok I1.bare λb hb=>by
   obtain⟨q0,q1,q2,q3,q4,q5⟩:=f3 b hb;exact⟨q3,q1,q4,q5⟩
  obtain⟨m1,hm1,_⟩:=I1.loc;refine thn (hp pins σ H1 s1 e s' _ m1 _ _ J1 hm1 I1.free I3.sz (λz=> ?_) rfl c1) λ_ s'' q=> ?_
  ·obtain⟨_,o,eo,_⟩:=I3.stack.mem z;exact absurd (ao eo) (aY _)
  ·cases use <;> exact q
 have loop:=Wo (X:=XE (cxC X scope N' cl _ s3 _ fp _) (notedBy _ X.A _ λe s' =>compPost _ X.A _ use Q _ _ _ s')) (iter:=iter) (scope:=scope) (pos:=pos) (λ_ _ z=>z) hc TC (z0J rfl (hg _ _ _ _ _ _)) (kZ rfl (ht _ _ _ _ _ _)) (he _ _ _ _ _ _ _ pass) W turn (λs5 σ5 H5 I5=>fin s5 σ5 H5 (Y3 I5)) w0 (uA IC) t4 fC;rw[es3]at loop;exact codeAny_compStart_list loop (TJ.self _ _ _ _ _ t4 loop)
end
def zG (g:T->En->R En)(ft:En->R Bool)(fe:En->R T):List T->En->R (List T)
 | [],_=> .ok []
 | t :: ts,ρ=>(g t ρ).bind λρ1=>(ft ρ1).bind λk=>if k=true then (fe ρ1).bind λv=>(zG g ft fe ts ρ1).bind λvs=> .ok (v :: vs) else zG g ft fe ts ρ1
noncomputable def WZ:Option Sl->Sl
 | some (.vl t)=> .vl t
 | some (.ob k _)=> .oc k []
 | some (.oc k fs)=> .oc k fs
 | _=> .un
def Jb (k:Nat)(js:List Nat)(ρ:En):En:=af k .un++js.map λj=>WZ ρ[j]?
noncomputable def quiet {α:Type}:R α->R α
 | .ok a=> .ok a
 | _=> .bad
def zD (g:T->En->R En)(ft:En->R Bool)(fe:En->R T)(k:Nat)(js:List Nat)(ρ:En)(ts:List T):R (List T):=if ts.length<=bnd then quiet (zG g ft fe ts (Jb k js ρ)) else .bad
def Z6 (fi:En->R (List T))(g:T->En->R En)(ft:En->R Bool)(fe:En->R T)(k:Nat)(js:List Nat):En->R T:=λρ=>(fi ρ).bind λts=>(zD g ft fe k js ρ ts).bind λvs=> .ok (.lst vs)
def GOk (tG:TG)(g:T->En->R En):Prop:=∀Y B ρ σ H v x Q,SI Y B ρ σ H->Rep B v x->(match g x ρ with | .ok ρ' =>∀σ',SI Y B ρ' σ' H->Q σ' H | _=>False)->tG v σ H Q
theorem uC (i:Nat):GOk (JL i) (zP i):=λY B ρ σ H v x Q I r q=>q _ (I.setV i r)
theorem Qx (K:a9)(i j:Nat):GOk (Gc K 2 (yn (JL i) (yn (JL j) GS))) (Ze i j):=λY B ρ σ H v t Q I r q=>by
 cases r with
 | @tup l xs ts h r=>
  cases r with
  | nil=>exact q.elim
  | cons r1 rr=>
   cases rr with
   | nil=>exact q.elim
   | cons r2 rr=>
    cases rr with
    | cons _ _=>exact q.elim
    | nil=>exact⟨l,_,rfl,SqT.of (I.sB _ _ h),rfl,_,_,rfl,_,_,rfl,rfl,q _ ((I.setV i r1).setV j r2)⟩
 | _=>exact q.elim
theorem SI.blockS (I:SI Y B ρ σ H)(k:Nat)(js:List Nat)(E:XK)(s:zt H H'):SI ⟨B,H,E,Y.cl,[]⟩ B (Jb k js ρ) (JK k js σ) H' where
 s0:=I.sB
 sH:=s
 sB:=I.sB.trans s
 old:=λ_ _ _=>rfl
 len:=by unfold Jb JK;simp
 vl:=λi t h=>by
  unfold Jb at h;unfold JK
  by_cases hik:i < k
  ·rw[aB (by simpa using hik),aL,if_pos hik]at h;cases h
  ·have hk' :k<=i:=by omega
   rw[au (by simpa using hk'),aJ,ak]at h ⊢
   cases ej:js[i - k]? with
   | none=>rw[ej]at h;cases h
   | some j=>
    rw[ej]at h;have h' :WZ ρ[j]? = .vl t:=aq h;unfold WZ at h';split at h'
    ·rename_i u e;cases h';obtain⟨v,e1,r⟩:=I.vl j _ e;exact⟨v,by show some ((σ[j]?).getD none)=_;rw[e1];rfl,r⟩
    all_goals cases h'
 ow:=λi ts h=>by
  exfalso;unfold Jb at h
  by_cases hik:i < k
  ·rw[aB (by simpa using hik),aL,if_pos hik]at h;cases h
  ·have hk' :k<=i:=by omega
   rw[au (by simpa using hk'),aJ,ak]at h
   cases ej:js[i - k]? with
   | none=>rw[ej]at h;cases h
   | some j=>
    rw[ej]at h;have h' :WZ ρ[j]? = .ow ts:=aq h;unfold WZ at h';split at h' <;> cases h'
 xc:=λi c h=>by
  exfalso;unfold Jb at h
  by_cases hik:i < k
  ·rw[aB (by simpa using hik),aL,if_pos hik]at h;cases h
  ·have hk' :k<=i:=by omega
   rw[au (by simpa using hk'),aJ,ak]at h
   cases ej:js[i - k]? with
   | none=>rw[ej]at h;cases h
   | some j=>
    rw[ej]at h;have h' :WZ ρ[j]? = .xc c:=aq h;unfold WZ at h';split at h' <;> cases h'
 st:=by
  have get:∀(i:Nat) (x:Sl),x.isO=true->(Jb k js ρ)[i]? =some x->∃j,js[i - k]? =some j/\k<=i/\WZ ρ[j]? =x:=λi x hx h=>by
   unfold Jb at h
   by_cases hik:i < k
   ·rw[aB (by simpa using hik),aL,if_pos hik]at h
    cases h;cases hx
   ·have hk' :k<=i:=by omega
    rw[au (by simpa using hk'),aJ,ak]at h
    cases ej:js[i - k]? with
    | none=>rw[ej]at h;cases h
    | some j=>
     rw[ej]at h;exact⟨j,rfl,hk',aq h⟩
  refine⟨[],λ_=>none,bZ _,λi os h=> ?_,λi _ os _ h=> ?_,λi k' n h=> ?_,λi k' fs h=> ?_,λi os h=> ?_⟩
  ·obtain⟨j,_,_,e⟩:=get i _ rfl h;unfold WZ at e;split at e <;> cases e
  ·obtain⟨j,_,_,e⟩:=get i _ rfl h;unfold WZ at e;split at e <;> cases e
  ·obtain⟨j,_,_,e⟩:=get i _ rfl h;unfold WZ at e;split at e <;> cases e
  ·obtain⟨j,ej,hk',e⟩:=get i _ rfl h;have sg:(JK k js σ)[i]? =some ((σ[j]?).getD none):=by
    unfold JK;rw[au (by simpa using hk'),aJ,ak,ej];rfl
   obtain⟨as,O,x⟩:=I.st;unfold WZ at e;split at e
   ·cases e
   ·rename_i k2 n2 e2;cases e;obtain⟨a,C,dx,vs,_,e3,e4,e5,_,_,e6⟩:=x.ob j _ _ e2;exact⟨a,C,dx,vs,by rw[sg,e3];rfl,e4,e5,e6,λm f d z=>by cases z⟩
   ·rename_i k2 fs2 e2;cases e;obtain⟨a,C,dx,vs,e3,e4,e5,e6,e7⟩:=x.oc j _ _ e2;exact⟨a,C,dx,vs,by rw[sg,e3];rfl,e4,I.sH _ _ e5,e6,e7.mono (zt.refl _) I.sH⟩
   ·cases e
  ·obtain⟨j,_,_,e⟩:=get i _ rfl h;unfold WZ at e;split at e <;> cases e
theorem SI.block {Y:Fx}{B:Hp}{ρ:En}{σ:Sg}{H H3:Hp}{D:Addr}(I:SI Y B ρ σ H)(k:Nat)(js:List Nat)(E:XK)(hD:H D=none)(o:HO):SI ⟨B,H,E,Y.cl,[]⟩ B (Jb k js ρ) (JK k js σ) (upd H D o):=I.blockS k js E (zt.new hD _)
theorem SI.acc {Y:Fx}{B:Hp}{ρ:En}{σ:Sg}{H:Hp}{D:Addr}(I:SI Y B ρ σ H)(hb:B D=none)(h0:Y.H0 D=none)(ho:∀(i:Nat) (ts:List T),ρ[i]? =some (Sl.ow ts)->σ[i]? ≠ some (some (V.ref D)))(hso:∀(i:Nat) (x:Sl),ρ[i]? =some x->Sl.isS x=true->False)(o:HO):SI Y B ρ σ (upd H D o) where
 s0:=I.s0
 sH:=λb u h=>by
  rw[zu (λz=>by subst z;rw[h0]at h;cases h)];exact I.sH b u h
 sB:=λb u h=>by
  rw[zu (λz=>by subst z;rw[hb]at h;cases h)];exact I.sB b u h
 old:=I.old
 len:=I.len
 vl:=I.vl
 ow:=λi ts h=>by
  obtain⟨a,xs,e,b0,h0',hh,r,d⟩:=I.ow i ts h;refine⟨a,xs,e,b0,h0', ?_,r,d⟩;rw[zu (λz=>ho i ts h (by rw[e,z]))];exact hh
 xc:=I.xc
 st:=let ⟨as,O,x⟩:=I.st;⟨as,O,x.pre,λi os h=>hso i _ h rfl |>.elim,λi j os os' h=>hso i _ h rfl |>.elim,λi k n h=>hso i _ h rfl |>.elim,x.oc,λi os h=>hso i _ h rfl |>.elim⟩
def xa (ρ:En):Prop:=∀(i:Nat) (x:Sl),ρ[i]? =some x->(∀ts,x ≠ Sl.ow ts)/\(x.isS=true->False)
theorem uD (k:Nat)(js:List Nat)(ρ:En):xa (Jb k js ρ):=λi x h=>by
 unfold Jb at h
 by_cases hik:i < k
 ·rw[aB (by simpa using hik),aL,if_pos hik]at h
  cases h;exact⟨λ_=>Sl.noConfusion,aH⟩
 ·have hk' :=by omega
  rw[au (by simpa using hk'),aJ,ak]at h
  cases ej:js[i - k]? with
  | none=>rw[ej]at h;cases h
  | some j=>
   rw[ej]at h;have h' :WZ _=x:=aq h;unfold WZ at h';split at h' <;> (subst h';exact⟨λ_=>Sl.noConfusion,aH⟩)
theorem wC {ρ:En}{i:Nat}{t:T}(h:xa ρ):xa (ρ.set i (.vl t)):=λj x e=>by
 rcases zr e with ⟨_,z⟩ | ⟨_,z⟩
 ·subst z;exact⟨λ_=>Sl.noConfusion,aH⟩
 ·exact h j x z
def GNo (g:T->En->R En):Prop:=(∀t ρ ρ',xa ρ->g t ρ= .ok ρ' ->xa ρ')/\∀t ρ c,g t ρ ≠ .ex c
theorem uE (i:Nat):GNo (zP i):=⟨λt ρ ρ' h e=>by
 cases e;exact wC h,λt ρ c e=>by cases e⟩
theorem Qy (i j:Nat):GNo (Ze i j):=⟨λt ρ ρ' h e=>(by
 unfold Ze at e;split at e
 ·cases e;exact wC (wC h)
 ·cases e),λt ρ c e=>by unfold Ze at e;split at e <;> cases e⟩
section
variable {X:Cx}{Y:Fx}{tg iter elt:Expr}{ifs:List Expr}{scope:Scope}{pos pos' :Pos}{N' :List Str}{k:Nat}{js:List Nat}{fi:En->R (List T)}{tG:TG}{g:T->En->R En}{ft:En->R Bool}{fe:En->R T}
structure Jc (X:Cx) (Y:Fx) (ifs:List Expr) (f:En->R Bool):Prop where
 mk ::
 go:∀ρ,PIf X ifs (tS Y rE f ρ)
instance {X:Cx}{Y:Fx}{ifs:List Expr}{f:En->R Bool}:CoeFun (Jc X Y ifs f) λ_=>∀ρ,PIf X ifs (tS Y rE f ρ):=⟨Jc.go⟩
theorem PIf.imp {X:Cx}{e:List Expr}{t t' :TT}(h:PIf X e t)(i:∀σ H Q,t' σ H Q->t σ H Q):PIf X e t' :=λpins s σ H Q I q=>h _ s σ H Q I (i σ H Q q)
def Zi:En->R Bool:=λ_=> .ok true
theorem K1 {X:Cx}:Jc X Y [] Zi:= .mk λρ=>PIf.imp x8 λσ H Q ⟨B,I,q⟩=>ZB I q rfl
theorem K2 {X:Cx}{c:Expr}(h:Wg X Y c ft):Jc X Y [c] ft:= .mk λρ=>x9 (h ρ)
noncomputable def CEnd (r:R (List T))(P:List T->Prop)(Z:Nat->Prop):Prop:=match r with
 | .ok vs=>P vs
 | .ex c=>Z c
 | .bad=>False
theorem UI {B1 H1:Hp}{σ:Sg}{ρ:En}{J:It}{ts:List T}{r:R (List T)}{D:Addr}{E0:XK}(hG:GOk tG g)(hN:GNo g)(I:SI Y B1 ρ σ H1)(rI' :rI B1 H1 J ts)(hl:ts.length<=bnd)(ev:zG g ft fe ts (Jb k js ρ)=r)(hD:H1 D=none){F:Hp->Prop}
  (hF:CEnd r (λvs=>∀H' xs B',zt H1 H' ->H' D=some (.lst xs)->zB B' xs vs->zt B' (zH B1 H1 H')->B' D=none->zt B1 B' ->F H') λc=>∀d H',zt H1 H' ->zt B1 H' ->E0 (Y.cl c) d H'):
  ∃W,(∃m,W 0 m [] (JK k js σ) (upd H1 D (.lst [])))/\UH J D tG (λσ H Q=>∃Y' ρ',Y'.cl=Y.cl/\tS Y' rE ft ρ' σ H Q) (λσ H Q=>∃Y' ρ',Y'.cl=Y.cl/\Y'.E=E0/\tS Y' rC fe ρ' σ H Q) (λ_ H' =>F H') W:=by
 refine⟨λi m ys σ' H' =>m=ts.length - i/\i<=ts.length/\ys.length<=i/\H' D=some (.lst ys)/\∃ρ' B' us,SI ⟨B1,H1,E0,Y.cl,[]⟩ B' ρ' σ' H' /\xa ρ' /\zt B1 B' /\B' D=none/\zB B' ys us/\((zG g ft fe (ts.drop i) ρ').bind λws=> .ok (us++ws))=r,
  ⟨ts.length,by simp,bg _,bg _,zw,_,B1,[],I.block (H3:=H1) k js _ hD _,uD k js ρ,zt.refl _,I.sB.free hD,.nil,by rw[eV,ev];cases r <;> rfl⟩, ?_⟩
 rintro i m ys σ' H' ⟨rfl,hi,hyl,hDl,ρ',B',us,I',no',s1',bD,r',ew⟩
 refine⟨hDl, ?_⟩;obtain⟨hgo,hyld,hstop⟩:=rI' B' H' s1' I'.sB;have tD:∀H2,zt H' H2->zH B' H' H2 D=none:=λH2 s=>by rw[Z1 hDl];exact bD
 by_cases hlt:i < ts.length
 ·refine .inr ⟨hgo i hlt,λx H2 y=> ?_⟩;obtain⟨s2,r2⟩:=hyld i _ x H2 (aj hlt) y;rw[cM hlt]at ew;unfold zG at ew;have I2:=I'.grow s2;refine hG _ _ ρ' σ' H2 x _ _ I2 r2 ?_;cases eg:g ts[i] ρ' with
  | bad=>rw[eg]at ew;subst ew;exact hF
  | ex c=>exact(hN.2 _ _ _ eg).elim
  | ok ρ1=>
   rw[eg]at ew;have no1:=hN.1 _ _ _ no' eg;intro σ1 J1;refine⟨⟨B1,H1,E0,Y.cl,[]⟩,ρ1,rfl,_,J1, ?_⟩;have ew1:((ft ρ1).bind (λk=>if k=true then (fe ρ1).bind λv=>(zG g ft fe (ts.drop (i+1)) ρ1).bind λvs=> .ok (v :: vs) else zG g ft fe (ts.drop _) ρ1)).bind (λws=> .ok _)=r:=ew
   cases ef:ft ρ1 with
   | bad=>rw[ef]at ew1;subst ew1;exact hF
   | ex c=>
    rw[ef]at ew1;subst ew1;exact λd H' a b=>hF d H' a ((s1'.trans (zH.ge I'.sB s2)).trans b)
   | ok kk=>
    rw[ef]at ew1;intro b H3 s3 eb;have eb' :=eb;subst eb';have ew2:=ew1;have J2:=J1.grow s3;have hD3:H3 D=some _:=s3 _ _ (s2 _ _ hDl);have bD3:zH (zH B' H' H2) H2 H3 D=none:=by rw[Z1 (s2 _ _ hDl)];exact tD H2 s2
    have sB3:=(zH.ge I'.sB s2).trans (zH.ge I2.sB s3);cases b with
    | false=>exact⟨ts.length - (i+1),by omega,rfl,hlt,by omega,hD3,ρ1,_,us,J2,no1,s1'.trans sB3,bD3,r'.mono sB3,ew2⟩
    | true=>
     refine⟨⟨B1,H1,E0,Y.cl,[]⟩,ρ1,rfl,rfl,_,J2, ?_⟩;have ew3:=ew2;cases ee:fe ρ1 with
     | bad=>rw[ee]at ew3;subst ew3;exact hF
     | ex c=>
      rw[ee]at ew3;subst ew3;exact λd H' a b=>hF d H' a ((s1'.trans sB3).trans b)
     | ok v=>
      rw[ee]at ew3;have ew4:=ew3;have ew5:(zG g ft fe (ts.drop (i+1)) ρ1).bind (λws=> .ok ((us++[v])++ws))=r:=by
       rw[← ew4];cases zG g ft fe _ ρ1 with
       | ok ws=>show R.ok _=R.ok _;rw[bf];rfl
       | _=>rfl
      intro w H4 s4 rw4;have hD4:=s4 _ _ hD3;have J3:=J2.grow s4;have bD4:zH (zH (zH B' H' H2) H2 H3) H3 H4 D=none:=by rw[Z1 hD3];exact bD3
      have sB4:=sB3.trans (zH.ge J2.sB s4);refine⟨hD4,aG (bB hyl hlt) (Zg hl),ts.length - (i+1),by omega,rfl,hlt,by rw[aA,aK];omega,zw,ρ1,_,us++[v], ?_,no1,s1'.trans sB4,bD4,(r'.mono sB4).append (.cons rw4 .nil),ew5⟩
      exact J3.acc bD4 hD (λj ts' e=>((no1 j _ e).1 ts' rfl).elim) (λj x e=>(no1 j x e).2) _
 ·have e:i=ts.length:=by omega
  subst e;refine .inl ⟨hstop _ (ai _), ?_⟩;rw[dW]at ew;have ew' :R.ok _=r:=ew;rw[aW]at ew';subst ew';refine hF H' ys B' I'.sH hDl r' (λb o h=> ?_) bD s1';cases q:H1 b with
  | none=>rw[zW q];exact I'.sB b o h
  | some u=>
   rw[Z1 q];have z:B' b=B1 b:=I'.old b u q;rw[← z];exact h
theorem Ju {J:It}(hG:GOk tG g)(hN:GNo g)(I:SI Y B1 ρ σ H1)(rI' :rI B1 H1 J ts)(hl:ts.length<=bnd)(ev:zG g ft fe ts (Jb k js ρ)= .ok vs)(hD:H1 D=none){F:Hp->Prop}
  (hF:∀H' xs B',zt H1 H' ->H' D=some (.lst xs)->zB B' xs vs->zt B' (zH B1 H1 H')->B' D=none->zt B1 B' ->F H'):
  ∃W,(∃m,W 0 m [] (JK k js σ) (upd H1 D (.lst [])))/\UH J D tG (λσ H Q=>∃Y' ρ',Y'.cl=Y.cl/\tS Y' rE ft ρ' σ H Q) (λσ H Q=>∃Y' ρ',Y'.cl=Y.cl/\(Y'.E=λ_ _ _=>False)/\tS Y' rC fe ρ' σ H Q) (λ_ H' =>F H') W:=UI hG hN I rI' hl ev hD hF
structure w8 (X:Cx) (Y:Fx) (tg iter elt:Expr) (ifs:List Expr) (scope:Scope) (N' :List Str) (k:Nat) (js:List Nat) (fi:En->R (List T)) (tG:TG) (g:T->En->R En) (ft:En->R Bool) (fe:En->R T):Prop where
 sc:CSc X scope
 cp:XF X scope N' k js
 cm:X.calm=true
 it:W4 X Y tg iter fi
 gt:vM X scope N' λXC=>PG XC tg tG
 gk:GOk tG g
 gn:GNo g
 tt:∀Y',Y'.cl=Y.cl->vM X scope N' λXC=>Jc XC Y' ifs ft
 el:∀Y',Y'.cl=Y.cl->K0 X scope N' Y'.E λXC=>Snd XC Y' elt fe
 hs:∀x,foldedSetIterable iter X.env x=pure x
theorem vN (C:w8 X Y tg iter elt ifs scope N' k js fi tG g ft fe):Snd X Y (.ListComp elt [⟨tg,iter,ifs,0⟩] scope pos) (Z6 fi g ft fe k js):= .mk λρ=>by
 intro pins s σ H Q I ⟨B,J,q⟩;refine wB (jO rfl) (F:=λD H' =>Q (.ref D) H') (te:=λσ H Q=>∃Y' ρ',Y'.cl=Y.cl/\(Y'.E=λ_ _ _=>False)/\tS Y' rC fe ρ' σ H Q) (tt:=λσ H Q=>∃Y' ρ',Y'.cl=Y.cl/\tS Y' rE ft ρ' σ H Q) C.sc C.cp C.cm (C.it ρ) C.gt
  (λcl Cx' s3 H3 fp pins pins' s σ H Q I ⟨Y',ρ',ey,q⟩=>C.tt Y' ey cl Cx' s3 H3 fp _ ρ' _ s σ H Q I q) (λcl Cx' s3 H3 fp pins xe hp pins' s σ H Q I ⟨Y',ρ',ey,eE,q⟩=>C.el Y' ey cl Cx' s3 H3 fp _ xe (eE ▸ hp) ρ' _ s σ H Q I q) I ?_ ?_ C.hs
 ·refine step J q λts it' H1 _ s1 r1 J1 q1=> ?_;intro D hD;unfold zD at q1;split at q1
  ·rename_i hl;cases ev:zG g ft fe ts _ with
   | bad=>rw[ev]at q1;exact q1.elim
   | ex c=>rw[ev]at q1;exact q1.elim
   | ok vs=>
    rw[ev]at q1;refine Ju C.gk C.gn J1 r1 hl ev hD λH' xs B' s' e' r' l' b' sb' => ?_;refine(show Po Y rC _ H1 _ Q from q1) _ H' s' ?_;exact .lst (by rw[zW hD];exact e') (r'.mono l')
  ·exact q1.elim
 ·intro D Cc H' s' I' q' hC h0 hL hcell hpin hns;obtain⟨m,hm⟩:=hns;refine⟨m,hm,λh' hsb=>⟨.ref D,H', ?_,rfl,q'⟩⟩;exact I'.turned (λb o hb e=>hsb.extBut b o hb e) hC (aX hL).symm (.inr h0) hcell hpin
end
section
variable {js:List Nat}{g:T->En->R En}
theorem K3 (C:w8 X Y tg iter elt ifs scope N' k js fi tG g ft fe)(hN:X.N.Nodup)(hi:X.N[i]? =some x)(hx:L2.Loc X.env.scope x)
  (hsw:swapsWith (.ListComp elt [⟨tg,iter,ifs,0⟩] scope pc) (some (.Name x p')) pos.line X.env=pure true) (hf:X.fn x=true\/X.env.scope.names.lookup x=some .local:=by first | exact .inl rfl | exact .inr rfl | assumption):
  jA X Y (.Assign [.Name x p'] (.ListComp elt [⟨tg,iter,ifs,0⟩] scope pc) pos) (zV i (Z6 fi g ft fe k js)):= .mk λρ=>by
 intro pins s σ H D I ⟨B,J,q⟩;rw[exec_Assign_Name_used _ _ _ _ hsw];refine a7 (wpAny_standAt (a7 ?_));refine a7 (thn (wB (jO rfl) (F:=λD' H' =>D.nx (σ.set i (some (.ref D'))) H') (te:=λσ H Q=>∃Y' ρ',Y'.cl=Y.cl/\(Y'.E=λ_ _ _=>False)/\tS Y' rC fe ρ' σ H Q) (tt:=λσ H Q=>∃Y' ρ',Y'.cl=Y.cl/\tS Y' rE ft ρ' σ H Q) C.sc C.cp C.cm (C.it ρ) C.gt
  (λcl Cx' s3 H3 fp pins pins' s σ H Q I ⟨Y',ρ',ey,q⟩=>C.tt Y' ey cl Cx' s3 H3 fp _ ρ' _ s σ H Q I q) (λcl Cx' s3 H3 fp pins xe hp pins' s σ H Q I ⟨Y',ρ',ey,eE,q⟩=>C.el Y' ey cl Cx' s3 H3 fp _ xe (eE ▸ hp) ρ' _ s σ H Q I q) I ?_ ?_ C.hs) λ_ s' hq=>ax (ax hq))
 ·have q' :PoS Y B (((fi ρ).s λts=>(zD g ft fe k js ρ ts).s λvs=> .nx (ρ.set i (.vl (.lst vs))))) D:=by
   unfold zV Z6 at q;revert q;cases fi ρ with
   | bad=>exact λq=>q
   | ex c=>exact λq=>q
   | ok ts=>
    intro q;have q2:PoS Y B (((zD g ft fe k js ρ ts).bind λvs=>R.ok _).s λt=>RS.nx _) D:=q;show PoS Y B ((zD g ft fe k js ρ ts).s λvs=>RS.nx _) D;revert q2;cases zD g ft fe k js ρ ts with
    | bad=>exact λq=>q
    | ex c=>exact λq=>q
    | ok vs=>exact λq=>q
  refine ZZ J q' λts it' H1 _ s1 r1 J1 q1=> ?_;intro D' hD;unfold zD at q1;split at q1
  ·rename_i hl;cases ev:zG g ft fe ts _ with
   | bad=>rw[ev]at q1;exact q1.elim
   | ex c=>rw[ev]at q1;exact q1.elim
   | ok vs=>
    rw[ev]at q1;refine Ju C.gk C.gn J1 r1 hl ev hD λH' xs B' s' e' r' l' b' sb' => ?_;have rr:Rep _ _ _:= .lst (by rw[zW hD];exact e') (r'.mono l')
    exact q1 _ _ _ (zH.ge J1.sB s') ((J1.grow s').setV i rr)
  ·exact q1.elim
 ·intro D' Cc H' s' I' q' hC h0 hL hcell hpin hns;obtain⟨m,hm⟩:=hns;refine wpAny_assign_Name (W5 (v:= .ref D') I' hN hi hx rfl (λs'' I'' ⟨a,hsb,ha⟩=> ?_) hf);have hne:Cc ≠ a:=by
   rcases ha with rfl | ha
   ·exact hL
   ·exact(hcell x a ha).symm
  refine⟨m,hm.sameBut hsb hne,λh' hsb' =>⟨_,H', ?_,q'⟩⟩;exact I''.turned (λb o hb e=>hsb'.extBut b o hb e) hC hL (.inr h0) hcell hpin
end
noncomputable def Itc (x:Str):It:=⟨λi _=>i < x.cps.size,λi H v H' =>H' =H/\∃c,x.cps[i]? =some c/\v= .str ⟨#[c]⟩,λi _=>x.cps.size<=i⟩
theorem wa {P:Program}{w:World}{K:a9}{tg:Expr}{x:Str}{t:Tok}{ty:String}(it:Addr)(hty:ty="str_ascii_iterator"\/ty="str_iterator"):Uj P w K tg (Itc x) [it] it (λi h=>h.IsStrIter it ty x t i):=by
 have W:∀A:Around,A.handled=none->Walks P w A it [it] [it] x.cps.size (SignAt x) (λi h=>h.IsStrIter it ty x t i):=λA hA=>by
  rcases hty with rfl | rfl
  ·exact Walks.strAscii hA it x t
  ·exact Walks.strWide hA it x t
 have hn:["enumerate","zip","dict_itemiterator","dict_reverseitemiterator","odict_iterator","itertools.zip_longest","itertools.pairwise"].contains ty=false:=by rcases hty with rfl | rfl <;> decide
 refine⟨by simp,λi h st b hb=> ?_,λi h h' st k=> ?_, ?_, ?_,λA i s Q E st h=> ?_⟩
 ·have e:b=it:=by simpa using hb
  subst e;obtain⟨o,e,c,d⟩:=st;exact⟨o,e,λv z=>by rw[d]at z;cases z⟩
 ·obtain⟨o,e,r⟩:=st;exact⟨o,k it (by simp) o e,r⟩
 ·intro X hP hw hK hc i pins s σ H E I hf st hg;obtain⟨f0,f1,f2,f3,f4,f5⟩:=hf it (by simp)
  refine(W X.A (I.ok.hd hc)).item i s _ _ hg st λv h' tk hv st' kk=> ?_;obtain⟨c,u,hc',rfl⟩:=hv;have I1:L2.Inv X _ σ H { s with heap:=h',toks:=tk }:=I.turned (λb o hb e=>kk b o (by simpa using hb) e) f0 f1 f3 f4 f5
  obtain⟨o,e,cl,d⟩:=id st';exact⟨_,rfl,Uk e cl d hn ⟨.str _,H,I1,⟨u,rfl⟩,⟨rfl,c,hc',rfl⟩,st',λb hb=>(hf b hb).1⟩⟩
 ·intro X hP hw hK hc i pins s σ H E I hf st hg;obtain⟨f0,f1,f2,f3,f4,f5⟩:=hf it (by simp)
  have hx:=cj hg;rcases hty with rfl | rfl
  ·exact wpAny_pyNext_ascii_end (I.ok.hd hc) st hx λh' eb=>⟨rfl,I.turned (λb o hb e=>eb b o hb e) f0 f1 f3 f4 f5⟩
  ·exact wpAny_pyNext_wide_end (I.ok.hd hc) st hx λh' eb=>⟨rfl,I.turned (λb o hb e=>eb b o hb e) f0 f1 f3 f4 f5⟩
 ·rcases hty with rfl | rfl
  ·exact wpAny_pyIter_striter_ascii st h
  ·exact wpAny_pyIter_striter_wide st h
noncomputable def Jv (x:Str):List T:=x.cps.toList.map λc=>T.str ⟨#[c]⟩
theorem Qz:rI B1 H1 (Itc x) (Jv x):=λB2 H2 s1 s2=>by
 have hl:(Jv x).length=x.cps.size:=by unfold Jv;simp
 refine⟨λi hi=>by rw[hl]at hi;exact hi,λi t v H3 e y=> ?_,λi hi=>by rw[hl]at hi;exact hi⟩
 obtain⟨rfl,c,hc,rfl⟩:=y;refine⟨zt.refl _, ?_⟩;unfold Jv at e;rw[ak]at e;have hc' :x.cps.toList[i]? =some c:=by simpa using hc
 rw[hc']at e;cases e;exact .str _
section
theorem K4 {l:Expr}{tl:TE}(hl:PE X l tl):PI X tg l (λσ H R=>tl σ H λx H1=>(∃a,x= .ref a/\(((∃xs,SqL X.K H1 a xs)/\R (Itl X.K a) H1)\/((∃xs,SqT X.K H1 a xs)/\R (Itt X.K a) H1)))\/(∃z,x= .str z/\R (Itc z) H1)):=by
 intro pins s σ H R I h;refine thn (hl _ s σ H _ I h) λv s1 ⟨x,H1,I1,r1,q1⟩=> ?_;have ok:∀b∈[s1.heap.objs.size],JS X _ H1 b:=λb hb=>by
  have e:=by simpa using hb
  subst e;exact I1.fpOk (ai _) (I1.hok.fresh (ai _))
 rcases q1 with ⟨a,e,q⟩ | ⟨z,e,q⟩
 ·subst e;obtain rfl:v=Value.ref a:=r1;rcases q with ⟨⟨xs,hq⟩,q⟩ | ⟨⟨xs,hq⟩,q⟩
  ·obtain⟨its,rv,p,hz⟩:=I1.list hq;exact wpAny_pyIter_list p.isList ⟨s1.heap.objs.size,[s1.heap.objs.size],_,_,H1,rfl,I1.kept λb o e=>aa _ e,yq a _,⟨_,ag _ rfl,rfl,rfl⟩,ok,q⟩
  ·obtain⟨its,rv,p,hz⟩:=I1.tuple hq;exact wpAny_pyIter_tuple (show s1.heap.IsTuple a _ from p) ⟨s1.heap.objs.size,[s1.heap.objs.size],_,_,H1,rfl,I1.kept λb o e=>aa _ e,Ul a _,⟨_,ag _ rfl,rfl,rfl⟩,ok,q⟩
 ·subst e;obtain⟨t,rfl⟩:=r1;cases ha:z.cps.all _
  ·exact wpAny_pyIter_wide ha ⟨s1.heap.objs.size,[s1.heap.objs.size],_,_,H1,rfl,I1.kept λb o e=>aa _ e,wa _ (.inr rfl),⟨_,ag _ rfl,rfl,rfl⟩,ok,q⟩
  ·exact wpAny_pyIter_ascii ha ⟨s1.heap.objs.size,[s1.heap.objs.size],_,_,H1,rfl,I1.kept λb o e=>aa _ e,wa _ (.inl rfl),⟨_,ag _ rfl,rfl,rfl⟩,ok,q⟩
def jZ:T->R (List T)
 | .lst xs=> .ok xs
 | .tup xs=> .ok xs
 | .str x=> .ok (Jv x)
 | _=> .bad
def jc (fa:En->R T):En->R (List T):=λρ=>(fa ρ).bind jZ
theorem z0K (ha:Snd X Y a fa):W4 X Y tg a (jc fa):= .mk λρ=>PI.imp (K4 (ha ρ)) λσ H R ⟨B,I,q⟩=>step I q λt v H1 _ s1 r1 I1 q1=>by
 cases r1 with
 | @tup l xs ts h r=>
  exact .inl ⟨l,rfl,.inr ⟨⟨xs,SqT.of (I1.sB _ _ h)⟩,ZB I1 (show Po Y rI _ H1 _ R from q1) (kT h r)⟩⟩
 | @lst l xs ts h r=>
  exact .inl ⟨l,rfl,.inl ⟨⟨xs,SqL.of (I1.sB _ _ h)⟩,ZB I1 (show Po Y rI _ H1 _ R from q1) (kU h r)⟩⟩
 | str z=>exact .inr ⟨z,rfl,ZB I1 (show Po Y rI _ H1 _ R from q1) Qz⟩
 | _=>exact q1.elim
end
theorem Inv.laidT {X:Cx}{pins:List (Addr×Obj)}{σ:Sg}{H:Hp}{s:Shared}{h' :Heap}{tk:Nat}{ch:List Addr}{a:Addr}{xs:List V}(I:L2.Inv X pins σ H s)(hf:∀b∈ch,JS X pins H b)(k:∀b o,b ∉ ch->s.heap.get? b=some o->h'.get? b=some o)
  (th:∀b o,b∈ch->s.heap.get? b=some o->∃o',h'.get? b=some o') (ha:s.heap.objs.size<=a) (new:Zc X.prog X.w (upd H a (.tup xs)) h' a (.tup xs)):L2.Inv X pins σ (upd H a (.tup xs)) { s with heap:=h',toks:=tk }:=by
 have hn:=I.hok.fresh ha;have nch:∀b u,H b=some u->b ∉ ch:=λb u e hb=>by rw[(hf b hb).1]at e;cases e
 refine I.call' rfl ⟨λb o e n _ hc=>k b o hc e,λb o e n _ hc=>⟨o.slots,k b o hc e⟩,λb o e n _=>by rw[zu (aE (aG (ao e) ha))];exact n,λb o e hc=>⟨o,k b o hc e⟩,
  λb ys e=>by rw[zu (zJ e hn)];exact e,λb o u e=>by rw[zu (zJ e hn)];exact e,λb ps q e=>by rw[zu (zJ e hn)];exact e⟩ (λb u e=> ?_) I.bare λb hb=> ?_
 ·by_cases hb:b=a
  ·subst hb;rw[zw]at e;cases e;exact new
  ·rw[zu hb]at e;refine(I.hok b u e).stay (λc v hc q=> ?_) (λc q=>by rw[zu (zJ q hn)];exact q) (λc ys q=>by rw[zu (zJ q hn)];exact q) λc o u q=>by rw[zu (zJ q hn)];exact q
   rcases hc with rfl | hc
   ·exact k c v (nch c u e) q
   ·exact k c v (nch c _ hc) q
 ·obtain⟨f0,f1,f2,f3,f4,f5⟩:=hf b hb;exact⟨f3,f1,f4,f5⟩
def Ite (K:a9)(l:Addr):It:=
 ⟨λi H=>∃xs x,SqL K H l xs/\xs[i]? =some x,λi H v H' =>∃p x,H p=none/\v= .ref p/\(∀xs,SqL K H l xs->xs[i]? =some x)/\H' =upd H p (.tup [.int i,x]),λi H=>∃xs,SqL K H l xs/\xs.length<=i⟩
theorem Y4 {P:Program}{w:World}{K:a9}{elts:List Expr}{kk:Nat}{pt:Pos}(e it l:Addr)(hei:e ≠ it)(hle:l ≠ e)(hli:l ≠ it):
  Uj P w K (.Tuple elts kk pt) (Ite K l) [e,it] e (λi h=>(∃old,IsEnum h e it i old)/\h.IsListIter it l i) where
 mem:=by simp
 obj:=λi h st b hb=>by
  obtain⟨⟨old,he⟩,o,e1,c,d⟩:=st;rcases ah.mp hb with rfl | hb
  ·exact⟨_,he,λv z=>nomatch z⟩
  ·have z:b=it:=by simpa using hb
   subst z;exact⟨o,e1,λv z=>by rw[d]at z;cases z⟩
 keep:=λi h h' st k=>by
  obtain⟨⟨old,he⟩,hit⟩:=st;exact⟨⟨old,k e (by simp) _ he⟩,hit.at λo x=>k it (by simp) o x⟩
 item:=by
  intro X hP hw hK hc i pins s σ H E I hf st hg;subst hP hw hK;obtain⟨xs,x,hq,hx⟩:=hg;obtain⟨its,rv,p,hz⟩:=I.list hq;obtain⟨u,hu,ru⟩:=rv.get hx;obtain⟨⟨old,he⟩,hit⟩:=st;have hi:i < its.toArray.size:=by
   have:=(am.mp hu).1;simpa using this
  refine(fW (prog:=X.prog) (w:=X.w) (I.ok.hd hc) e it l hei hle hli its.toArray).item i s _ _ hi ⟨⟨old,he⟩,hit,p.isList⟩ λT vals h' tk hP hT hTup hM hk=> ?_;obtain⟨t,y,hy,rfl⟩:=hP;have hyu:y=u:=by
   have:its[i]? =some y:=by simpa using hy
   rw[hu]at this;exact(aq this).symm
  subst hyu;refine⟨.ref T,rfl, ?_⟩;refine(fW (prog:=X.prog) (w:=X.w) (I.ok.hd hc) e it l hei hle hli its.toArray).go elts kk pt i T _ _ _ hM λh2 hst2 hk2=> ?_;have hTn:H T=none:=I.hok.fresh hT;have hTne:∀b∈[e,it],b ≠ T:=λb hb z=>by
   obtain⟨_,_,_,h3,h4⟩:=hM;rcases ah.mp hb with rfl | hb
   ·exact h3 z.symm
   ·have:b=it:=by simpa using hb
    subst this;exact h4 z.symm
  have Q9:IsTup h2 T #[.int i t,y]:=by
   obtain⟨o,eo,r⟩:=hTup;exact⟨o,hk2 T o (λhb=>hTne T hb rfl) eo,r⟩
  refine⟨.ref T,upd H T (.tup [.int i,x]),Inv.laidT (s:=s) (h' :=h2) (ch:=[e,it]) (tk:=tk) I hf (λb o hb e=>hk2 b o hb (hk b o hb e)) (λb o hb _=> ?_) hT ⟨by rw[bU];show 2<=16777216;decide,[.int i t,y],.cons ⟨t,rfl⟩ (.cons ru .nil),Q9,.inl ⟨_,_,rfl⟩⟩,rfl,⟨T,x,hTn,rfl,λys hy=>by rw[I.list_inj hy hq];exact hx,rfl⟩,⟨hst2.1,hst2.2.1⟩,λb hb=> ?_⟩
  ·obtain⟨⟨old2,he2⟩,⟨o2,eo2,_⟩,_⟩:=hst2;rcases ah.mp hb with rfl | hb
   ·exact⟨_,he2⟩
   ·have:b=it:=by simpa using hb
    subst this;exact⟨o2,eo2⟩
  ·rw[zu (hTne b hb)];exact(hf b hb).1
 done:=by
  intro X hP hw hK hc i pins s σ H E I hf st hg;subst hP hw hK;obtain⟨xs,hq,hx⟩:=hg;obtain⟨its,rv,p,hz⟩:=I.list hq;obtain⟨⟨old,he⟩,hit⟩:=st;have hl:=rv.length;refine wpAny_pyNext_enum_end (I.ok.hd hc) he hit p.isList (cj (by simp;omega)) λh' hk=>⟨rfl, ?_⟩
  obtain⟨f0,f1,f2,f3,f4,f5⟩:=hf it (by simp)
  exact I.turned (t' :=s.toks) (λb o hb e=>hk b o hb e) f0 f1 f3 f4 f5
 self:=λ_ _ _ _ _ st h=>let ⟨⟨_,he⟩,_⟩:=st;wpAny_pyIter_enum he h
noncomputable def jC (xs:List T):List T:=(xs.zipIdx).map λp=>T.tup [.int (p.2:Nat),p.1]
theorem Wp {xs:List T}{i:Nat}{t:T}(h:(jC xs)[i]? =some t):∃x,xs[i]? =some x/\t= .tup [.int (i:Nat),x]:=by
 unfold jC at h;rw[ak,List.getElem?_zipIdx]at h;cases e:xs[i]? with
 | none=>rw[e]at h;cases h
 | some x=>rw[e]at h;cases h;exact⟨x,rfl,by simp⟩
theorem J0 (xs:List T):(jC xs).length=xs.length:=by unfold jC;simp
theorem xb {K:a9}{B1 H1:Hp}{a:Addr}{xs:List V}{ts:List T}(h:B1 a=some (.lst xs))(r:zB B1 xs ts):rI B1 H1 (Ite K a) (jC ts):=λB2 H2 s1 s2=>by
 have h2:=s2 _ _ (s1 _ _ h);rw[J0];refine⟨λi hi=> ?_,λi t x H3 e y=> ?_,λi hi=>⟨xs,SqL.of h2,by rw[r.length];exact hi⟩⟩
 ·obtain⟨v,e,_⟩:=r.get (aj hi);exact⟨xs,v,SqL.of h2,e⟩
 ·obtain⟨p,v,hp,rfl,y,rfl⟩:=y;obtain⟨t',et,rfl⟩:=Wp e;obtain⟨v',e1,r1⟩:=r.get et;have:=y xs (SqL.of h2);rw[e1]at this;cases this;refine⟨zt.new hp _,.tup (jm hp _) (.cons (.int _) (.cons ?_ .nil))⟩;exact(r1.mono s1).mono (zH.ge s2 (zt.new hp _))
section
variable {X:Cx}{Y:Fx}{a:Expr}{fa:En->R T}{pos p pt:Pos}{elts:List Expr}{kk:Nat}
theorem xf {ta:TA}(hg:Gl X "enumerate")(hm:X.mg "enumerate"=none)(ha:PA X [a] ta)(hs:St1 X a:=by exact st1 rfl):
  PI X (.Tuple elts kk pt) (.Call (.Name "enumerate" p) [a] [] pos) (λσ H R=>ta σ H λvs H1=>∃l xs,vs=[.ref l]/\H1 l=some (.lst xs)/\R (Ite X.K l) H1):=by
 intro pins s σ H R I h;refine Call_ (ZW I hg hm PyProof.Rows.Boot.«enumerate» (aS (thn (ha pos _ s σ H _ I h) λus s1 ⟨vs,H1,I1,r1,q1⟩=> ?_) hs rfl));obtain⟨l,xs,e,hl,q⟩:=q1;subst e;obtain⟨u,rfl,ru⟩:=ZK r1;obtain rfl:u=Value.ref l:=ru;obtain⟨_,its,n,rv,eo⟩:=(show Zc _ X.w H1 _ l _ from I1.hok l _ hl);have hlt:=ao eo;refine call_enumerate_1 eo λh' he hit hsz hk=>wpAny_pyIter_enum he ?_;have f:∀b∈[s1.heap.objs.size+1,s1.heap.objs.size],JS X _ H1 b:=λb hb=>by
  rcases ah.mp hb with rfl | hb
  ·exact I1.fpOk (dH _) (I1.hok.fresh (dH _))
  ·have z:=by simpa using hb
   subst z;exact I1.fpOk (ai _) (I1.hok.fresh (ai _))
 exact⟨s1.heap.objs.size+1,[s1.heap.objs.size+1,s1.heap.objs.size],_,_,H1,rfl,I1.kept hk,Y4 _ _ l (fX _) (aE (bJ hlt)) (aE hlt),⟨⟨_,he⟩,hit⟩,f,q⟩
def xg (fa:En->R T):En->R (List T):=λρ=>(fa ρ).bind λt=>match t with
 | .lst xs=> .ok (jC xs)
 | _=> .bad
theorem K5 (hg:Gl X "enumerate")(hm:X.mg "enumerate"=none)(ha:Snd X Y a fa)(hs:St1 X a:=by exact st1 rfl):W4 X Y (.Tuple elts kk pt) (.Call (.Name "enumerate" p) [a] [] pos) (xg fa):= .mk λρ=>
 PI.imp (xf hg hm (zx (ha ρ) zM hs) hs) λσ H R ⟨B,I,q⟩=>step I q λt v H1 _ s1 r1 I1 q1=>by
  cases r1 with
  | @lst l xs ts h r=>exact⟨l,xs,rfl,I1.sB _ _ h,ZB I1 (show Po Y rI _ H1 _ R from q1) (xb h r)⟩
  | _=>exact q1.elim
noncomputable def yh:List T->Option (List Str)
 | []=>some []
 | .str x :: r=>match yh r with | some ys=>some (x :: ys) | none=>none
 | _ :: _=>none
def K6 (sep:Str):T->R T
 | .lst ts=>match yh ts with
  | some ys=>if (ys.map (·.length)).sum+ys.length*sep.length<=16777216 then .ok (.str (Txt.join sep ys)) else .bad
  | none=> .bad
 | _=> .bad
theorem wD {H:Hp}:∀{xs:List V} {ts:List T} {its:List Value} {ys:List Str},zB H xs ts->zR xs its->yh ts=some ys->StrsAre its ys
 | _,_,_,ys,.nil,.nil,h=>by
  have h' :=h;cases h';exact .nil
 | _,_,_,ys,.cons r rs,.cons rv vs,h=>by
  cases r with
  | str x=>
   unfold yh at h;split at h
   ·rename_i zs e;cases h;obtain⟨tk,rfl⟩:=rv;exact .cons x tk (wD rs vs e)
   ·cases h
  | _=>cases h
theorem xh:MtR X "str.join" (λx xs H Q=>∃z l zs ts ys,x= .str z/\xs=[.ref l]/\H l=some (.lst zs)/\zB H zs ts/\yh ts=some ys/\(ys.map (·.length)).sum+ys.length*z.length<=16777216/\Q (.str (Txt.join z ys)) H):=by
 intro pins s σ H x xs v us Q I rx rv h;obtain⟨z,l,zs,ts,ys,rfl,rfl,hl,r,e,hb,q⟩:=h;obtain⟨t,rfl⟩:=rx;obtain⟨u,rfl,ru⟩:=ZK rv;obtain rfl:u=Value.ref l:=ru;obtain⟨its,rv,p,_⟩:=zO I (.inl hl) r;exact join_list p (by simpa using wD r rv e) hb λt' k=>⟨.str _,H,I.tok k,⟨t',rfl⟩,q⟩
theorem K7 (ha:ji X Y a fa)(hb:attributeBase (.Constant (.str z) kc pz) "join" X.env (eval (.Constant (.str z) kc pz) X.env)=eval (.Constant (.str z) kc pz) X.env:=by rfl)(hs:St1 X a:=by exact st1 rfl)
  (hz:(pa.endLine == p.line)=true:=by rfl):Snd X Y (.Call (.Attribute (.Constant (.str z) kc pz) "join" pa) [a] [] p) (ap1 (K6 z) fa):= .mk λρ=>by
 have e1:(((((backTo p (starEach [a] X.env)).all λx=> !x.fst) && (backToKw p (keywordEach [] X.env)).all λx=>x.fst.isSome) && decide (([a].length+([]:List Keyword).length+if ([]:List Keyword).isEmpty=true then 0 else 1) < 30))=true):=by rw[hs];rfl
 refine PE.imp (UA PySem.F.plainAttrs_str PySem.F.slot_str_join PySem.F.type_str_join xh ym (zx (ha ρ) zM hs) hb e1 hz hs rfl) λσ H Q ⟨B,I,q⟩=> ?_;refine⟨rfl,step I q λt v H1 _ s1 r1 I1 q1=> ?_⟩;cases r1 with
 | @lst l xs ts h r=>
  have q1:Po Y rC _ H1 (match yh ts with | some ys=>if (ys.map _).sum+ys.length*z.length<=16777216 then .ok _ else .bad | none=> .bad) Q:=q1
  split at q1
  ·rename_i ys e;split at q1
   ·rename_i hl;exact⟨z,l,xs,ts,ys,rfl,rfl,h,r,e,hl,po0 I1.sB q1 rfl (.str _)⟩
   ·exact q1.elim
  ·exact q1.elim
 | _=>exact q1.elim
end
noncomputable def dd:List Str->List Str->List Str
 | acc,[]=>acc
 | acc,x :: r=>dd (if x∈acc then acc else acc++[x]) r
section
variable {prog:Program}{w:World}{A:Around}{R:Result->Shared->Prop}{I:Addr}{fp wr:List Addr}{n:Nat}{P:Nat->Value->Prop}{St:Nat->Heap->Prop}
theorem jd {h h' :Heap}{S:Addr}{f g:Str->Bool}{m k:Nat}(x:h.SetOf (strKind prog w) S f m)(e:∀o,h.get? S=some o->h'.get? S=some o)(ef:f=g)(em:m=k):h'.SetOf (strKind prog w) S g k:=by
 subst ef em;obtain⟨o,es,ep,t,ho,r⟩:=x;exact⟨o,es,ep,t,e o ho,r⟩
theorem QA (W:Walks prog w A.in1 I fp wr n P St)(S:Addr)(hSf:S ∉ fp)(val:Nat->Str)(hval:∀i v,P i v->∃t,v=Value.str (val i) t)(hb:n+1 < scanBound):
  ∀(k i:Nat) (acc:List Str) (s:Shared),n - i=k->i<=n->acc.length<=i->St i s.heap->s.heap.SetOf (strKind prog w) S (λx=>decide (x∈acc)) acc.length->
   (∀h' tk,(∀b o,b ∉ S :: wr->s.heap.get? b=some o->h'.get? b=some o)->h'.SetOf (strKind prog w) S (λx=>decide (x∈dd acc ((hU i k).map val))) (dd acc ((hU i k).map val)).length->
    R (.ok (.ret .none)) { s with heap:=h',toks:=tk })->codeAny (model prog w) A (.builtin "set.update.loop" ⟨[.ref S,.ref I],[]⟩) R s:=by
 intro k
 induction k with
 | zero=>
  intro i acc s hk hi hal hst hS hR;obtain rfl:i=n:=by omega
  refine cq dX ?_;refine a7 (W.done s _ _ hst λh' tk hk' =>ax ?_);exact hR h' tk (λb o hb e=>hk' b o (λz=>hb (a8 _ z)) e) (jd hS (λo e=>hk' S o (λz=>hSf (W.sub _ z)) e) rfl rfl)
 | succ k ih=>
  intro i acc s hk hi hal hst hS hR;refine cq dX ?_;refine a7 (W.item i s _ _ (by omega) hst λv h1 tk1 hP hst1 hk1=> ?_)
  obtain⟨t,rfl⟩:=hval i v hP;have hS1:=jd hS (λo e=>hk1 S o (λz=>hSf (W.sub _ z)) e) rfl rfl;refine a7 (m:=holding _ _) (bW ?_);unfold setAdd;have isk:(strKind prog w).is (val i) (.str (val i) t)=true:=strKind_is _ _ _ _;refine bW (a7 ((strKind _ w).pyHash isk ?_));refine wpAny_setAddHashed_of isk rfl hS1 (by omega) λh2 hsb hS2=> ?_
  have e2:(if decide (val i∈acc)=true then acc.length else acc.length+1)=(if val i∈acc then acc else acc++[val i]).length:=by
   by_cases hm:val i∈acc
   ·simp[hm]
   ·simp[hm]
  have e1:(λx=>decide (x∈acc) || decide (x=val i))=(λx=>decide (x∈(if val i∈acc then acc else acc++[val i]))):=by
   funext x
   by_cases hm:val i∈acc
   ·simp only[if_pos hm]
    by_cases hx:x=val i
    ·subst hx;simp[hm]
    ·simp[hx]
   ·simp[hm,Bool.decide_or]
  have hS3:=jd hS2 (λo e=>e) e1 e2;refine ax ⟨plainId_quiet F.plain_set_update_loop _,ih _ _ _ (by omega) (by omega) ?_ (W.frame _ h1 _ hst1 λb hb o e=> ?_) hS3 λh3 tk3 hk3 hS4=> ?_⟩
  ·split
   ·omega
   ·rw[aA,aK];omega
  ·exact(hsb.2 b (λz=>hSf (z ▸ hb))).trans e
  ·refine hR h3 tk3 (λb o hb e=>hk3 b o hb ?_) hS4;exact(hsb.2 b (λz=>hb (z ▸ ab))).trans (hk1 b o (λz=>hb (a8 _ z)) e)
end
section
set_option maxRecDepth 100000 in
set_option maxHeartbeats 3200000 in
theorem Y5 {l:Addr}{its:List Value}{ys:List Str}{Q:Value->Shared->Prop}(hh:A.handled=none)(hl:s.heap.IsList l its.toArray)(hi:StrsAre its ys)(hb:its.length+1 < scanBound)
  (h:∀(h' :Heap) (tk:Nat),h'.SetOf (strKind prog w) s.heap.objs.size (λx=>decide (x∈dd [] ys)) (dd [] ys).length->(∀b o,b < s.heap.objs.size->s.heap.get? b=some o->h'.get? b=some o)->
   Q (.ref s.heap.objs.size) { s with heap:=h',toks:=tk }):wpAny (model prog w) A (call (.type "set") [.ref l]) Q E s:=by
 have getv:∀{its:List Value} {ys:List Str},StrsAre its ys->its.length=ys.length/\∀(i:Nat) (v:Value),its[i]? =some v->∃t,v=Value.str (ys.getD i ⟨#[]⟩) t:=λ{its ys} hi=>by
  induction hi with
  | nil=>exact⟨rfl,λi v e=>by simp at e⟩
  | cons y t _ ih=>
   refine⟨by simp[ih.1],λi v e=> ?_⟩
   cases i with
   | zero=>exact⟨t,by simpa using e.symm⟩
   | succ i=>exact ih.2 i v (by simpa using e)
 obtain⟨hlen,hget⟩:=getv hi;have hys:(hU 0 its.length).map (λi=>ys.getD i ⟨#[]⟩)=ys:=by
  rw[hlen];refine d6 λi=> ?_;rw[ak]
  by_cases hi' :i < ys.length
  ·rw[List.getElem?_range' hi',aj hi'];simp[aj hi']
  ·rw[aR (by simp;omega),aR (by omega)]
   rfl
 obtain⟨c,tl,hmro⟩:=ck.mro;have hmade:=ck.made;have hsub:=ck.sub;have h1:=ck.notType;have h2:=ck.canCreate;have hct:=F.typeCall_set_1 (.ref l);refine wpAny_call (codeAny_of_tree (show wpAny _ _ (callAny (.type "set") _) _ _ _ from ?_));refine ax ⟨Code.quiet_builtin _ (by decide+kernel),cq F.entry_type_call ?_⟩
 rw[Around.under_plain (weight_type_call_type "set" [.ref l] []) rfl]
 repeat any_goals (first | assumption | wp_step)
 refine cg (code_set_new_1 (.ref l) (E:=E) (Q₁:=λobj s₁=>∃led:Bool,obj= .ref s.heap.objs.size/\s₁={ s with heap:=s.heap.push { cls:= .type "set",dict:=none,data:= .set #[] 0 (.fresh 0 0 led) } }) λled=>⟨led,rfl,rfl⟩) λr s₁ hr=> ?_;cases r with
 | error e=>exact hr
 | ok fl=>
  cases fl with
  | ret obj=>
   obtain⟨led,rfl,rfl⟩:=hr;generalize hG:s.heap.push { cls:= .type "set",dict:=none,data:= .set #[] 0 (.fresh 0 0 led) }=G;have hS:G.get? s.heap.objs.size=some { cls:= .type "set",dict:=none,data:= .set #[] 0 (.fresh 0 0 led) }:=by rw[← hG];exact ag _ rfl
   have hGs:G.objs.size=s.heap.objs.size+1:=by rw[← hG,bh]
   have hGk:∀b o,s.heap.get? b=some o->G.get? b=some o:=λb o e=>by rw[← hG];exact aa _ e
   have hT:Shared.TypeIs { s with heap:=G } (.ref s.heap.objs.size) "set":=⟨_,hS,rfl⟩;have hli:=ck.init.lookup;have hbi:=ck.init.bind (.ref s.heap.objs.size)
   repeat any_goals (first | assumption | wp_step)
   refine cg (codeAny_call_builtin (R:=wants (λr s₂=>r= .none/\∃h' tk,s₂={ s with heap:=h',toks:=tk }/\h'.SetOf (strKind prog w) s.heap.objs.size (λx=>decide (x∈dd [] ys)) (dd [] ys).length/\
     (∀b o,b < s.heap.objs.size->s.heap.get? b=some o->h'.get? b=some o)) E) ck.init.plain F.entry_set_init (check_set_init_1 hT ?_)) λr₂ s₂ hr₂=> ?_
   ·obtain⟨⟨ocls,odict,odata,oslots⟩,hol,hcl,nl,hdl⟩:=hl;simp only at hcl hdl;subst hcl;subst hdl;have hol' :=hGk _ _ hol;have hsls:=F.sub_list_set;have hslf:=F.sub_list_frozenset;have hne:(Value.type "list" == Value.type "dict")=false:=by decide
    have hl1:G.IsList l its.toArray:=⟨_,hol',rfl,nl,rfl⟩;have hlS:l < s.heap.objs.size:=ao hol;unfold Builtin.«set.__init__» noKeywords Builtin.Frozenset.updateFrom;generalize hPI:pyIter=PI
    wp_walk
    subst hPI;refine wpAny_pyIter_list hl1 (a7 (wpAny_runValue ?_));have hSf:s.heap.objs.size ∉ [G.objs.size,l]:=by
     rw[hGs];intro z;rcases ah.mp z with z | z
     ·exact absurd z (aE (bY _))
     ·exact absurd (aT.mp z) (cG hlS)
    refine QA (il (A:=A.in1.in1.in1) (by simp[hh]) G.objs.size l (by rw[hGs];exact aE (bJ hlS)) its.toArray) s.heap.objs.size hSf (λi=>ys.getD i ⟨#[]⟩) (λi v e=>hget i v (by simpa using e)) (by simpa using hb) its.length 0 [] _ (by simp) (bg _) (ai _)
     ⟨⟨_,ag _ rfl,rfl,rfl⟩,hl1.push _⟩ ?_ ?_
    ·have hget' :(G.push { cls:= .type "list_iterator",data:= .fields #[.ref l,.int 0 0] }).get? s.heap.objs.size=some { cls:= .type "set",dict:=none,data:= .set #[] 0 (.fresh 0 0 led) }:=aa _ hS;exact jd ((PyProof.Rows.setObjOf_fresh (knd:=strKind prog w) led).setOf hget' (by unfold scanBound;omega)) (λo e=>e) (by funext x;simp) rfl
    ·intro h' tk' hm hS';rw[hys]at hS';refine ax (show wpAny _ _ (ret Value.none) _ _ _ from ax ⟨rfl,h',tk',rfl,hS',λb o hb e=> ?_⟩);refine hm b o (λz=> ?_) (aa _ (hGk b o e));rcases ah.mp z with z | z
     ·exact absurd z (aE hb)
     ·have z' :b=G.objs.size:=aT.mp z;rw[hGs]at z';exact absurd z' (aE (bJ hb))
   ·cases r₂ with
    | error e=>exact hr₂
    | ok fl₂=>
     cases fl₂ with
     | ret r=>
      obtain⟨rfl,h',tk,rfl,hS',hk'⟩:=hr₂
      repeat any_goals (first | assumption | wp_step)
      exact h _ _ hS' hk'
     | _=>exact hr₂.elim
  | _=>exact hr.elim
end
section
theorem Y6 (hh:X.A.handled=none):Zo X (.type "set") (λvs H Q=>∃l xs ts ys,vs=[.ref l]/\H l=some (.lst xs)/\zB H xs ts/\yh ts=some ys/\ts.length+1 < 4096/\
  ∀q,H q=none->Q (.ref q) (upd H q (.ext λh=>h.SetOf (strKind X.prog X.w) q (λx=>decide (x∈dd [] ys)) (dd [] ys).length))):=by
 intro pins s σ H vs us Q I rv h;obtain⟨l,xs,ts,ys,rfl,hl,r,ey,hb,q⟩:=h;obtain⟨u,rfl,ru⟩:=ZK rv;obtain rfl:u=Value.ref l:=ru;obtain⟨its,rv,pl,hln,_⟩:=zO I (.inl hl) r;refine Y5 hh pl (wD r rv ey) (by unfold scanBound;omega) λh' tk hS hk=> ?_
 refine⟨.ref _,_,I.laid (λb u e=>hk b u (ao e) e) (ai _) ?_,rfl,q _ (I.hok.fresh (ai _))⟩;obtain⟨o,es,ep,t,ho,rr⟩:=id hS;exact⟨hS,⟨o,ho⟩,λh1 h2 ⟨o1,es1,ep1,t1,ho1,rr1⟩ e=>⟨o1,es1,ep1,t1,e _ ho1,rr1⟩⟩
theorem Y7:Zo X (.builtin "len") (λvs H Q=>∃q φ f n,vs=[.ref q]/\H q=some (.ext φ)/\(∀h:Heap,φ h->h.SetOf (strKind X.prog X.w) q f n)/\Q (.int n) H):=by
 intro pins s σ H vs us Q I rv h;obtain⟨l,φ,f,n,rfl,hl,hφ,q⟩:=h;obtain⟨u,rfl,ru⟩:=ZK rv;obtain rfl:u=Value.ref l:=ru;obtain⟨h1,_,_⟩:=(show Zc _ X.w H _ l _ from I.hok l _ hl);obtain⟨o,es,ep,t,ho,hex,hd,_,_,hb,hf,hn⟩:=hφ _ h1;refine call_len_set ho hex hd hf ?_ ⟨.int _,H,I.tok _,⟨_,rfl⟩,by rw[hn];exact q⟩
 have:es.size < 4096:=hb;omega
def QB:T->R T
 | .lst ts=>match yh ts with
  | some ys=>if ts.length+1 < 4096 then .ok (.int (dd [] ys).length) else .bad
  | none=> .bad
 | _=> .bad
theorem K8 (hh:X.A.handled=none)(gl:Gl X "len")(mg:X.mg "len"=none)(gl' :Gl X "set")(mg' :X.mg "set"=none)(ha:ji X Y a fa)(hs:St1 X a:=by exact st1 rfl)(hs' :St1 X (.Call (.Name "set" p') [a] [] pos'):=by exact st1 rfl):
  Snd X Y (.Call (.Name "len" p) [.Call (.Name "set" p') [a] [] pos'] [] pos) (ap1 QB fa):= .mk λρ=>
 PE.imp (ZS Y7 gl mg PySem.boot_len (zx (Zd (Y6 hh) gl' mg' PyProof.Rows.Boot.«set» (zx (ha ρ) zM hs) (by decide) (by decide) hs rfl) zM hs') (by decide) (by decide) hs' rfl) λσ H Q ⟨B,I,q⟩=>
  step I q λt v H1 _ s1 r1 I1 q1=>by
   cases r1 with
   | @lst l xs ts h r=>
    have q1:Po Y rC _ H1 (match yh ts with | some ys=>if ts.length+1 < 4096 then .ok _ else .bad | none=> .bad) Q:=q1
    split at q1
    ·rename_i ys e;split at q1
     ·rename_i hl;refine⟨l,xs,ts,ys,rfl,h,r,e,hl,λz hz=>⟨z,_,_,_,rfl,zw,λh hh=>hh, ?_⟩⟩;exact q1 _ _ (zt.new hz _) (.int _)
     ·exact q1.elim
    ·exact q1.elim
   | _=>exact q1.elim
end
theorem xi:Z9 CX0 X E:=λ_ _ _ _ _ _ _ h=>h.elim
section
theorem xj (hy:Y.cl=cl)(F:ZX X.prog X.w X.K X.mg X.base CX0 j f fd ps (spP cl n g))(hr:Zy k X.A)(hj:j<=k)(gl:Gl X x)
  (mg:X.mg x=some (.ref f)) (kp:bG X.K (.ref f)=true) (bd:L2.Binds X.K fd ps []) (ha:W3 X Y (a :: es) ga) (hd:(x == ("__debug__":Str))=false:=by decide)
  (hs:starEach (a :: es) X.env=(false,eval a X.env) :: starEach es X.env:=by exact zN rfl) (hz:((backTo pos (starEach es X.env)).any λx=>x.fst)=false:=by exact Zf rfl):Snd X Y (.Call (.Name x p) (a :: es) [] pos) (za n g ga):=by
 subst hy;exact kS F (hr.mono hj) gl mg kp bd xi ha hd hs hz
theorem wE (gl:Gl X x)(mg:X.mg x=some u)(hu:∃t,u=Value.int i t)(hd:(x == ("__debug__":Str))=false:=by decide):Snd X Y (.Name x pos) (cE (.int i)):= .mk λρ=>
 PE.imp (Vm (v:= .int i) gl mg hu hd) λσ H Q ⟨B,I,q⟩=>ZB I q (.int i)
end
noncomputable def Gh (scope sc0:Scope):Bool:=(scope.kind == .function) && scope.names.all (λx=>x.2 != .cell) && scope.names.all (λx=>x.2 != .local || scope.names.lookup x.1 == some .local) &&
 scope.names.all (λx=>x.2 != .free || sc0.names.lookup x.1 == some .cell || sc0.names.lookup x.1 == some .free)
theorem Y8 (sc0:Scope)(h0:X.env.scope=sc0)(h:Gh scope sc0=true):CSc X scope:=by
 unfold Gh at h;simp only[ac,aQ]at h;obtain⟨⟨⟨h1,h2⟩,h3⟩,h4⟩:=h;refine⟨eq_of_beq h1,λx hx=>by simpa using h2 x hx,λx hx hl=> ?_,λx hx hf=> ?_⟩
 ·have:=h3 x hx;rw[hl]at this;simpa using this
 ·have:=h4 x hx;rw[hf]at this;show X.env.scope.names.lookup x.1=_\/X.env.scope.names.lookup x.1=_;rw[h0];simpa using this
noncomputable def XG (N N' :List Str)(scope sc0:Scope)(k:Nat)(js:List Nat):Bool:=(N'.length == k+js.length) && (a_ js.length).all λi=>match js[i]? with
 | none=>true
 | some j=>match N'[k+i]?,N[j]? with
  | some x,some y=>(x == y) && (sc0.names.lookup x == some .cell || sc0.names.lookup x == some .free) && (scope.names.lookup x == some .free)
  | _,_=>false
theorem wF {js:List Nat}(N:List Str)(sc0:Scope)(hN:X.N=N)(h0:X.env.scope=sc0)(h:XG N N' scope sc0 k js=true):XF X scope N' k js:=by
 unfold XG at h;simp only[ac,aQ]at h;obtain⟨h1,h2⟩:=h;refine⟨eq_of_beq h1,λi j e=> ?_⟩;have hi:=(am.mp e).1;have q:=h2 i (bo.mpr hi);rw[e]at q;dsimp only at q;split at q
 ·rename_i x y e1 e2;simp only[ac,Bool.or_eq_true,beq_iff_eq]at q;obtain⟨⟨rfl,q2⟩,q3⟩:=q;refine⟨x,e1,by rw[hN];exact e2, ?_,q3, ?_⟩
  ·rw[h0];exact .inr q2
  ·show X.env.scope.names.lookup x=_\/X.env.scope.names.lookup x=_;rw[h0];exact q2
 ·cases q
theorem vO {js:List Nat}{g:T->En->R En}(N' :List Str)(N:List Str)(sc0:Scope)(hN:X.N=N)(h0:X.env.scope=sc0)
  (h:(Gh scope sc0 && XG N N' scope sc0 k js)=true) (cm:X.calm=true) (it:W4 X Y tg iter fi) (gt:vM X scope N' λXC=>PG XC tg tG) (gk:GOk tG g) (gn:GNo g) (tt:∀Y',Y'.cl=Y.cl->vM X scope N' λXC=>Jc XC Y' ifs ft)
  (el:∀Y',Y'.cl=Y.cl->K0 X scope N' Y'.E λXC=>Snd XC Y' elt fe) (hs:∀x,foldedSetIterable iter X.env x=pure x:=by intro _;rfl):w8 X Y tg iter elt ifs scope N' k js fi tG g ft fe:=by
 rw[ac]at h;exact⟨Y8 sc0 h0 h.1,wF N sc0 hN h0 h.2,cm,it,gt,gk,gn,tt,el,hs⟩
end PV
namespace PV
open PySem PySem.Spec PyProof.Rows L2 PySem.W
section
end
section
variable {P:Program}{w:World}{K:a9}{mg:Str->Option Value}{base:Heap}{N:List Str}{qual:Str}{scope:Scope}{f:Addr}{cd:Value}{A:Around}{outer:List Env}{s:Shared}{H:Hp}{E:XK}{Y:Fx}
theorem Fun.okX {x qual:Str}{st:Stmt}{f:Addr}{fd:FuncData}{N ps:List Str}{k:Nat}{sp:Sp}(F:Fun K x qual st f fd)(S:ZF N ps (zq st))(len:∀vs H Q E,sp vs H Q E->vs.length=ps.length)
  (hbody:∀(cdv:Value) (A:Around) (outer:List Env) (s:Shared) (H:Hp) (vs:List V) (Q:VK) (E:XK),Zy k (A.deeper (envOfC qual (zq st) s.heap.objs.size f cdv))->sp vs H Q E->
   ∃t,PSs (jv (CX1 P w) P w K mg base N qual (zq st) f cdv A outer s H E) (zK st) t/\t { nx:=λ_ H' =>Q .non H',rt:=Q } (start N vs) H):ZX P w K mg base (CX1 P w) (k+1) f fd ps sp:=by
 obtain⟨oc,od,kV,doc,pm,an,cdv,ct,osl,rfl,lk,hcd⟩:=F.ex;exact Vw lk hcd S len λA outer s H vs Q E hr hsp=>hbody cdv A _ s H vs Q E hr hsp
end
end PV
namespace PySem.W
open PySem PySem.Calls PyProof.Rows PySem.Spec Builtin Builtin.ObjectAttr Builtin.Getset_descriptor
end PySem.W
namespace PySem.W
open PySem PySem.Calls PyProof.Rows PySem.Spec Builtin Builtin.ObjectAttr Builtin.Getset_descriptor
end PySem.W
namespace PySem.W
open PySem PySem.Calls PyProof.Rows PySem.Spec Builtin Builtin.ObjectAttr Builtin.Getset_descriptor
end PySem.W
namespace PV
open PySem PySem.Spec PyProof.Rows L2 PySem.W
section
end
end PV
namespace PySem.ZG
open PySem PySem.Spec PySem.Builtin.SmallTypes
structure u1 (i:Addr) (fp:List Addr) (v:Nat->Option Value) (St:Nat->Heap->Prop):Prop where
 mem:i∈fp
 item:∀{prog:Program} {w:World} {A:Around} {E:Value->Shared->Prop} {s:Shared} {Q:Value->Shared->Prop} {k:Nat} {x:Value},St k s.heap->v k=some x->(∀h',St (k+1) h' ->bT i s.heap h' ->Q x { s with heap:=h' })->wpAny (model prog w) A (nextOf (.ref i)) Q E s
 stop:∀{prog:Program} {w:World} {A:Around} {E:Value->Shared->Prop} {s:Shared} {Q:Value->Shared->Prop} {k:Nat},A.handled=none->St k s.heap->v k=none->(∀h' e,eW i s.heap h' ->(∃o,h'.get? e=some o/\o.cls= .type "StopIteration")->E (.ref e) { s with heap:=h' })->wpAny (model prog w) A (nextOf (.ref i)) Q E s
 keep:∀{k:Nat} {h h' :Heap},St k h->(∀b∈fp,∀o,h.get? b=some o->h'.get? b=some o)->St k h'
 there:∀{k:Nat} {h:Heap},St k h->∀b∈fp,∃o,h.get? b=some o
theorem u1.but {v:Nat->Option Value}{St:Nat->Heap->Prop}(N:u1 i fp v St)(x:St k h)(e:eW b h h')(n:b ∉ fp):St k h' :=
 N.keep x λc hc o q=>e c o (λz=>n (z ▸ hc)) q
theorem xk (hil:l ≠ i)(xs:Array Value):u1 i [i,l] (λk=>xs[k]?) (λk h=>h.IsListIter i l k/\h.IsList l xs) where
 mem:= .head _
 item:=λst hx h=>wpAny_nextOf_list_item st.1 st.2 hx λh' a b=>h h' ⟨a,st.2.extBut b.extBut hil⟩ b
 stop:=λhh st hx h=>wpAny_nextOf_list_end hh st.1 st.2 hx h
 keep:=λst k=>⟨st.1.at λo e=>k i (.head _) o e,st.2.at λo e=>k l (.tail _ (.head _)) o e⟩
 there:=λst b hb=>by
  obtain⟨⟨o,e,_⟩,o2,e2,_⟩:=st;rcases ah.mp hb with z | hb
  ·exact⟨o,z ▸ e⟩
  ·exact⟨o2,(aT.mp hb) ▸ e2⟩
end PySem.ZG
namespace PySem.ZG
open PySem PySem.Spec PySem.Builtin.SmallTypes
section
theorem uF (hit:s.heap.IsTupleIter it l k)(h:wpAny (model prog w) A.in1 (Builtin.«tuple_iterator.__next__» ⟨[.ref it],[]⟩) (λfin s' =>∃v,fin= .done (.ret v)/\Q v s') E s):wpAny (model prog w) A (nextOf (.ref it)) Q E s:=by
 exact a7 (bn hit.typeIs d7 (bF d7 hit.typeIs PySem.F.entry_tuple_iterator_next
  (cW h (λfin s' ⟨v,e,q⟩=>⟨v,e,ax q⟩) λ_ _ z=>z) (PySem.F.args_tuple_iterator_next_1 _)))
theorem tup_item (hit:s.heap.IsTupleIter it l k)(ht:s.heap.IsTuple l xs)(hx:xs[k]? =some x)(h:∀h',h'.IsTupleIter it l (k+1)->bT it s.heap h' ->Q x { s with heap:=h' }):wpAny (model prog w) A (nextOf (.ref it)) Q E s:=by
 refine uF hit ?_;obtain⟨o,ho,hc,hd⟩:=id hit;obtain⟨ol,hol,_,nl,hdl⟩:=ht;refine a7 (m:=field _ 0) (ba ho hd rfl ?_);refine a7 (ba ho hd rfl (a7 (bQ hol hdl ?_)));simp only[bw,hx];have g:=eQ (Obj.mapFields (·.setIfInBounds 1 (rawInt (k+1)))) ho (Obj.isFreed_of_fields (fq hd _));refine a7 (wpAny_setField ho hd (by simp) (ax ⟨x,rfl,h _ ⟨_,g,(Obj.cls_mapFields ..).trans hc, ?_⟩ (f9 ..)⟩))
 rw[fq hd];simp[rawInt]
theorem tup_stop (hh:A.handled=none)(hit:s.heap.IsTupleIter it l k)(ht:s.heap.IsTuple l xs)(hx:xs[k]? =none)
  (h:∀h' e,eW it s.heap h' ->(∃o,h'.get? e=some o/\o.cls= .type "StopIteration")->E (.ref e) { s with heap:=h' }):wpAny (model prog w) A (nextOf (.ref it)) Q E s:=by
 refine uF hit ?_;obtain⟨o,ho,hc,hd⟩:=id hit;obtain⟨ol,hol,_,nl,hdl⟩:=ht;refine a7 (m:=field _ 0) (ba ho hd rfl ?_);refine a7 (ba ho hd rfl (a7 (bQ hol hdl ?_)));simp only[bw,hx];refine a7 (wpAny_rule (a7 (wpAny_setField ho hd (by simp) (a7 ?_))))
 refine a7 (be (a7 (cf (by first | rfl | (simp only[firstArgMember])) (be ?_ (by size_fits)))) (by size_fits))
 refine a7 (wpAny_handled ?_);rw[hh];exact a7 (ax (wpAny_throw (h _ _ (((f9 ..).extBut.push _).push _) ⟨_,ag _ rfl,rfl⟩)))
end
theorem nx_tup (hil:l ≠ i)(xs:Array Value):u1 i [i,l] (λk=>xs[k]?) (λk h=>h.IsTupleIter i l k/\h.IsTuple l xs) where
 mem:= .head _
 item:=λst hx h=>tup_item st.1 st.2 hx λh' a b=>h h' ⟨a,st.2.extBut b.extBut hil⟩ b
 stop:=λhh st hx h=>tup_stop hh st.1 st.2 hx h
 keep:=λst k=>by
  obtain⟨⟨o,e,r⟩,o2,e2,r2⟩:=st;exact⟨⟨o,k i (.head _) o e,r⟩,o2,k l (.tail _ (.head _)) o2 e2,r2⟩
 there:=λst b hb=>by
  obtain⟨⟨o,e,_⟩,o2,e2,_⟩:=st;rcases ah.mp hb with z | hb
  ·exact⟨o,z ▸ e⟩
  ·exact⟨o2,(aT.mp hb) ▸ e2⟩
end PySem.ZG
namespace PySem.ZG
open PySem PySem.Spec PySem.Builtin.SmallTypes
structure Ap (z TI TO i1 i2:Addr) (fp1 fp2:List Addr):Prop where
 Iz:TI ≠ z
 Oz:TO ≠ z
 IO:TI ≠ TO
 I1:TI ≠ i1
 I2:TI ≠ i2
 z1:z ∉ fp1
 z2:z ∉ fp2
 O1:TO ∉ fp1
 O2:TO ∉ fp2
 a:i1 ∉ fp2
 b:i2 ∉ fp1
section
variable {v1 v2:Nat->Option Value}{S1 S2:Nat->Heap->Prop}
theorem Ap.ne1 (D:Ap z TI TO i1 i2 fp1 fp2)(N1:u1 i1 fp1 v1 S1):i1 ≠ z/\i1 ≠ TO:=⟨λe=>D.z1 (e ▸ N1.mem),λe=>D.O1 (e ▸ N1.mem)⟩
theorem Ap.ne2 (D:Ap z TI TO i1 i2 fp1 fp2)(N2:u1 i2 fp2 v2 S2):i2 ≠ z/\i2 ≠ TO:=⟨λe=>D.z2 (e ▸ N2.mem),λe=>D.O2 (e ▸ N2.mem)⟩
theorem xl {Q:Value->Shared->Prop}(N1:u1 i1 fp1 v1 S1)(N2:u1 i2 fp2 v2 S2)(D:Ap z TI TO i1 i2 fp1 fp2)(hz:IsZip s.heap z TI TO .none)(hTI:IsPair s.heap TI (.ref i1) (.ref i2))(hTO:IsPair s.heap TO a b)(p1:S1 k s.heap)(p2:S2 k s.heap)(hx:v1 k=some x)(hy:v2 k=some y)
  (hQ:∀h',IsZip h' z TI TO (rawInt s.heap.objs.size)->IsPair h' TO x y->S1 (k+1) h' ->S2 (k+1) h' ->IsPair h' s.heap.objs.size x y->
   (∀c o,c ≠ z->c ≠ TO->c ≠ i1->c ≠ i2->s.heap.get? c=some o->h'.get? c=some o)->Q (.ref s.heap.objs.size) { s with heap:=h' }):
  wpAny (model prog w) A (Builtin.«zip.__next__» ⟨[.ref z],[]⟩) (λfin s' =>∃v,fin= .done (.ret v)/\Q v s') E s:=by
 refine a7 (m:=field (.ref z) 2) (ba hz rfl (x:= .bool false) rfl (a7 (ba hz rfl (x:= .ref TI) rfl (a7 (bQ hTI rfl ?_)))));refine a7 ?_;refine a7 (ba hz rfl (x:= .none) rfl (ax ?_));refine a7 (wpAny_rule (a7 (ba hz rfl (x:= .ref TO) rfl (a7 (br hz (by simp) λg1 z1 e1=> ?_)))))
 replace z1:=z1
 refine a7 ?_;refine a7 (a7 (wpAny_onRaise (a7 (N1.item (N1.but p1 e1.extBut D.z1) hx λg2 q1 e2=>ax ?_))));have t2:IsPair g2 TO a b:=e2.extBut _ _ (D.ne1 N1).2.symm (e1.extBut _ _ D.Oz hTO);refine a7 (bQ t2 rfl (a7 (wpAny_updateSeq_pair t2 λg3 t3 e3=> ?_)));refine a7 (wpAny_letGo (ax ?_));refine a7 (a7 (wpAny_onRaise (a7 (N2.item (N2.but (N2.but (N2.but p2 e1.extBut D.z2) e2.extBut D.a) e3.extBut D.O2) hy λg4 q2 e4=>ax ?_))));have t4:IsPair g4 TO x b:=e4.extBut _ _ (D.ne2 N2).2.symm t3;refine a7 (bQ t4 rfl (a7 (wpAny_updateSeq_pair t4 λg5 t5 e5=> ?_)))
 replace t5:IsPair g5 TO x y:=t5
 refine a7 (wpAny_letGo (ax (ax ?_)));refine a7 (bQ t5 rfl (a7 (wpAny_newTuple ?_)));have sz:g5.objs.size=s.heap.objs.size:=by rw[e5.1,e4.1,e3.1,e2.1,e1.1]
 have z5:=e5.extBut _ _ D.Oz.symm (e4.extBut _ _ (D.ne2 N2).1.symm (e3.extBut _ _ D.Oz.symm (e2.extBut _ _ (D.ne1 N1).1.symm z1)));have k5:∀c o,c ≠ z->c ≠ TO->c ≠ i1->c ≠ i2->s.heap.get? c=some o->g5.get? c=some o:=λc o c1 c2 c3 c4 e=>
  e5.extBut _ _ c2 (e4.extBut _ _ c4 (e3.extBut _ _ c2 (e2.extBut _ _ c3 (e1.extBut _ _ c1 e))))
 have r1:S1 (k+1) g5:=N1.but (N1.but (N1.but q1 e3.extBut D.O1) e4.extBut D.b) e5.extBut D.O1;have r2:S2 (k+1) g5:=N2.but q2 e5.extBut D.O2;refine a7 ?_;have z6:IsZip (g5.push { cls:= .type "tuple",data:= .seq #[x,y] }) z TI TO _:=aa _ z5;refine a7 (br z6 (by simp) λg7 z7 e7=> ?_)
 refine br z7 (by simp) λg8 z8 e8=> ?_
 have up:∀c o,c ≠ z->g5.get? c=some o->g8.get? c=some o:=λc o c1 e=>e8.extBut _ _ c1 (e7.extBut _ _ c1 (aa _ e));have hn:g5.objs.size ≠ z:=cG (ao z5);have t8:=e8.extBut _ _ hn (e7.extBut _ _ hn (ag _ rfl));rw[sz]at z8 t8;refine ax ⟨_,rfl, ?_⟩;rw[sz];exact hQ g8 z8 (up _ _ D.Oz t5) (N1.keep r1 λc hc o e=>up c o (λq=>D.z1 (q ▸ hc)) e) (N2.keep r2 λc hc o e=>up c o (λq=>D.z2 (q ▸ hc)) e) t8 λc o c1 c2 c3 c4 e=>up c o c1 (k5 c o c1 c2 c3 c4 e)
theorem xm {Q:Fin->Shared->Prop}(hh:A.handled=none)(N1:u1 i1 fp1 v1 S1)(N2:u1 i2 fp2 v2 S2)(D:Ap z TI TO i1 i2 fp1 fp2)(hz:IsZip s.heap z TI TO .none)(hTI:IsPair s.heap TI (.ref i1) (.ref i2))(hTO:IsPair s.heap TO a b)(p1:S1 k s.heap)(p2:S2 k s.heap)(hend:v1 k=none\/v2 k=none)
  (hE:∀h' e,(∀c o,c ≠ z->c ≠ TO->c ≠ i1->c ≠ i2->s.heap.get? c=some o->h'.get? c=some o)->(∃o,h'.get? e=some o/\o.cls= .type "StopIteration")->E (.ref e) { s with heap:=h' }):
  wpAny (model prog w) A (Builtin.«zip.__next__» ⟨[.ref z],[]⟩) Q E s:=by
 refine a7 (m:=field (.ref z) 2) (ba hz rfl (x:= .bool false) rfl (a7 (ba hz rfl (x:= .ref TI) rfl (a7 (bQ hTI rfl ?_)))));refine a7 ?_;refine a7 (ba hz rfl (x:= .none) rfl (ax ?_));simp only[if_true];refine a7 (wpAny_rule (a7 (ba hz rfl (x:= .ref TO) rfl (a7 (br hz (by simp) λg1 z1 e1=> ?_)))))
 replace z1:=z1
 refine a7 ?_;have off:∀{g:Heap} {e:Addr} {oe:Obj},IsZip g z TI TO .ellipsis->g.get? e=some oe->oe.cls= .type "StopIteration"->e ≠ z:=λhg he hc q=>by
  subst q;rw[hg]at he;cases he;simp at hc
 cases hx:v1 k with
 | none=>
  refine a7 (a7 (wpAny_onRaise (a7 (N1.stop hh (N1.but p1 e1.extBut D.z1) hx λg2 e e2 he=> ?_))));obtain⟨oe,ho,hc⟩:=he;have z2:=e2 _ _ (D.ne1 N1).1.symm z1;exact br z2 (by simp) λg3 _ e3=>hE g3 e (λc o c1 _ c3 _ q=>e3.extBut _ _ c1 (e2 _ _ c3 (e1.extBut _ _ c1 q))) ⟨oe,e3.extBut _ _ (off z2 ho hc) ho,hc⟩
 | some x=>
  have hy:v2 k=none:=by
   rcases hend with q | q
   ·rw[hx]at q;cases q
   ·exact q
  refine a7 (a7 (wpAny_onRaise (a7 (N1.item (N1.but p1 e1.extBut D.z1) hx λg2 q1 e2=>ax ?_))));have t2:=e2.extBut _ _ (D.ne1 N1).2.symm (e1.extBut _ _ D.Oz hTO);refine a7 (bQ t2 rfl (a7 (wpAny_updateSeq_pair t2 λg3 t3 e3=>a7 (wpAny_letGo (ax ?_)))));refine a7 (a7 (wpAny_onRaise (a7 (N2.stop hh (N2.but (N2.but (N2.but p2 e1.extBut D.z2) e2.extBut D.a) e3.extBut D.O2) hy λg4 e e4 he=> ?_))));obtain⟨oe,ho,hc⟩:=he;have z4:=e4 _ _ (D.ne2 N2).1.symm (e3.extBut _ _ D.Oz.symm (e2.extBut _ _ (D.ne1 N1).1.symm z1));exact br z4 (by simp) λg5 _ e5=>hE g5 e (λc o c1 c2 c3 c4 q=>e5.extBut _ _ c1 (e4 _ _ c4 (e3.extBut _ _ c2 (e2.extBut _ _ c3 (e1.extBut _ _ c1 q))))) ⟨oe,e5.extBut _ _ (off z4 ho hc) ho,hc⟩
theorem xn {Q:Option Value->Shared->Prop}(N1:u1 i1 fp1 v1 S1)(N2:u1 i2 fp2 v2 S2)(D:Ap z TI TO i1 i2 fp1 fp2)(hz:IsZip s.heap z TI TO .none)(hTI:IsPair s.heap TI (.ref i1) (.ref i2))(hTO:IsPair s.heap TO a b)(p1:S1 k s.heap)(p2:S2 k s.heap)(hx:v1 k=some x)(hy:v2 k=some y)
  (hQ:∀h',IsZip h' z TI TO (rawInt s.heap.objs.size)->IsPair h' TO x y->S1 (k+1) h' ->S2 (k+1) h' ->IsPair h' s.heap.objs.size x y->
   (∀c o,c ≠ z->c ≠ TO->c ≠ i1->c ≠ i2->s.heap.get? c=some o->h'.get? c=some o)->Q (some (.ref s.heap.objs.size)) { s with heap:=h' }):wpAny (model prog w) A (pyNext (.ref z)) Q E s:=by
 have ty:s.TypeIs (.ref z) _:=⟨_,hz,rfl⟩;exact a7 (wpAny_attempt (bn ty cy (bF cy ty eJ
  (xl N1 N2 D hz hTI hTO p1 p2 hx hy λh' a1 a2 a3 a4 a5 a6=>ax (hQ h' a1 a2 a3 a4 a5 a6)) (dY _))))
theorem xo {Q:Option Value->Shared->Prop}(hh:A.handled=none)(N1:u1 i1 fp1 v1 S1)(N2:u1 i2 fp2 v2 S2)(D:Ap z TI TO i1 i2 fp1 fp2)(hz:IsZip s.heap z TI TO .none)(hTI:IsPair s.heap TI (.ref i1) (.ref i2))(hTO:IsPair s.heap TO a b)(p1:S1 k s.heap)(p2:S2 k s.heap)(hend:v1 k=none\/v2 k=none)
  (hQ:∀h',(∀c o,c ≠ z->c ≠ TO->c ≠ i1->c ≠ i2->s.heap.get? c=some o->h'.get? c=some o)->Q none { s with heap:=h' }):wpAny (model prog w) A (pyNext (.ref z)) Q E s:=by
 have ty:s.TypeIs (.ref z) _:=⟨_,hz,rfl⟩;refine a7 (wpAny_attempt (bn ty cy (bF cy ty eJ
  (xm hh N1 N2 D hz hTI hTO p1 p2 hend λh' e kp he=> ?_) (dY _))))
 obtain⟨o,ho,hc⟩:=he;exact a7 (wpAny_isInstance ⟨o,ho,hc⟩ isSubtype_stop (ax (hQ _ kp)))
end
end PySem.ZG
namespace PySem.ZG
open PySem PySem.Spec PySem.Builtin.SmallTypes
structure xp (l:Addr) (o:Obj) (P:Heap->Prop):Prop where
 go:∀{prog:Program} {w:World} {A:Around} {E:Value->Shared->Prop} {s:Shared} {Q:Value->Shared->Prop},P s.heap->Q (.ref s.heap.objs.size) { s with heap:=s.heap.push o }->wpAny (model prog w) A (pyIter (.ref l)) Q E s
 push:∀{h:Heap} (o' :Obj),P h->P (h.push o')
 fresh:o.isFreed=false
noncomputable abbrev oL (l:Addr):Obj:={ cls:= .type "list_iterator",data:= .fields #[.ref l,.int 0 0] }
noncomputable abbrev oT (l:Addr):Obj:={ cls:= .type "tuple_iterator",data:= .fields #[.ref l,.int 0 0] }
theorem xq (l:Addr)(xs:Array Value):xp l (oL l) (λh=>h.IsList l xs):=⟨λp q=>wpAny_pyIter_list p q,λo p=>Heap.IsList.push p o,rfl⟩
theorem K9 (l:Addr)(xs:Array Value):xp l (oT l) (λh=>h.IsTuple l xs):=⟨λp q=>wpAny_pyIter_tuple p q,λo p=>Heap.IsTuple.push p o,rfl⟩
noncomputable abbrev zh2 (h:Heap)(o1 o2:Obj):Heap:=(h.push o1).push o2
abbrev zh3 (h:Heap)(o1 o2:Obj):Heap:=(zh2 h o1 o2).push { cls:= .type "tuple",data:= .seq #[.ref h.objs.size,.ref (h.push o1).objs.size] }
abbrev zh4 (h:Heap)(o1 o2:Obj):Heap:=(zh3 h o1 o2).push { cls:= .type "tuple",data:= .seq #[.none,.none] }
abbrev zh5 (h:Heap)(o1 o2:Obj):Heap:=(zh4 h o1 o2).push { cls:= .type "zip",data:= .fields #[.none,.bool false,.bool false,.ref (zh2 h o1 o2).objs.size,.ref (zh3 h o1 o2).objs.size] }
theorem Ka {P1 P2:Heap->Prop}(J1:xp l1 o1 P1)(J2:xp l2 o2 P2):
  Meets (Builtin.«zip.__new__» ⟨[.type "zip",.ref l1,.ref l2],[]⟩) (λ_ R s=>P1 s.heap/\P2 s.heap/\R (.ok (.ret (.ref (zh4 s.heap o1 o2).objs.size))) { s with heap:=zh5 s.heap o1 o2 }):=
 .of_wp λprog w A R s h=>by
  obtain⟨hp,g,d,tk,os⟩:=s;obtain⟨q1,q2,h⟩:=h;have hsub:=sub_zip;have c1:P1 (hV ⟨hp,g,d,tk,os⟩):=q1;have c2:P2 (hV ⟨hp.push o1,g,d,tk,os⟩):=J2.push o1 q2
  wp_walk using J1.go c1,J2.go c2
  exact⟨_,rfl,h⟩
end PySem.ZG
namespace PySem.ZG
open PySem PySem.Spec PySem.Builtin.SmallTypes
theorem xr {P1 P2:Heap->Prop}(J1:xp l1 o1 P1)(J2:xp l2 o2 P2)(q1:P1 s.heap)(q2:P2 s.heap)
  (h:∀h' n,n=s.heap.objs.size->IsZip h' (n+4) (n+2) (n+3) .none->IsPair h' (n+2) (.ref n) (.ref (n+1))->IsPair h' (n+3) .none .none->h'.get? n=some o1->h'.get? (n+1)=some o2->
   (∀c o,s.heap.get? c=some o->h'.get? c=some o)->Q (.ref (n+4)) { s with heap:=h' }):wpAny (model prog w) A (call (.type "zip") [.ref l1,.ref l2]) Q E s:=by
 refine callType_new PySem.F.called_zip (by decide) (PySem.F.typeCall_zip_2 _ _) (PySem.F.newCall_zip_2 _ _) (λobj=>PySem.F.args_object_init_3 obj _ _) PySem.F.entry_zip_new (Ka J1 J2) ⟨q1,q2, ?_⟩
 have n1:(s.heap.push o1).objs.size=s.heap.objs.size+1:=bh ..;have n2:(zh2 s.heap o1 o2).objs.size=s.heap.objs.size+2:=by rw[bh,n1]
 have n3:(zh3 s.heap o1 o2).objs.size=s.heap.objs.size+3:=by rw[bh,n2]
 have n4:(zh4 s.heap o1 o2).objs.size=s.heap.objs.size+4:=by rw[bh,n3]
 have up:∀{h:Heap} {c:Addr} {o:Obj} (o' :Obj),h.get? c=some o->(h.push o').get? c=some o:=λo' e=>aa o' e;have e5:(zh5 s.heap o1 o2).get? _=some _:=ag _ rfl;have e4:(zh5 s.heap o1 o2).get? _=some _:=up _ (ag _ rfl);have e3:(zh5 s.heap o1 o2).get? _=some _:=up _ (up _ (ag _ rfl));have e2:(zh5 s.heap o1 o2).get? _=some _:=up _ (up _ (up _ (ag _ J2.fresh)));have e1:(zh5 s.heap o1 o2).get? _=some _:=up _ (up _ (up _ (up _ (ag _ J1.fresh))));rw[n2,n3,n4]at e5;rw[n1,n2]at e3;rw[n3]at e4;rw[n1]at e2;rw[n4];exact⟨⟨_,e5,rfl⟩,h _ _ rfl e5 e3 e4 e1 e2 λc o q=>up _ (up _ (up _ (up _ (up _ q))))⟩
end PySem.ZG
namespace PV
open PySem PySem.Spec PyProof.Rows L2 PySem.ZG
inductive SK where
 | l | t
noncomputable def SK.it:SK->Heap->Addr->Addr->Nat->Prop
 | .l=>λh i l k=>h.IsListIter i l k
 | .t=>λh i l k=>h.IsTupleIter i l k
noncomputable def SK.has:SK->Heap->Addr->Array Value->Prop
 | .l=>λh l xs=>h.IsList l xs
 | .t=>λh l xs=>h.IsTuple l xs
def SK.sq (K:a9):SK->Hp->Addr->List V->Prop
 | .l=>λH a xs=>SqL K H a xs
 | .t=>λH a xs=>SqT K H a xs
noncomputable def SK.tr:SK->List V->HO
 | .l=> .lst
 | .t=> .tup
def SK.ob:SK->Addr->Obj
 | .l=>oL
 | .t=>oT
theorem SK.nx (k:SK){i l:Addr}(h:l ≠ i)(xs:Array Value):u1 i [i,l] (λn=>xs[n]?) (λn hp=>k.it hp i l n/\k.has hp l xs):=by
 cases k with
 | l=>exact xk h xs
 | t=>exact nx_tup h xs
theorem SK.of (k:SK)(l:Addr)(xs:Array Value):xp l (k.ob l) (λh=>k.has h l xs):=by
 cases k with
 | l=>exact xq l xs
 | t=>exact K9 l xs
theorem SK.start (k:SK){h:Heap}{i l:Addr}(e:h.get? i=some (k.ob l)):k.it h i l 0:=by
 cases k with
 | l=>exact⟨_,e,rfl,rfl⟩
 | t=>exact⟨_,e,rfl,rfl⟩
theorem SK.obj {k:SK}{h:Heap}{i l:Addr}{n:Nat}(x:k.it h i l n):∃o,h.get? i=some o/\∀v,o.data ≠ .cell v:=by
 cases k with
 | l=>obtain⟨o,e,_,d⟩:=x;exact⟨o,e,λv z=>by rw[d]at z;cases z⟩
 | t=>obtain⟨o,e,_,d⟩:=x;exact⟨o,e,λv z=>by rw[d]at z;cases z⟩
theorem SK.at_ {k:SK}{h h' :Heap}{i l:Addr}{n:Nat}(x:k.it h i l n)(q:∀o,h.get? i=some o->h'.get? i=some o):k.it h' i l n:=by
 cases k with
 | l=>obtain⟨o,e,r⟩:=x;exact⟨o,q o e,r⟩
 | t=>obtain⟨o,e,r⟩:=x;exact⟨o,q o e,r⟩
theorem SK.sqOf {K:a9}(k:SK){H:Hp}{a:Addr}{xs:List V}(e:H a=some (k.tr xs)):k.sq K H a xs:=by
 cases k with
 | l=>exact SqL.of e
 | t=>exact SqT.of e
theorem Inv.seq (I:L2.Inv X pins σ H s)(k:SK)(h:k.sq X.K H a xs):∃its:List Value,zR xs its/\k.has s.heap a its.toArray/\∃o,s.heap.get? a=some o:=by
 cases k with
 | l=>
  obtain⟨its,r,p,_⟩:=I.list h;obtain⟨o,_,e,_⟩:=id p;exact⟨its,r,p.isList,o,e⟩
 | t=>
  obtain⟨its,r,p,_⟩:=I.tuple h;obtain⟨o,e,_⟩:=id p;exact⟨its,r,p,o,e⟩
def Itz (K:a9)(k1 k2:SK)(l1 l2:Addr):It:=
 ⟨λi H=>∃xs ys x y,k1.sq K H l1 xs/\k2.sq K H l2 ys/\xs[i]? =some x/\ys[i]? =some y,λi H v H' =>∃p x y,H p=none/\v= .ref p/\(∀xs,k1.sq K H l1 xs->xs[i]? =some x)/\(∀ys,k2.sq K H l2 ys->ys[i]? =some y)/\H' =upd H p (.tup [x,y]),
  λi H=>∃xs ys,k1.sq K H l1 xs/\k2.sq K H l2 ys/\(xs.length<=i\/ys.length<=i)⟩
theorem Inv.seq_inj (I:L2.Inv X pins σ H s)(k:SK)(h:k.sq X.K H a xs)(h' :k.sq X.K H a ys):xs=ys:=by
 cases k with
 | l=>exact I.list_inj h h'
 | t=>exact I.tuple_inj h h'
theorem nN {a b:Nat}(h:a ≠ b): @Ne Addr a b:=h
theorem nM {a b c:Nat}(h:a ≠ b)(h' :a ≠ c):¬ @Membership.mem Addr (List Addr) _ [b,c] a:=λq=>by
 rcases ah.mp q with z | z
 ·exact h z
 ·exact h' (aT.mp z)
theorem QC {P:Program}{w:World}{K:a9}{elts:List Expr}{kk:Nat}{pt:Pos}(k1 k2:SK){n l1 l2:Nat}(h1:l1 < n)(h2:l2 < n):
  Uj P w K (.Tuple elts kk pt) (Itz K k1 k2 l1 l2) [n+4,n+2,n+3,n,n+1] (n+4)
   (λi h=>IsZip h (n+4) (n+2) (n+3) .none/\IsPair h (n+2) (.ref n) (.ref (n+1))/\(∃a b,IsPair h (n+3) a b)/\k1.it h n l1 i/\k2.it h (n+1) l2 i):=by
 have D:Ap (n+4) (n+2) (n+3) n (n+1) [n,l1] [n+1,l2]:=by
  refine⟨nN (by omega),nN (by omega),nN (by omega),nN (by omega),nN (by omega),nM (by omega) (by omega),nM (by omega) (by omega),nM (by omega) (by omega),nM (by omega) (by omega),nM (by omega) (by omega),nM (by omega) (by omega)⟩
 refine⟨by simp,λi h st b hb=> ?_,λi h h' st k=> ?_, ?_, ?_, ?_⟩
 ·obtain⟨hz,hI,⟨a,c,hO⟩,p1,p2⟩:=st;simp only[ah,aM,or_false]at hb;rcases hb with rfl | rfl | rfl | rfl | rfl
  ·exact⟨_,hz,λv z=>nomatch z⟩
  ·exact⟨_,hI,λv z=>nomatch z⟩
  ·exact⟨_,hO,λv z=>nomatch z⟩
  ·exact SK.obj p1
  ·exact SK.obj p2
 ·obtain⟨hz,hI,⟨a,c,hO⟩,p1,p2⟩:=st;exact⟨k _ (by simp) _ hz,k _ (by simp) _ hI,⟨a,c,k _ (by simp) _ hO⟩,SK.at_ p1 λo e=>k n (by simp) o e,SK.at_ p2 λo e=>k (n+1) (by simp) o e⟩
 ·intro X hP hw hK hc i pins s σ H E I hf st hg;subst hP hw hK;obtain⟨xs,ys,x,y,s1,s2,hx,hy⟩:=hg;obtain⟨hz,hI,⟨a,c,hO⟩,p1,p2⟩:=st;obtain⟨its1,r1,b1,_⟩:=Inv.seq I k1 s1;obtain⟨its2,r2,b2,_⟩:=Inv.seq I k2 s2;obtain⟨u,hu,ru⟩:=r1.get hx;obtain⟨v,hv,rv⟩:=r2.get hy;refine xn (k1.nx (aE h1) its1.toArray) (k2.nx (i:=n+1) (nN (by omega)) its2.toArray) D hz hI hO ⟨p1,b1⟩ ⟨p2,b2⟩ (x:=u) (y:=v) (by simpa using hu) (by simpa using hv) λg a1 a2 a3 a4 a5 kp=>⟨_,rfl, ?_⟩
  refine wpAny_letOwnedTupleGo_zip a1 λg2 z2 e2=> ?_;have hlt:n+4 < s.heap.objs.size:=ao hz;have ne:∀b:Nat,b<=n+4->s.heap.objs.size ≠ b:=λb hb=>by
   omega
  have kp2:∀b o,b ∉ [n+4,n+2,n+3,n,n+1]->s.heap.get? b=some o->g2.get? b=some o:=λb o hb e=>by
   simp only[ah,aM,or_false,not_or]at hb;exact e2.extBut _ _ hb.1 (kp b o hb.1 hb.2.2.1 hb.2.2.2.1 hb.2.2.2.2 e)
  have g2P:=e2.extBut _ _ (ne _ (ai _)) a5;have g2I:=e2.extBut _ _ D.Iz (kp _ _ D.Iz D.IO D.I1 D.I2 hI);have g2O:=e2.extBut _ _ D.Oz a2;have q1:=SK.at_ a3.1 λo e=>e2.extBut _ _ (nN (by omega)) e
  have q2:=SK.at_ a4.1 λo e=>e2.extBut _ _ (nN (by omega)) e
  have hfr:=I.hok.fresh (ai _);refine⟨.ref s.heap.objs.size,upd H s.heap.objs.size (.tup [x,y]),Inv.laidT (s:=s) (h' :=g2) (tk:=s.toks) I hf kp2 (λb o hb _=> ?_) (ai _)
   ⟨by rw[bU];show 2<=16777216;decide,[u,v],.cons ru (.cons rv .nil),⟨_,g2P,rfl,_,rfl⟩,.inr ⟨_,g2P,rfl⟩⟩,rfl,⟨_,x,y,hfr,rfl,λzs hq=>by rw[← Inv.seq_inj I k1 s1 hq];exact hx,λzs hq=>by rw[← Inv.seq_inj I k2 s2 hq];exact hy,rfl⟩,⟨z2,g2I,⟨u,v,g2O⟩,q1,q2⟩,λb hb=> ?_⟩
  ·simp only[ah,aM,or_false]at hb;rcases hb with rfl | rfl | rfl | rfl | rfl
   ·exact⟨_,z2⟩
   ·exact⟨_,g2I⟩
   ·exact⟨_,g2O⟩
   ·obtain⟨o',e',_⟩:=SK.obj q1;exact⟨o',e'⟩
   ·obtain⟨o',e',_⟩:=SK.obj q2;exact⟨o',e'⟩
  ·have hb2:(b:Nat)<=n+4:=by
    have hb:=by simpa using hb
    rcases hb with rfl | rfl | rfl | rfl | rfl
    ·exact ai _
    ·exact dm (by decide) n
    ·exact dm (by decide) n
    ·exact aw _ _
    ·exact dm (by decide) n
   rw[zu λz=>ne b hb2 z.symm];exact(hf b hb).1
 ·intro X hP hw hK hc i pins s σ H E I hf st hg;subst hP hw hK;obtain⟨xs,ys,s1,s2,hend⟩:=hg;obtain⟨hz,hI,⟨a,c,hO⟩,p1,p2⟩:=st;obtain⟨its1,r1,b1,_⟩:=Inv.seq I k1 s1;obtain⟨its2,r2,b2,_⟩:=Inv.seq I k2 s2;have l1' :=r1.length;have l2' :=r2.length;refine xo (I.ok.hd hc) (k1.nx (aE h1) its1.toArray) (k2.nx (nN (by omega)) _) D hz hI hO ⟨p1,b1⟩ ⟨p2,b2⟩ ?_ λg kp=>⟨rfl, ?_⟩
  ·rcases hend with q | q
   ·exact .inl (cj (by rw[az,← l1'];exact q))
   ·exact .inr (cj (by rw[az,← l2'];exact q))
  ·have kp2:∀b o,b ∉ [n+4,n+3,n,n+1]->s.heap.get? b=some o->g.get? b=some o:=λb o hb e=>by
    simp only[ah,aM,or_false,not_or]at hb;exact kp b o hb.1 hb.2.1 hb.2.2.1 hb.2.2.2 e
   have nch:∀b u,H b=some u->b ∉ [n+4,n+3,n,n+1]:=λb u e hb=>by
    have hb' :b∈[n+4,n+2,n+3,n,n+1]:=by
     simp only[ah,aM,or_false]at hb ⊢;rcases hb with q | q | q | q
     ·exact .inl q
     ·exact .inr (.inr (.inl q))
     ·exact .inr (.inr (.inr (.inl q)))
     ·exact .inr (.inr (.inr (.inr q)))
    rw[(hf b hb').1]at e;cases e
   refine I.call' rfl ⟨λb o e _ _ hc=>kp2 b o hc e,λb o e _ _ hc=>⟨o.slots,kp2 b o hc e⟩,λb o e q _=>q,λb o e hc=>⟨o,kp2 b o hc e⟩,λb ys e=>e,λb o u e=>e,λ_ _ _ e=>e⟩ (λb u e=> ?_) I.bare λb hb=> ?_
   ·refine(I.hok b u e).stay (λc v hc q=>kp2 c v ?_ q) (λ_ q=>q) λ_ _ q=>q;rcases hc with rfl | hc
    ·exact nch c u e
    ·exact nch c _ hc
   ·have hb' :b∈[n+4,n+2,n+3,n,n+1]:=by
     simp only[ah,aM,or_false]at hb ⊢;rcases hb with q | q | q | q
     ·exact .inl q
     ·exact .inr (.inr (.inl q))
     ·exact .inr (.inr (.inr (.inl q)))
     ·exact .inr (.inr (.inr (.inr q)))
    obtain⟨f0,f1,f2,f3,f4,f5⟩:=hf b hb';exact⟨f3,f1,f4,f5⟩
 ·intro A i s Q E st h;exact wpAny_pyIter_zip st.1 h
noncomputable def Y9 (xs ys:List T):List T:=(xs.zip ys).map λp=>T.tup [p.1,p.2]
theorem QD {xs ys:List T}{i:Nat}{t:T}(h:(Y9 xs ys)[i]? =some t):∃x y,xs[i]? =some x/\ys[i]? =some y/\t= .tup [x,y]:=by
 unfold Y9 at h;rw[ak]at h;cases e:(xs.zip ys)[i]? with
 | none=>rw[e]at h;cases h
 | some p=>
  rw[e]at h;cases h;have:=List.getElem?_zip_eq_some.mp e;exact⟨p.1,p.2,this.1,this.2,rfl⟩
theorem u2 (xs ys:List T):(Y9 xs ys).length=min xs.length ys.length:=by unfold Y9;simp
theorem Kb {K:a9}{B1 H1:Hp}{k1 k2:SK}{a b:Addr}{xs ys:List V}{ts us:List T}(ha:B1 a=some (k1.tr xs))(hb:B1 b=some (k2.tr ys))(ra:zB B1 xs ts)(rb:zB B1 ys us):rI B1 H1 (Itz K k1 k2 a b) (Y9 ts us):=λB2 H2 s1 s2=>by
 have a2:=k1.sqOf (K:=K) (s2 _ _ (s1 _ _ ha));have b2:=k2.sqOf (K:=K) (s2 _ _ (s1 _ _ hb));rw[u2];refine⟨λi hi=> ?_,λi t x H3 e y=> ?_,λi hi=>⟨xs,ys,a2,b2, ?_⟩⟩
 ·obtain⟨v,e1,_⟩:=ra.get (aj (show i < ts.length by omega))
  obtain⟨u,e2,_⟩:=rb.get (aj (show i < us.length by omega))
  exact⟨xs,ys,v,u,a2,b2,e1,e2⟩
 ·obtain⟨p,v,u,hp,rfl,y1,y2,rfl⟩:=y;obtain⟨t1,t2,et,eu,rfl⟩:=QD e;obtain⟨v',e1,r1⟩:=ra.get et;obtain⟨u',e2,r2⟩:=rb.get eu;have q1:=y1 xs a2;have q2:=y2 ys b2;rw[e1]at q1;cases q1;rw[e2]at q2;cases q2;have up:=zH.ge s2 (zt.new hp (.tup [v,u]));exact⟨zt.new hp _,.tup (jm hp _) (.cons ((r1.mono s1).mono up) (.cons ((r2.mono s1).mono up) .nil))⟩
 ·rw[ra.length,rb.length];omega
section
theorem Kc {ta:TA}(hg:Gl X "zip")(hm:X.mg "zip"=none)(ha:PA X [a,b] ta)(hs:starEach [a,b] X.env=[(false,eval a X.env),(false,eval b X.env)])(hs2:starEach [b] X.env=[(false,eval b X.env)]):
  PI X (.Tuple elts kk pt) (.Call (.Name "zip" p) [a,b] [] pos) (λσ H R=>ta σ H λvs H1=>∃k1 k2 l1 l2 xs ys,vs=[.ref l1,.ref l2]/\H1 l1=some (SK.tr k1 xs)/\H1 l2=some (SK.tr k2 ys)/\R (Itz X.K k1 k2 l1 l2) H1):=by
 intro pins s σ H R I h;refine Call_ (ZW I hg hm PyProof.Rows.Boot.«zip» (aS (thn (ha pos _ s σ H _ I h) λus s1 ⟨vs,H1,I1,r1,q1⟩=> ?_) (by rw[hs,hs2]) (by rw[hs2];rfl)))
 obtain⟨k1,k2,l1,l2,xs,ys,e,h1,h2,q⟩:=q1;subst e;obtain⟨u,v,rfl,ru,rv⟩:=Uq r1;obtain rfl:u=Value.ref l1:=ru;obtain rfl:v=Value.ref l2:=rv;obtain⟨its1,_,b1,o1,e1⟩:=Inv.seq I1 k1 (k1.sqOf h1);obtain⟨its2,_,b2,o2,e2⟩:=Inv.seq I1 k2 (k2.sqOf h2);refine xr (k1.of l1 _) (k2.of l2 _) b1 b2 λg n hn z1 z2 z3 z4 z5 kp=>wpAny_pyIter_zip z1 ?_;subst hn;have f:∀b∈[s1.heap.objs.size+4,s1.heap.objs.size+2,s1.heap.objs.size+3,s1.heap.objs.size,s1.heap.objs.size+1],JS X _ H1 b:=λb hb=>by
  have hb' :s1.heap.objs.size<=b:=by
   simp only[ah,aM,or_false]at hb;rcases hb with rfl | rfl | rfl | rfl | rfl
   ·exact aw _ _
   ·exact aw _ _
   ·exact aw _ _
   ·exact ai _
   ·exact aw _ _
  exact I1.fpOk hb' (I1.hok.fresh hb')
 exact⟨s1.heap.objs.size+4,_,_,_,H1,rfl,I1.kept kp,QC k1 k2 (ao e1) (ao e2),⟨z1,z2,⟨_,_,z3⟩,SK.start k1 z4,SK.start k2 z5⟩,f,q⟩
noncomputable def jR:T->R (List T)
 | .lst xs=> .ok xs
 | .tup xs=> .ok xs
 | _=> .bad
def xt (fa fb:En->R T):En->R (List T):=λρ=>(fa ρ).bind λt=>(fb ρ).bind λu=>(jR t).bind λxs=>(jR u).bind λys=> .ok (Y9 xs ys)
theorem Ya (r:Rep B v t)(e:jR t= .ok xs):∃(k:SK) (a:Addr) (vs:List V),v= .ref a/\B a=some (k.tr vs)/\zB B vs xs:=by
 cases r with
 | lst h r=>cases e;exact⟨.l,_,_,rfl,h,r⟩
 | tup h r=>cases e;exact⟨.t,_,_,rfl,h,r⟩
 | _=>cases e
theorem uG (t:T)(c:Nat):jR t ≠ .ex c:=by cases t <;> exact λz=>nomatch z
theorem z0L (hg:Gl X "zip")(hm:X.mg "zip"=none)(ha:Snd X Y a fa)(hb:Snd X Y b fb)(hs:starEach [a,b] X.env=[(false,eval a X.env),(false,eval b X.env)]:=by exact st2 rfl rfl)(hs2:starEach [b] X.env=[(false,eval b X.env)]:=by exact st1 rfl):
  W4 X Y (.Tuple elts kk pt) (.Call (.Name "zip" p) [a,b] [] pos) (xt fa fb):= .mk λρ=>
 PI.imp (Kc hg hm (zx (ha ρ) (zx (hb ρ) zM hs2) (by rw[hs,hs2])) hs hs2) λσ H R ⟨B,I,q⟩=>step I q λt v H1 _ s1 r1 I1 q1=>step I1 q1 λu v' H2 _ s2 r2 I2 q2=>by
  cases e1:jR t with
  | bad=>rw[e1]at q2;exact q2.elim
  | ex c=>exact absurd e1 (uG _ _)
  | ok xs=>
   rw[e1]at q2;cases e2:jR u with
   | bad=>rw[e2]at q2;exact q2.elim
   | ex c=>exact absurd e2 (uG _ _)
   | ok ys=>
    rw[e2]at q2;obtain⟨k1,a1,vs1,rfl,h1,w1⟩:=Ya (r1.mono (zH.ge I1.sB s2)) e1;obtain⟨k2,a2,vs2,rfl,h2,w2⟩:=Ya r2 e2;exact⟨k1,k2,a1,a2,vs1,vs2,rfl,I2.sB _ _ h1,I2.sB _ _ h2,ZB I2 (show Po Y rI _ H2 _ R from q2) (Kb h1 h2 w1 w2)⟩
end
end PV
namespace PV
open PySem PySem.Spec PyProof.Rows L2
section
def Yb:T->R T
 | .bl b=> .ok (.int (b2 b))
 | .int i=> .ok (.int i)
 | _=> .bad
theorem z0M (v:V)(t:T)(B H:Hp)(Q:VK)(r:Rep B v t)(sB:zt B H)(q:Po Y rC B H (Yb t) Q):
  (∃i,[v]=[V.int i]/\Q (.int i) H)\/∃k,[v]=[V.bl k]/\Q (.int (if k then 1 else 0)) H:=by
 cases r with
 | int i=>exact .inl ⟨i,rfl,po0 sB q rfl (.int i)⟩
 | bl k=>exact .inr ⟨k,rfl,po0 sB q rfl (by cases k <;> exact .int _)⟩
 | _=>exact q.elim
theorem Ke (gl:Gl X "int")(mg:X.mg "int"=none)(ha:Snd X Y a fa)(hs:St1 X a:=by exact st1 rfl):Snd X Y (.Call (.Name "int" p) [a] [] pos) (ap1 Yb fa):=
 vG yz z0M gl mg (PyProof.Rows.Boot.«int») ha hs
theorem Yc:Zo X (.type "range") (λxs H Q=>∃i j,xs=[.int i,.int j]/\∀r,H r=none->Q (.ref r) (upd H r (.rng i j))):=by
 intro pins s σ H xs us Q I r h;obtain⟨i,j,rfl,q⟩:=h;obtain⟨u,v,rfl,ru,rv⟩:=Uq r;obtain⟨t,rfl⟩:=ru;obtain⟨t',rfl⟩:=rv;exact call_range_2 ⟨.ref _,_,I.laid (λb o e=>aa _ e) (ai _) (show Zc _ X.w _ _ _ (.rng i j) from ⟨_,_,_,ag _ rfl⟩),rfl,q _ (I.hok.fresh (ai _))⟩
noncomputable def Q4 (lo:Int)(n:Nat):List V:=(a_ n).map λ(i:Nat)=>V.int (lo+(i:Int))
theorem wG (hh:X.A.handled=none):Zo X (.type "list") (λxs H Q=>∃r lo hi,xs=[.ref r]/\H r=some (.rng lo hi)/\(-1000000 < lo/\lo < 1000000/\ -1000000 < hi/\hi < 1000000)/\∀l,H l=none->Q (.ref l) (upd H l (.lst (Q4 lo (hi - lo).toNat)))):=by
 intro pins s σ H xs us Q I rv h;obtain⟨r,lo,hi,rfl,e,⟨c1,c2,c3,c4⟩,q⟩:=h;obtain⟨u,rfl,ru⟩:=ZK rv;obtain rfl:u=Value.ref r:=ru;obtain⟨t,v,v',eo⟩:=(show Zc _ X.w H _ r _ from I.hok r _ e);have hn:dQ lo hi 1=((hi - lo).toNat):=by rw[rangeSize_one];split <;> omega
 refine call_list_range hh eo (small_one (by omega) (by omega) (by omega) (by omega)) hn (by omega) λh' tk acc c kp eo' hacc=> ?_
 have hv:zR (Q4 lo (hi - lo).toNat) acc.toList:=by
  have key:∀(n:Nat) (lo:Int) (vs:List _),vs.length=n->(∀(j:Nat) (v:Value),vs[j]? =some v->∃t,v=Value.int (lo+(j)) t)->zR (Q4 lo n) vs:=by
   intro n
   induction n with
   | zero=>
    intro lo vs hl _;rw[List.eq_nil_of_length_eq_zero hl];exact .nil
   | succ n ih=>
    intro lo vs hl hv;cases vs with
    | nil=>cases hl
    | cons v vs=>
     have e:Q4 lo (n+1)=V.int (lo+0) :: Q4 (lo+1) n:=by
      unfold Q4;rw[ci,aI,bb];refine congrArg _ (bX λj _=> ?_);show V.int _=V.int _;congr 1;omega
     rw[e];refine .cons (hv 0 v rfl) (ih _ vs (by simpa using hl) λj x hx=> ?_)
     obtain⟨t,z⟩:=hv (j+1) x (by simpa using hx)
     exact⟨t,by rw[z];congr 1;omega⟩
  refine key _ lo _ (by simpa using hacc.1) λj v hj=> ?_
  obtain⟨t,z⟩:=hacc.2 j v (by simpa using hj)
  exact⟨t,by rw[z];congr 1;omega⟩
 have hz:(Q4 lo (hi - lo).toNat).length<=sizeLine:=by
  rw[bU];unfold Q4;rw[ae,bx];omega
 exact⟨.ref _,_,I.laid kp (ai _) (show Zc _ X.w _ h' _ (.lst _) from ⟨hz,acc.toList,c,hv,by simpa using eo'⟩),rfl,q _ (I.hok.fresh (ai _))⟩
def Gi (fi:En->R (List T)):En->R T:=λρ=>(fi ρ).bind λts=> .ok (.lst ts)
theorem Yd (lo:Int)(n:Nat):zB B (Q4 lo n) (rng lo n):=by
 unfold Q4 rng
 induction a_ n with
 | nil=>exact .nil
 | cons i is ih=>exact .cons (.int _) ih
theorem xu (hh:X.A.handled=none)(gl:Gl X "list")(mg:X.mg "list"=none)(gl' :Gl X "range")(mg' :X.mg "range"=none)(ha:Snd X Y a fa)(hb:Snd X Y b fb)
  (hs:starEach [a,b] X.env=[(false,eval a X.env),(false,eval b X.env)]:=by exact st2 rfl rfl) (hs2:St1 X b:=by exact st1 rfl):Snd X Y (.Call (.Name "list" p) [.Call (.Name "range" p') [a,b] [] pos'] [] pos) (Gi (jh fa fb)):= .mk λρ=>
 PE.imp (Zd (wG hh) gl mg PyProof.Rows.Boot.«list» (zx (Zd Yc gl' mg' boot_range (zx (ha ρ) (zx (hb ρ) zM hs2) (by rw[hs,hs2])) (by decide) (by decide) (by rw[hs,hs2]) (by rw[hs2];rfl)) zM (st1 rfl)) (by decide) (by decide) (st1 rfl) rfl) λσ H Q ⟨B,I,q⟩=>by
  have q:Po Y rC B H ((fa ρ).bind λt=>(fb ρ).bind λt' =>(match t,t' with | .int i,.int j=>if -1000000 < i/\i < 1000000/\ -1000000 < j/\j < 1000000 then R.ok (rng i (j - i).toNat) else .bad | _,_=> .bad).bind λts=> .ok (.lst ts)) Q:=by
   revert q;unfold Gi jh;cases fa ρ with
   | ok t=>cases fb ρ <;> exact λq=>q
   | ex c=>exact λq=>q
   | bad=>exact λq=>q
  refine step I q λt v H1 _ s1 r1 I1 q1=>step I1 q1 λt' v' H2 _ s2 r2 I2 q2=> ?_;cases r1 with
  | int i=>
   cases r2 with
   | int j=>
    by_cases c: -1000000 < i/\i < 1000000/\ -1000000 < j/\j < 1000000
    ·dsimp only at q2;rw[if_pos c]at q2;refine⟨i,j,rfl,λr hr=>⟨r,i,j,rfl,zw,c,λl hl=> ?_⟩⟩;have hlr:l ≠ r:=λz=>by rw[z,zw]at hl;cases hl
     have hl2:=by rw[zu hlr]at hl;exact hl
     refine q2 _ _ (zt.new hr _ |>.trans (zt.new hl _)) (.lst ?_ (Yd _ _))
     rw[zW hl2,zw]
    ·dsimp only at q2;rw[if_neg c]at q2;exact q2.elim
   | _=>exact q2.elim
  | _=>cases r2 <;> exact q2.elim
def mvS (i j:Nat):En->RS:=λρ=>match ρ[j]? with
 | some (.ow ts)=> .nx ((ρ.set j (.vl (.lst ts))).set i (.vl (.lst ts)))
 | _=> .bad
theorem SI.give (I:SI Y B ρ σ H)(hj:ρ[j]? =some (.ow ts)):∃(a:Addr) (B' :Hp),σ[j]? =some (some (V.ref a))/\zt B B' /\Rep B' (.ref a) (.lst ts)/\SI Y B' (ρ.set j (.vl (.lst ts))) σ H:=by
 obtain⟨a,xs,e,b0,h0,hh,rr,d⟩:=I.ow j ts hj;have s1:zt B (upd B a (.lst xs)):=zt.new b0 _;have rp:Rep _ _ _:= .lst zw (rr.mono s1);refine⟨a,_,e,s1,rp,⟨I.s0,I.sH,λb o q=> ?_,λb o q=> ?_,by rw[aF];exact I.len,λk t q=> ?_,λk us q=> ?_,λk c q=> ?_, ?_⟩⟩
 ·by_cases hb:b=a
  ·subst hb;rw[zw]at q;cases q;exact hh
  ·rw[zu hb]at q;exact I.sB b o q
 ·rw[zu λz=>by rw[z,h0]at q;cases q];exact I.old b o q
 ·rcases zr q with ⟨rfl,z⟩ | ⟨_,z⟩
  ·cases z;exact⟨_,e,rp⟩
  ·obtain⟨v,e1,r⟩:=I.vl k t z;exact⟨v,e1,r.mono s1⟩
 ·rcases zr q with ⟨rfl,z⟩ | ⟨hk,z⟩
  ·cases z
  ·obtain⟨a',xs',e',b0',h0',hh',rr',d'⟩:=I.ow k us z;have hne:a' ≠ a:=λw=>by subst w;exact d k us hk z e'
   refine⟨a',xs',e',by rw[zu hne];exact b0',h0',hh',rr'.mono s1,λm ws hm hw=> ?_⟩
   rcases zr hw with ⟨rfl,w⟩ | ⟨_,w⟩
   ·cases w
   ·exact d' m ws hm w
 ·rcases zr q with ⟨rfl,z⟩ | ⟨_,z⟩
  ·cases z
  ·obtain⟨a',e',r⟩:=I.xc k c z;exact⟨a',e',s1 _ _ r⟩
 ·obtain⟨as,O,x⟩:=I.st;refine⟨as,O,x.on (λk y hy h=> ?_) s1 rfl rfl (zt.refl _) λb o hb b0' h0' cs=> ?_⟩
  ·rcases zr h with ⟨_,z⟩ | ⟨_,z⟩
   ·subst z;cases hy
   ·exact⟨z,rfl⟩
  ·have hne:b ≠ a:=λz=>by
    subst z;rcases cs with ⟨C,dx,vs,ez⟩ | ok
    ·rw[hh]at hb;cases hb;cases ez
    ·exact ok j ts hj e
   refine⟨hb,by rw[zu hne];exact b0',h0',λok k us h=> ?_⟩
   rcases zr h with ⟨_,z⟩ | ⟨_,z⟩
   ·cases z
   ·exact ok k us z
theorem s_mv (hv:PE X (.Name y yp) (jK j))(hN:X.N.Nodup)(hi:X.N[i]? =some x)(hx:L2.Loc X.env.scope x)(hs:swapsWith (.Name y yp) (some (.Name x p')) pos.line X.env=pure false:=by rfl)
  (hf:X.fn x=true\/X.env.scope.names.lookup x=some .local:=by first | exact .inl rfl | exact .inr rfl | assumption):jA X Y (.Assign [.Name x p'] (.Name y yp) pos) (mvS i j):= .mk λρ=>
 PS.imp (JR hN hi hx hv hs hf) λD σ H ⟨B,I,q⟩=>by
  unfold mvS at q;split at q
  ·rename_i ts e;obtain⟨a,B',e1,s1,r,J⟩:=I.give e;exact⟨_,e1,q _ _ B' s1 (J.setV i r)⟩
  ·exact q.elim
end
def eqs (y:T):List T->Option (List Bool)
 | []=>some []
 | t :: ts=>match eqF 30 t y with
  | none=>none
  | some b=>match eqs y ts with
   | none=>none
   | some bs=>some (b :: bs)
def cntT (y:T)(ts:List T):R T:=match eqs y ts with
 | some bs=> .ok (.int (bs.count true))
 | none=> .bad
def Ye (y:T)(ts:List T):R T:=match eqs y ts with
 | some bs=>if true∈bs then .ok (.int (bs.idxOf true)) else .bad
 | none=> .bad
def Gj (g:T->List T->R T)(fa fb:En->R T):En->R T:=λρ=>(fa ρ).bind λt=>match t with
 | .lst ts=>(fb ρ).bind λu=>g u ts
 | _=> .bad
theorem vP {H:Hp}{y:T}{e:Value->Bool}(he:∀(v:V) (t:T) (u:Value) (b:Bool),Za v u->Rep H v t->eqF 30 t y=some b->e u=b):∀{xs:List V} {ts:List T} {its:List Value} {bs:List Bool},
  zR xs its->zB H xs ts->eqs y ts=some bs->its.map e=bs/\∀u∈its,∃v t k,Za v u/\Rep H v t/\eqF 30 t y=some k
 | _,_,_,_,.nil,.nil,h=>by
  cases h;exact⟨rfl,λu hu=>by simp at hu⟩
 | _,_,_,_,.cons rv vs,.cons r rs,h=>by
  rename_i v u vals us t ts;unfold eqs at h;cases q:eqF 30 t y with
  | none=>rw[q]at h;cases h
  | some k=>
   rw[q]at h;cases q' :eqs y ts with
   | none=>rw[q']at h;cases h
   | some k' =>
    rw[q']at h;cases h;obtain⟨h1,h2⟩:=vP he vs rs q';refine⟨by rw[aI,h1,he v t u k rv r q],λw hw=> ?_⟩
    rcases ah.mp hw with z | hw
    ·exact⟨v,t,k,z ▸ rv,r,q⟩
    ·exact h2 w hw
section
theorem QE (hu:X.A.units+64 < cLine):MtR X "list.index" (λx xs H Q=>∃l ys ts v t bs,x= .ref l/\xs=[v]/\H l=some (.lst ys)/\zB H ys ts/\Rep H v t/\eqs t ts=some bs/\true∈bs/\Q (.int (bs.idxOf true)) H):=by
 intro pins s σ H x xs v0 us Q I rx rv h;obtain⟨l,ys,ts,v,t,bs,rfl,rfl,hl,r,rt,e,hm,q⟩:=h;obtain rfl:v0=Value.ref l:=rx;obtain⟨u,rfl,ru⟩:=ZK rv;obtain⟨hz,its,n,ri,eo⟩:=(show Zc _ X.w H _ l _ from I.hok l _ hl);obtain⟨f,hf⟩:=yT λz=>eqF 30 z t;obtain⟨h2,h3⟩:=vP hf ri r e;have hj:=List.idxOf_lt_length_iff.mpr hm;have hlen:bs.length=its.length:=by rw[← h2,ae]
 have hri:=ri.length;rw[bU]at hz;have hat:∀m (hm:m < its.length),f its[m]=bs[m]'(by rw[hlen];exact hm):=λm hm=>by
  have:(its.map f)[m]'(by rw[ae];exact hm)=bs[m]'(by rw[hlen];exact hm):=by simp only[h2]
  rw[← this,List.getElem_map]
 refine df dZ ⟨_,eo,rfl⟩ PySem.F.entry_list_index (PySem.F.args_list_index_2 _ _) (SeqAt.list_indexAt l _ n _ #[] u f _ (by rw[az,← hlen];exact hj) (by omega) ?_ ?_) ⟨eo,λw hw=> ?_, ?_⟩
 ·rw[eX,hat];exact List.getElem_idxOf hj
 ·intro m hm hlt;rw[eX,hat m (by simpa using hm)]
  have:=List.not_of_lt_findIdx hlt;simpa using this
 ·obtain⟨v',t',k,rv',rr,ee⟩:=h3 w (by simpa using hw)
  rw[hf v' t' w k rv' rr ee];exact(Qo I 30 _ (by rw[Js];omega) t' t k v' v w u ee rr rt rv' ru).1
 ·exact⟨.int _,H,I.tok _,⟨_,rfl⟩,q⟩
theorem xv (hu:X.A.units+64 < cLine)(ha:ji X Y a fa)(hb:ji X Y b fb)(hb1:attributeBase a "index" X.env (eval a X.env)=eval a X.env:=by rfl)(hs:St1 X b:=by exact st1 rfl)(hz:(pa.endLine == p.line)=true:=by rfl):
  Snd X Y (.Call (.Attribute a "index" pa) [b] [] p) (Gj Ye fa fb):= .mk λρ=>by
 have e1:(((((backTo p (starEach [b] X.env)).all λx=> !x.fst) && (backToKw p (keywordEach [] X.env)).all λx=>x.fst.isSome) && decide (([b].length+([]:List Keyword).length+if ([]:List Keyword).isEmpty=true then 0 else 1) < 30))=true):=by rw[hs];rfl
 refine PE.imp (UA bI dZ PySem.F.type_list_index (QE hu) (ha ρ) (zx (hb ρ) zM hs) hb1 e1 hz hs rfl) λσ H Q ⟨B,I,q⟩=>step I q λt v H1 _ s1 r1 I1 q1=> ?_;cases t with
 | lst ts=>
  cases r1 with
  | @lst l xs _ h r=>
   refine⟨.inl ⟨rfl,_,SqL.of h⟩,step I1 q1 λu v' H2 _ s2 r2 I2 q2=> ?_⟩;unfold Ye at q2;split at q2
   ·rename_i bs e;split at q2
    ·rename_i hm;exact⟨l,xs,ts,v',u,bs,rfl,rfl,s2 _ _ h,r.mono s2,r2,e,hm,ZB I2 q2 (.int _)⟩
    ·exact q2.elim
   ·exact q2.elim
 | _=>exact q1.elim
end
noncomputable def Zq:List T->Option (List Int)
 | []=>some []
 | .int i :: r=>match Zq r with | some l=>some (i :: l) | none=>none
 | _ :: _=>none
def xw:T->R T
 | .lst ts=>match Zq ts with | some l=> .ok (.int l.sum) | none=> .bad
 | _=> .bad
def vQ (fi:En->R (List T))(g:T->En->R En)(ft:En->R Bool)(fe:En->R T)(k:Nat)(js:List Nat):En->RS:=λρ=>(fi (frz ρ)).s λts=>(zD g ft fe k js (frz ρ) ts).s λvs=> .rf vs
def vR:En->RS:=λ_=> .bad
theorem z0N {X:Cx}{Y:Fx}{st:Stmt}:jA X Y st vR:= .mk λρ=>λpins s σ H D I ⟨B,J,q⟩=>q.elim
theorem wH:∀{H:Hp} {xs:List V} {ts:List T} {its:List Value} {is:List Int},zB H xs ts->zR xs its->Zq ts=some is->∃ps:List (Int×Tok),its=ps.map (λp=>Value.int p.1 p.2)/\ps.map (·.1)=is
 | _,_,_,_,is,.nil,.nil,h=>by
  have h' :=h;cases h';exact⟨[],rfl,rfl⟩
 | H,_,_,_,is,.cons r rs,.cons rv vs,h=>by
  cases r with
  | int i=>
   unfold Zq at h;split at h
   ·rename_i l e;cases h;obtain⟨ps,h1,h2⟩:=wH rs vs e;obtain⟨tk,rfl⟩:=rv;exact⟨(i,tk) :: ps,by rw[h1];rfl,by rw[aI,h2]⟩
   ·cases h
  | _=>cases h
section
variable {X:Cx}{Y:Fx}{a b:Expr}{fa fb:En->R T}{pos p p' pos' :Pos}
theorem Yf (hh:X.A.handled=none):Zo X (.builtin "sum") (λvs H Q=>∃l xs ts is,vs=[.ref l]/\H l=some (.lst xs)/\zB H xs ts/\Zq ts=some is/\Q (.int is.sum) H):=by
 intro pins s σ H vs us Q I rv h;obtain⟨l,xs,ts,is,rfl,hl,r,hk,q⟩:=h;obtain⟨u,rfl,ru⟩:=ZK rv;obtain rfl:u=Value.ref l:=ru;obtain⟨its,rv,p,_⟩:=zO I (.inl hl) r;obtain⟨ps,h1,h2⟩:=wH r rv hk;have e:its.toArray=intItems ps.toArray:=by rw[h1];simp[intItems]
 rw[e]at p;refine sum_intListG hh p λh' tk t' kp=> ?_;have e2:preSum (numAt ps.toArray) ps.toArray.size=is.sum:=by
  rw[preSum_eq,eK (by simp),← h2]
 rw[e2];exact⟨.int _,H,I.kept kp,⟨t',rfl⟩,q⟩
theorem z0O (hh:X.A.handled=none)(gl:Gl X "sum")(mg:X.mg "sum"=none)(ha:ji X Y a fa)(hs:St1 X a:=by exact st1 rfl):Snd X Y (.Call (.Name "sum" p) [a] [] pos) (ap1 xw fa):=
 Wj (Yf hh) (λv t B H Q r sB q=>by
  cases r with
  | @lst l xs ts h r=>
   have q:Po Y rC B H (match Zq ts with | some k=> .ok _ | none=> .bad) Q:=q
   split at q
   ·rename_i k e;exact⟨l,xs,ts,k,rfl,h,r,e,po0 sB q rfl (.int _)⟩
   ·exact q.elim
  | _=>exact q.elim) gl mg boot_sum ha hs
end
def PoF (Y:Fx)(B H:Hp)(r:R T)(Q:VK):Prop:=match r with
 | .ok (.lst us)=>∀a xs H' B',zt H H' ->H a=none->H' a=some (.lst xs)->zB B' xs us->B' a=none->zt B' (zH B H H')->Q (.ref a) H'
 | .ok _=>False
 | .ex c=>XP Y B c
 | .bad=>False
def spF (cl:Nat->Value)(n:Nat)(g:List T->R T):Sp:=λvs H Q E=>∃B ts,ts.length=n/\zt B H/\zB B vs ts/\PoF ⟨B,H,E,cl,[]⟩ B H (g ts) Q
theorem spF.len (vs:List V)(H:Hp)(Q:VK)(E:XK)(h:spF cl n g vs H Q E):vs.length=n:=by
 obtain⟨B,ts,hl,_,r,_⟩:=h;rw[r.length,hl]
def del (B:Hp)(a:Addr):Hp:=λb=>if b=a then none else B b
theorem xx:del B a a=none:=if_pos rfl
theorem QF (h:b ≠ a):del B a b=B b:=if_neg h
section
variable {X:Cx}{Y:Fx}{tg iter elt:Expr}{ifs:List Expr}{scope:Scope}{pos pos' :Pos}{N' :List Str}{k:Nat}{js:List Nat}{fi:En->R (List T)}{tG:TG}{g:T->En->R En}{ft:En->R Bool}{fe:En->R T}
theorem Kf (C:w8 X Y tg iter elt ifs scope N' k js fi tG g ft fe):jA X Y (.Return (some (.ListComp elt [⟨tg,iter,ifs,0⟩] scope pos)) pos') (vQ fi g ft fe k js):= .mk λρ=>by
 have pe:PE X (.ListComp elt [⟨tg,iter,ifs,0⟩] scope pos) (λσ H Q=>∃B,SI Y B (frz ρ) σ H/\PoS Y B ((fi (frz ρ)).s λts=>(zD g ft fe k js (frz ρ) ts).s λvs=> .rf vs) { nx:=λ_ _=>False,rt:=Q }):=by
  intro pins s σ H Q I ⟨B,J,q⟩;refine wB (jO rfl) (F:=λD H' =>Q (.ref D) H') (te:=λσ H Q=>∃Y' ρ',Y'.cl=Y.cl/\(Y'.E=λ_ _ _=>False)/\tS Y' rC fe ρ' σ H Q) (tt:=λσ H Q=>∃Y' ρ',Y'.cl=Y.cl/\tS Y' rE ft ρ' σ H Q) C.sc C.cp C.cm (C.it (frz ρ)) C.gt
   (λcl Cx' s3 H3 fp pins pins' s σ H Q I ⟨Y',ρ',ey,q⟩=>C.tt Y' ey cl Cx' s3 H3 fp _ ρ' _ s σ H Q I q) (λcl Cx' s3 H3 fp pins xe hp pins' s σ H Q I ⟨Y',ρ',ey,eE,q⟩=>C.el Y' ey cl Cx' s3 H3 fp _ xe (eE ▸ hp) ρ' _ s σ H Q I q) I ?_ ?_ C.hs
  ·refine ZZ J q λts it' H1 _ s1 r1 J1 q1=> ?_;intro D hD;unfold zD at q1;split at q1
   ·rename_i hl;cases ev:zG g ft fe ts _ with
    | bad=>rw[ev]at q1;exact q1.elim
    | ex c=>rw[ev]at q1;exact q1.elim
    | ok vs=>
     rw[ev]at q1;refine Ju C.gk C.gn J1 r1 hl ev hD λH' xs B' s' e' r' l' b' sb' => ?_;exact(show PoS Y _ _ _ from q1) D xs H' B' (J1.sH.trans s') (J1.sH.free hD) e' r' b' (l'.trans (Wn J1.sH J1.old s' J1.sB))
   ·exact q1.elim
  ·intro D Cc H' s' I' q' hC h0 hL hcell hpin hns;obtain⟨m,hm⟩:=hns;refine⟨m,hm,λh' hsb=>⟨.ref D,H', ?_,rfl,q'⟩⟩;exact I'.turned (λb o hb e=>hsb.extBut b o hb e) hC (aX hL).symm (.inr h0) hcell hpin
 refine PS.imp (jY pe) λD σ H ⟨B,I,q⟩=>⟨_,I.frz, ?_⟩;have q:=PoS.up I.up q;unfold vQ at q;revert q;cases fi _ with
 | bad=>exact λq=>q
 | ex c=>exact λq=>q
 | ok ts=>
  show PoS Y _ ((zD g ft fe k js _ ts).s λvs=> .rf vs) D->PoS Y _ ((zD g ft fe k js _ ts).s λvs=> .rf vs) _;cases zD g ft fe k js _ ts with
  | bad=>exact λq=>q
  | ex c=>exact λq=>q
  | ok vs=>exact λq=>q
end
def WR (f:En->RS):Prop:=∀ρ t,f ρ ≠ .rt t
theorem xy (h:WR f)(h' :WR g):WR (zA f g):=λρ t e=>by
 unfold zA at e;cases q:f ρ with
 | nx ρ' =>rw[q]at e;exact h' ρ' t e
 | rt u=>exact h ρ u q
 | bk ρ' =>rw[q]at e;cases e
 | ct ρ' =>rw[q]at e;cases e
 | ex c=>rw[q]at e;cases e
 | bad=>rw[q]at e;cases e
 | rf us=>rw[q]at e;cases e
theorem Kg (h:WR f)(h' :WR g):WR (ifS c f g):=λρ t e=>by
 unfold ifS at e;cases q:c ρ with
 | bad=>rw[q]at e;cases e
 | ex c=>rw[q]at e;cases e
 | ok k=>
  rw[q]at e;cases k with
  | true=>exact h ρ t e
  | false=>exact h' ρ t e
theorem QG:WR (jn f):=λρ t e=>by unfold jn at e;cases q:f ρ <;> rw[q]at e <;> cases e
theorem xz:WR (zV i f):=λρ t e=>by unfold zV at e;cases q:f ρ <;> rw[q]at e <;> cases e
theorem xA:WR vR:=λρ t e=>nomatch e
theorem Kh:WR nxS:=λρ t e=>nomatch e
theorem QH {g:T->En->R En}{js:List Nat}:WR (vQ fi g ft fe k js):=λρ t e=>by
 unfold vQ at e;cases q:fi _ with
 | bad=>rw[q]at e;cases e
 | ex c=>rw[q]at e;cases e
 | ok ts=>
  rw[q]at e;have e:((zD g ft fe k js _ ts).s λvs=> .rf vs)=RS.rt t:=e;cases q' :zD g ft fe k js _ ts <;> rw[q']at e <;> cases e
section
variable {P:Program}{w:World}{K:a9}{mg:Str->Option Value}{base:Heap}
theorem vS {Y:Fx}{H:Hp}{fb:RS}{Q:VK}(hr:∀t,fb ≠ .rt t)(q:PoF Y Y.B0 Y.H0 (zy fb) Q):PoS Y Y.B0 fb { nx:=λ_ H' =>Q .non H',rt:=Q }:=by
 revert q hr;cases fb with
 | rt t=>exact λhr=>absurd rfl (hr t)
 | rf us=>exact λ_ q=>q
 | nx ρ=>exact λ_ q=>q.elim
 | bk ρ=>exact λ_ q=>q.elim
 | ct ρ=>exact λ_ q=>q.elim
 | ex c=>exact λ_ q=>q
 | bad=>exact λ_ q=>q
theorem xB {cl:Nat->Value}{x qual:Str}{st:Stmt}{f:Addr}{fd:FuncData}{N ps:List Str}{k n:Nat}{fb:En->RS}{g:List T->R T}(F:Fun K x qual st f fd)(S:ZF N ps (zq st))(hn:n=ps.length)
  (hb:∀(cdv:Value) (A:Around) (outer:List Env) (s:Shared) (H:Hp) (E:XK) (Y:Fx),Y.cl=cl->Y.E=E->Zy k (A.deeper (envOfC qual (zq st) s.heap.objs.size f cdv))->
   JZ (jv (CX1 P w) P w K mg base N qual (zq st) f cdv A outer s H E) Y (zK st) fb)
  (hg:∀ts,ts.length=n->g ts=zy (fb (en0 N.length ts))) (hr' :WR fb):ZX P w K mg base (CX1 P w) (k+1) f fd ps (spF cl n g):=by
 subst hn;refine Fun.okX F S spF.len λcdv A outer s H vs Q E hr ⟨B,ts,hl,sB,r,q⟩=> ?_;refine⟨_,hb cdv A _ s H E ⟨B,H,E,cl,[]⟩ rfl rfl hr _,B,SI.start sB r, ?_⟩;rw[hg ts hl]at q;exact vS (H:=H) (hr' _) q
end
end PV
namespace PySem.RV
open PySem PySem.Spec PyProof.Rows PySem.Builtin.SmallTypes
theorem uH:Manifest.owners.lookup (String.ofList "desrever".toList.reverse)=some Manifest.sig_reversed:=by kernel_rfl
theorem j0:Slot "reversed" "__next__" "reversed.__next__":=
 .of (owner:="reversed") (n:="__next__") (by kernel_rfl) (by decide+kernel) (by decide+kernel) (by decide+kernel)
  (by first | exact .inl (by decide+kernel) | exact .inr (by decide+kernel)) (by kernel_rfl)
theorem wb:entryFor table "reversed.__next__"=some Builtin.«reversed.__next__»:=entryFor_of_tree (by kernel_rfl)
theorem Wq (a:Value):argsOk "reversed.__next__" ⟨[a],[]⟩:=by
 unfold argsOk;rw[signature?_of (n:="__txen__".toList) (by kernel_rfl) uH];kernel_rfl
theorem Wr:Slot "reversed" "__iter__" "reversed.__iter__":=
 .of (owner:="reversed") (n:="__iter__") (by kernel_rfl) (by decide+kernel) (by decide+kernel) (by decide+kernel)
  (by first | exact .inl (by decide+kernel) | exact .inr (by decide+kernel)) (by kernel_rfl)
theorem Yg (a:Value):argsOk "reversed.__iter__" ⟨[a],[]⟩:=by
 unfold argsOk;rw[signature?_of (n:="__reti__".toList) (by kernel_rfl) uH];kernel_rfl
theorem UJ:entryFor table "reversed.__iter__"=some Builtin.«dict_keyiterator.__iter__»:=
 entryFor_alias (id' :="dict_keyiterator.__iter__") (by kernel_rfl) (by first | rfl | decide+kernel | (unfold String.splitOn;simp+decide [String.splitOnAux])) (by decide+kernel) (by kernel_rfl)
theorem Ki:typeLookup (.type "tuple") "__reversed__"=pure none:=by rw[typeLookup_type,builtinLookup_eq_fast];kernel_rfl
theorem Kj:isSubtype (.type "tuple") (.type "dict")=pure false:=by rw[isSubtype_type];kernel_rfl
noncomputable abbrev IsRv (h:Heap)(it:Addr)(v:Value)(i:Int):Prop:=h.get? it=some { cls:= .type "reversed",data:= .fields #[v,rawInt i] }
section
variable {prog:Program}{w:World}{A:Around}{E:Value->Shared->Prop}{s:Shared}{it l:Addr}{xs:Array Value}
theorem u3 {v:Value}{i:Int}(x:IsRv s.heap it v i):s.TypeIs (.ref it) "reversed":=⟨_,x,rfl⟩
theorem next_item {i:Nat}{x:Value}{Q:Option Value->Shared->Prop}(hit:IsRv s.heap it (.ref l) (i:Int))(ht:IsTup s.heap l xs)(hf:(xs.size:Int) < 2 ^ 63)(hx:xs[i]? =some x)
  (hQ:∀h' tk,IsRv h' it (.ref l) ((i:Int) - 1)->bT it s.heap h' ->Q (some x) { s with heap:=h',toks:=tk }):wpAny (model prog w) A (pyNext (.ref it)) Q E s:=by
 refine a7 (wpAny_attempt (bn (u3 hit) j0 (bF j0 (u3 hit) wb ?_ (Wq _))));refine a7 (cf rfl ?_);refine a7 (ba hit rfl rfl ?_);refine a7 (ba hit rfl rfl ?_);have hi:=(Array.getElem?_eq_some_iff.mp hx).1;have hT:=ht.typeIs;refine a7 (wpAny_specialOf hT slot_tuple_getitem.lookup ?_);refine a7 (wpAny_mkInt ?_);refine a7 (wpAny_attempt (getItem_tuple ht (by omega) (by omega) (seqIndex_of (by omega) (by omega)) (by simpa using hx) ?_))
 refine a7 (ba hit rfl rfl ?_);refine a7 (br hit (by simp) λg1 z1 e1=> ?_)
 exact ax ⟨x,rfl,ax (hQ g1 _ z1 e1)⟩
theorem next_end {Q:Option Value->Shared->Prop}(hh:A.handled=none)(hit:IsRv s.heap it (.ref l) (-1))
  (hQ:∀h',eW it s.heap h' ->Q none { s with heap:=h' }):wpAny (model prog w) A (pyNext (.ref it)) Q E s:=by
 refine a7 (wpAny_attempt (bn (u3 hit) j0 (bF j0 (u3 hit) wb ?_ (Wq _))));refine a7 (cf rfl ?_);refine a7 (ba hit rfl rfl ?_);refine a7 (ba hit rfl rfl ?_);refine a7 (wpAny_rule ?_);refine a7 (show wpAny _ _ _ _ _ _ from ?_);refine a7 (br hit (by simp) λg1 z1 e1=> ?_)
 refine br z1 (by simp) λg2 z2 e2=> ?_
 refine a7 (show wpAny _ _ (newExc _ [] >>= λe=>raiseNew e) _ _ _ from ?_);refine a7 ?_;refine a7 (be (a7 (cf (by first | rfl | (simp only[firstArgMember])) (be ?_ (by size_fits)))) (by size_fits))
 refine a7 (wpAny_handled ?_);rw[hh];refine a7 (ax (wpAny_throw ?_));refine a7 (wpAny_isInstance ⟨_,ag _ rfl,rfl⟩ isSubtype_stop ?_);exact ax (hQ _ (((e1.extBut.trans e2.extBut).push _).push _))
theorem iter_rv {v:Value}{i:Int}{Q:Value->Shared->Prop}(hit:IsRv s.heap it v i)(h:Q (.ref it) s):wpAny (model prog w) A (pyIter (.ref it)) Q E s:=by
 refine wpAny_pyIter_slot (u3 hit) Wr (bF Wr (u3 hit) UJ ?_ (Yg _));exact ax ⟨_,rfl,"reversed",_,u3 hit,j0.lookup,h⟩
theorem vT:mroOf (.type "reversed")=pure [.type "reversed",.type "object"]:=by rw[mroOf_type];kernel_rfl
theorem Kk:typeLookup (.type "reversed") "__new__"=pure (some (.builtin "reversed.__new__")):=by kernel_rfl
theorem xC:Bind.madeBy (.type "reversed")=pure (some "reversed.__new__"):=madeBy_type vT Kk (by decide+kernel)
theorem Kl:isSubtype (.type "reversed") (.type "reversed")=pure true:=by rw[isSubtype_type];kernel_rfl
theorem Km (a:Value):newClass "reversed" ⟨[.type "reversed",a],[]⟩=pure (.type "reversed",[a]):=by
 unfold newClass;simp only[isType,Kl,pure_bind,dL,aO,if_false]
theorem Yh:entryFor table "reversed.__new__"=some Builtin.«reversed.__new__»:=entryFor_of_tree (by kernel_rfl)
theorem QJ {Q:Fin->Shared->Prop}(ht:IsTup s.heap l xs)(hf:(xs.size:Int) < 2 ^ 63)
  (h:∀tk,Q (.done (.ret (.ref s.heap.objs.size))) { s with heap:=s.heap.push { cls:= .type "reversed",data:= .fields #[.ref l,rawInt ((xs.size:Int) - 1)] },toks:=tk }):
  wpAny (model prog w) A (Builtin.«reversed.__new__» ⟨[.type "reversed",.ref l],[]⟩) Q E s:=by
 have hT:=ht.typeIs;refine a7 (cf (Km _) ?_);refine a7 (cf (by first | rfl | kernel_rfl) ?_)
 refine a7 (cf (by first | rfl | kernel_rfl) ?_)
 refine a7 (wpAny_specialOf hT Ki ?_);refine a7 ?_;refine a7 (wpAny_isInstance hT Kj ?_);refine a7 (wpAny_specialOf hT slot_tuple_getitem.lookup ?_);refine ax ?_;refine a7 (len_tuple ht hf ?_);refine a7 (cf rfl ?_);refine a7 (show wpAny _ _ (newObj _ (.fields #[.ref l,rawInt _])) _ _ _ from ?_);exact be (ax (h _)) (by size_fits)
theorem Yi:Slot "reversed" "__init__" "object.__init__":=
 .of (owner:="object") (n:="__init__") (by kernel_rfl) (by decide+kernel) (by decide+kernel) (by decide+kernel)
  (by first | exact .inl (by decide+kernel) | exact .inr (by decide+kernel)) (by kernel_rfl)
theorem Yj:TypeCalled "reversed" "reversed.__new__" "object.__init__":=
 ⟨by decide+kernel,by decide+kernel,⟨_,_,vT⟩,xC,by decide+kernel,by kernel_rfl,Yi⟩
theorem QK (a:Value):checkTypeCall "reversed" ⟨[a],[]⟩=pure ():=by kernel_rfl
theorem QL (a:Value):checkBuiltinCall "reversed.__new__" ⟨[.type "reversed",a],[]⟩=pure ():=by kernel_rfl
theorem call_rvT (ht:IsTup s.heap l xs)(hf:(xs.size:Int) < 2 ^ 63)
  (h:∀tk,Q (.ref s.heap.objs.size) { s with heap:=s.heap.push { cls:= .type "reversed",data:= .fields #[.ref l,rawInt ((xs.size:Int) - 1)] },toks:=tk }):wpAny (model prog w) A (call (.type "reversed") [.ref l]) Q E s:=by
 refine callType_new (S:=λ_ R s=>(∃xs,IsTup s.heap l xs/\(xs.size:Int) < 2 ^ 63/\∀tk,R (.ok (.ret (.ref s.heap.objs.size))) { s with heap:=s.heap.push { cls:= .type "reversed",data:= .fields #[.ref l,rawInt ((xs.size) - 1)] },toks:=tk })) Yj (by decide) (QK _) (QL _) (λobj=>PySem.F.args_object_init_2 obj _) Yh (.of_wp λprog w A R s h=> ?_) ⟨xs,ht,hf,λtk=> ?_⟩
 ·obtain⟨xs,h1,h2,h3⟩:=h;exact QJ h1 h2 λtk=>⟨_,rfl,h3 tk⟩
 ·exact⟨⟨_,ag _ rfl,rfl⟩,h tk⟩
end
end PySem.RV
namespace PySem.RV
open PySem PySem.Spec PyProof.Rows
theorem QN:typeLookup (.type "list_reverseiterator") "__len__"=pure none:=by rw[typeLookup_type,builtinLookup_eq_fast];kernel_rfl
theorem xD:typeLookup (.type "list_reverseiterator") "__length_hint__"=pure (some (.builtin "list_reverseiterator.__length_hint__")):=by rw[typeLookup_type];kernel_rfl
section
variable {G:Array GenState->Array GenState->Prop}{P:Nat->Value->Prop}{St:Nat->Shared->Prop}
theorem UK {Q:List Value->Shared->Prop}(W:WalksS prog w A.in1 I fp wr G n P St)(hT:∀i s,St i s->s.TypeIs (.ref I) "list_reverseiterator")(hst:St 0 s)(hfp:∀b∈fp,b < s.heap.objs.size)(hI:I∈fp)
  (hQ:∀s' acc,Moved wr G s s' ->ItemsOf P acc n->Q acc.toList s') (hn:n<=sizeLine):wpAny (model prog w) A (collect (.ref I)) Q E s:=by
 have nf:=λz=>aY _ (hfp _ z);have nI:s.heap.objs.size ≠ I:=λz=>nf (z ▸ hI);unfold collect;refine a7 (wpAny_runValue (cq F.entry_proto_collect ?_));refine a7 (be (ax ⟨plainId_quiet F.plain_list_iadd _,cq F.entry_list_iadd ?_⟩));have g0:=W.frame 0 s (s.heap.push { cls:= .type "list",data:= .seq ([]:List _).toArray }) _ hst (ai _) λb _ o e=>aa _ e;have g1:(s.heap.push { cls:= .type "list",data:= .seq ([]:List _).toArray }).get? _=some _:=ag _ rfl;have g2:dM (.ref s.heap.objs.size) (.ref I)=false:=by simp[dM,nI]
 refine(show wpAny _ _ (Builtin.List.listExtendWith _ _ _) _ _ _ from ?_);refine a7 (wpAny_typeOf (hT 0 _ g0) ?_);rw[if_neg (by rw[g2];decide)]
 refine a7 (W.self 0 _ _ _ g0 (a7 (bW ?_)));refine a7 (wpAny_specialOf (hT 0 _ g0) QN ?_);refine a7 (wpAny_specialOf (hT 0 _ g0) xD ?_);generalize hid:("list_reverseiterator.__length_hint__")=id0;subst hid;refine a7 (wpAny_isInstance (b:=true) (hT 0 _ g0) (by kernel_rfl) ?_)
 refine ax ?_;refine ax ⟨plainId_quiet F.plain_extend_loop _,codeAny_extend_loopS W hn _ nf _ n 0 _ _ _ rfl (bg _) g0 g1 (ItemsOf.nil P) λs' acc' c' hm hS' hacc=> ?_⟩;exact a7 (wpAny_load hS' (ax (hQ s' _ (Moved.drop_new hm (ai _)) hacc)))
theorem Kn (W:WalksS prog w A.in1.in1 I fp wr G n P St)(hT:∀i s,St i s->s.TypeIs (.ref I) "list_reverseiterator")(hst:St 0 s)(hfp:∀b∈fp,b < s.heap.objs.size)(hI:I∈fp)
  (h:∀s' acc,Moved wr G s s' ->ItemsOf P acc n->Q₁ (.ref s'.heap.objs.size) { s' with heap:=s'.heap.push { cls:= .type "tuple",data:= .seq acc } }) (hsz:n<=sizeLine):
  codeAny (model prog w) A (.call (.builtin "tuple.__new__") ⟨[.type "tuple",.ref I],[]⟩) (wants Q₁ E) s:=by
 refine codeAny_of_tree ?_;refine(show wpAny _ A.in1 (do checkBuiltinCall "tuple.__new__" ⟨[.type "tuple",.ref I],[]⟩;again (.builtin "tuple.__new__" ⟨[.type "tuple",.ref I],[]⟩)) _ _ s from ?_)
 refine a7 (cf (F.newCall_tuple_1 _) (ax ⟨plainId_quiet fK _,cq F.entry_tuple_new ?_⟩));rw[Around.under_plainId fK _];have hsub:=sub_tuple_self;have hinit:=init_tuple_lookup;have hmh:=madeHere_tuple;have ty:=hT 0 s hst
 wp_walk using wpAny_typeOf ty,UK (hn:=hsz) W hT hst hfp hI
 intro s' acc hm hacc;have e:acc.toList.toArray=acc:=by simp
 refine(show wpAny _ _ (dN acc.toList.toArray >>= λv=>ret v) _ _ _ from ?_);unfold dN;refine a7 (be (ax ?_) (by rw[e];show acc.size<=sizeLine;rw[hacc.1];exact hsz))
 rw[e];exact h s' acc hm hacc
theorem tuple_lr (W:WalksS prog w A.in1.in1.in1 I fp wr G n P St)(hT:∀i s,St i s->s.TypeIs (.ref I) "list_reverseiterator")(hst:St 0 s)(hfp:∀b∈fp,b < s.heap.objs.size)(hI:I∈fp)
  (hQ:∀s' acc,Moved wr G s s' ->ItemsOf P acc n->Q (.ref s'.heap.objs.size) { s' with heap:=s'.heap.push { cls:= .type "tuple",data:= .seq acc } }) (hsz:n<=sizeLine):
  wpAny (model prog w) A (call (.type "tuple") [.ref I]) Q E s:=
 callType_codes (Q₁:=λobj s₁=>s₁.TypeIs obj _/\Q obj _) eY (F.typeCall_tuple_1 _) F.entry_object_init
  (Kn (hsz:=hsz) W hT hst hfp hI λs' acc hm hacc=>⟨⟨_,ag _ rfl,rfl⟩,hQ s' acc hm hacc⟩) λobj s₁ h₁=>
   ⟨h₁.1,eZ obj _,object_init_meets eY.init.lookup eY.made (by decide) _ w _ _ _ ⟨h₁.1,rfl,h₁.2⟩⟩
end
end PySem.RV
namespace PV
open PySem PySem.Spec PyProof.Rows L2
def z0P (K:a9)(a:Addr)(n:Nat):It:=
 ⟨λi H=>∃xs x,SqT K H a xs/\xs.length=n/\xs.reverse[i]? =some x,λi H x H' =>H' =H/\∀xs,SqT K H a xs->xs.reverse[i]? =some x,λi H=>∃xs,SqT K H a xs/\xs.length=n/\n<=i⟩
def z0Q (K:a9)(a:Addr)(n:Nat):It:=
 ⟨λi H=>∃xs x,SqL K H a xs/\xs.length=n/\xs.reverse[i]? =some x,λi H x H' =>H' =H/\∀xs,SqL K H a xs->xs.reverse[i]? =some x,λi H=>∃xs,SqL K H a xs/\xs.length=n/\n<=i⟩
theorem vU {α:Type}{xs:List α}{x:α}(h:xs.reverse[i]? =some x):i < xs.length/\xs[xs.length - 1 - i]? =some x:=by
 have hi:=(am.mp h).1;rw[bO]at hi;rw[eR hi]at h;exact⟨hi,h⟩
theorem QO {P:Program}{w:World}{K:a9}{tg:Expr}(a it:Addr)(n:Nat):Uj P w K tg (z0P K a n) [it] it (λi h=>i<=n/\RV.IsRv h it (.ref a) ((n:Int) - 1 - (i:Int))) where
 mem:=by simp
 obj:=λi h st b hb=>by
  have e:b=it:=by simpa using hb
  subst e;exact⟨_,st.2,λv z=>nomatch z⟩
 keep:=λi h h' st k=>⟨st.1,k it (by simp) _ st.2⟩
 item:=by
  intro X hP hw hK hc i pins s σ H E I hf st hg;subst hP hw hK;obtain⟨xs,x,hq,hn,hx⟩:=hg;obtain⟨its,rv,p,hz⟩:=I.tuple hq;obtain⟨hi,hx'⟩:=vU hx;obtain⟨u,hu,ru⟩:=rv.get hx';obtain⟨f0,f1,f2,f3,f4,f5⟩:=hf it (by simp)
  have hl:=rv.length;have e:(n:Int) - 1 - (i:Int)=((xs.length - 1 - i:Nat):Int):=by omega
  have hit:=st.2;rw[e]at hit;have hb:(its.toArray.size:Int) < 2 ^ 63:=by
   rw[bU]at hz;simp;omega
  refine RV.next_item hit p hb (x:=u) (by simpa using hu) λh' tk st' sb=> ?_
  have I1:Inv X pins σ H { s with heap:=h',toks:=tk }:=I.turned (t' :=tk) (λb o hb e=>(sb.2 b hb).trans e) f0 f1 f3 f4 f5;have e2:((xs.length - 1 - i:Nat):Int) - 1=(n:Int) - 1 - ((i+1:Nat):Int):=by omega
  rw[e2]at st';exact⟨u,rfl,Uk (s:={ s with heap:=h',toks:=tk }) st' rfl rfl (by decide) ⟨x,H,I1,ru,⟨rfl,λys hy=>by rw[I.tuple_inj hy hq];exact hx⟩,⟨by omega,st'⟩,λb hb=>(hf b hb).1⟩⟩
 done:=by
  intro X hP hw hK hc i pins s σ H E I hf st hg;subst hP hw hK;obtain⟨xs,hq,hn,hx⟩:=hg;obtain⟨f0,f1,f2,f3,f4,f5⟩:=hf it (by simp)
  have hit:=st.2;have h1:=st.1;rw[show (n:Int) - 1 - (i:Int)= -1 by omega]at hit
  exact RV.next_end (I.ok.hd hc) hit λh' eb=>⟨rfl,I.turned (t' :=s.toks) (λb o hb e=>eb b o hb e) f0 f1 f3 f4 f5⟩
 self:=λ_ _ _ _ _ st h=>RV.iter_rv st.2 h
theorem QP {P:Program}{w:World}{K:a9}{tg:Expr}(a it:Addr)(n:Nat):Uj P w K tg (z0Q K a n) [it] it (λi h=>i<=n/\h.IsRevIter it a ((n:Int) - 1 - (i:Int))) where
 mem:=by simp
 obj:=λi h st b hb=>by
  have e:b=it:=by simpa using hb
  subst e;obtain⟨o,e,c,d⟩:=st.2;exact⟨o,e,λv z=>by rw[d]at z;cases z⟩
 keep:=λi h h' st k=>⟨st.1,st.2.at λo e=>k it (by simp) o e⟩
 item:=by
  intro X hP hw hK hc i pins s σ H E I hf st hg;subst hP hw hK;obtain⟨xs,x,hq,hn,hx⟩:=hg;obtain⟨its,rv,p,hz⟩:=I.list hq;obtain⟨hi,hx'⟩:=vU hx;obtain⟨u,hu,ru⟩:=rv.get hx';obtain⟨f0,f1,f2,f3,f4,f5⟩:=hf it (by simp)
  have e:(n:Int) - 1 - (i:Int)=((xs.length - 1 - i:Nat):Int):=by omega
  have hit:=st.2;rw[e]at hit;refine wpAny_pyNext_rev_item hit p.isList (x:=u) (by simpa using hu) λh' st' sb=> ?_
  have I1:Inv X pins σ H { s with heap:=h' }:=I.turned (t' :=s.toks) (λb o hb e=>(sb.2 b hb).trans e) f0 f1 f3 f4 f5;have e2:((xs.length - 1 - i:Nat):Int) - 1=(n:Int) - 1 - ((i+1:Nat):Int):=by omega
  rw[e2]at st';obtain⟨o,e,c,d⟩:=id st';exact⟨u,rfl,Uk (s:={ s with heap:=h' }) e c d (by decide) ⟨x,H,I1,ru,⟨rfl,λys hy=>by rw[I.list_inj hy hq];exact hx⟩,⟨by omega,st'⟩,λb hb=>(hf b hb).1⟩⟩
 done:=by
  intro X hP hw hK hc i pins s σ H E I hf st hg;subst hP hw hK;obtain⟨xs,hq,hn,hx⟩:=hg;obtain⟨f0,f1,f2,f3,f4,f5⟩:=hf it (by simp)
  have hit:=st.2;have h1:=st.1;rw[show (n:Int) - 1 - (i:Int)= -1 by omega]at hit
  exact wpAny_pyNext_rev_end (I.ok.hd hc) hit λh' eb=>⟨rfl,I.turned (t' :=s.toks) (λb o hb e=>eb b o hb e) f0 f1 f3 f4 f5⟩
 self:=λ_ _ _ _ _ st h=>wpAny_pyIter_revIter st.2 h
theorem zB.rev {H:Hp}:∀{vs:List V} {ts:List T},zB H vs ts->zB H vs.reverse ts.reverse
 | _,_,.nil=> .nil
 | _,_,.cons r t=>by rw[bC,bC];exact(zB.rev t).append (.cons r .nil)
theorem Ko {K:a9}{B1 H1:Hp}{a:Addr}{xs:List V}{ts:List T}(h:B1 a=some (.tup xs))(r:zB B1 xs ts):rI B1 H1 (z0P K a xs.length) ts.reverse:=λB2 H2 s1 s2=>by
 have h2:=s2 _ _ (s1 _ _ h);have hr:=r.rev;refine⟨λi hi=> ?_,λi t x H3 e y=> ?_,λi hi=>⟨xs,SqT.of h2,rfl,by rw[bO]at hi;rw[r.length];exact hi⟩⟩
 ·obtain⟨v,e,_⟩:=hr.get (aj hi);exact⟨xs,v,SqT.of h2,rfl,e⟩
 ·obtain⟨rfl,y⟩:=y;obtain⟨v,e1,r1⟩:=hr.get e;have:=y xs (SqT.of h2);rw[e1]at this;cases this;refine⟨zt.refl _, ?_⟩;rw[zH.self B2 _ s2];exact r1.mono s1
theorem Kp {K:a9}{B1 H1:Hp}{a:Addr}{xs:List V}{ts:List T}(h:B1 a=some (.lst xs))(r:zB B1 xs ts):rI B1 H1 (z0Q K a xs.length) ts.reverse:=λB2 H2 s1 s2=>by
 have h2:=s2 _ _ (s1 _ _ h);have hr:=r.rev;refine⟨λi hi=> ?_,λi t x H3 e y=> ?_,λi hi=>⟨xs,SqL.of h2,rfl,by rw[bO]at hi;rw[r.length];exact hi⟩⟩
 ·obtain⟨v,e,_⟩:=hr.get (aj hi);exact⟨xs,v,SqL.of h2,rfl,e⟩
 ·obtain⟨rfl,y⟩:=y;obtain⟨v,e1,r1⟩:=hr.get e;have:=y xs (SqL.of h2);rw[e1]at this;cases this;refine⟨zt.refl _, ?_⟩;rw[zH.self B2 _ s2];exact r1.mono s1
def z0R (fa:En->R T):En->R (List T):=λρ=>(fa ρ).bind λt=>(jR t).bind λxs=> .ok xs.reverse
def QR:T->R T
 | .lst xs=>if xs.length<=bnd then .ok (.tup xs.reverse) else .bad
 | _=> .bad
section
variable {X:Cx}{Y:Fx}{a b tg:Expr}{fa fb:En->R T}{pos p p' pos' :Pos}
theorem Kq {ta:TA}(hg:Gl X "reversed")(hm:X.mg "reversed"=none)(ha:PA X [a] ta)(hs:St1 X a:=by exact st1 rfl):
  PI X tg (.Call (.Name "reversed" p) [a] [] pos) (λσ H R=>ta σ H λvs H1=>∃l xs,vs=[.ref l]/\((H1 l=some (.lst xs)/\R (z0Q X.K l xs.length) H1)\/(H1 l=some (.tup xs)/\R (z0P X.K l xs.length) H1))):=by
 intro pins s σ H R I h;refine Call_ (ZW I hg hm boot_reversed (aS (thn (ha pos _ s σ H _ I h) λus s1 ⟨vs,H1,I1,r1,q1⟩=> ?_) hs rfl));obtain⟨l,xs,e,q⟩:=q1;subst e;obtain⟨u,rfl,ru⟩:=ZK r1;obtain rfl:u=Value.ref l:=ru;have ok:∀b∈[s1.heap.objs.size],JS X _ H1 b:=λb hb=>by
  have e:=by simpa using hb
  subst e;exact I1.fpOk (ai _) (I1.hok.fresh (ai _))
 rcases q with ⟨hl,q⟩ | ⟨hl,q⟩
 ·obtain⟨its,rv,p,hz⟩:=I1.list (SqL.of hl);have e:((its.toArray.size):Int) - 1=(xs.length) - 1 - ((0):Int):=by have:=rv.length;simp;omega
  refine call_reversed_list p.isList ?_;rw[e];have st:(s1.heap.push (revObj l ((xs.length) - 1 - ((0):Int)))).IsRevIter _ l _:=⟨_,ag _ rfl,rfl,rfl⟩;refine wpAny_pyIter_revIter st ?_;exact⟨s1.heap.objs.size,[s1.heap.objs.size],_,_,H1,rfl,I1.kept (λb o e=>aa _ e),QP l _ _,⟨bg _,st⟩,ok,q⟩
 ·obtain⟨its,rv,p,hz⟩:=I1.tuple (SqT.of hl);have hlen:=rv.length;have e:((its.toArray.size):Int) - 1=(xs.length) - 1 - ((0):Int):=by simp;omega
  refine RV.call_rvT p (by rw[bU]at hz;omega) λtk=> ?_
  rw[e];refine RV.iter_rv (ag _ rfl) ?_;exact⟨s1.heap.objs.size,[s1.heap.objs.size],_,_,H1,rfl,I1.kept (λb o e=>aa _ e),QO l _ _,⟨bg _,ag _ rfl⟩,ok,q⟩
theorem z0S (hg:Gl X "reversed")(hm:X.mg "reversed"=none)(ha:Snd X Y a fa)(hs:St1 X a:=by exact st1 rfl):W4 X Y tg (.Call (.Name "reversed" p) [a] [] pos) (z0R fa):= .mk λρ=>
 PI.imp (Kq hg hm (zx (ha ρ) zM hs) hs) λσ H R ⟨B,I,q⟩=>step I q λt v H1 _ s1 r1 I1 q1=>by
  cases r1 with
  | @tup l xs ts h r=>exact⟨l,xs,rfl,.inr ⟨I1.sB _ _ h,ZB I1 (show Po Y rI _ H1 _ R from q1) (Ko h r)⟩⟩
  | @lst l xs ts h r=>exact⟨l,xs,rfl,.inl ⟨I1.sB _ _ h,ZB I1 (show Po Y rI _ H1 _ R from q1) (Kp h r)⟩⟩
  | _=>exact q1.elim
theorem uI:∀{xs ys:List V} {us ws:List Value},zR xs us->zR ys ws->zR (xs++ys) (us++ws)
 | _,_,_,_,.nil,q=>q
 | _,_,_,_,.cons r t,q=> .cons r (uI t q)
theorem uJ:∀{xs:List V} {us:List Value},zR xs us->zR xs.reverse us.reverse
 | _,_,.nil=> .nil
 | _,_,.cons r t=>by rw[bC,bC];exact uI (uJ t) (.cons r .nil)
theorem xE {its:List Value}{acc:Array Value}(h:ItemsOf (λi v=>its.toArray[its.toArray.size - 1 - i]? =some v) acc its.toArray.size):acc.toList=its.reverse:=by
 have h1:=by
  have:=h.1;simpa using this
 have h2:=h.2;refine d6 λi=> ?_
 by_cases hi:i < its.length
 ·have hlt:i < acc.toList.length:=by simp;omega
  have e:=aj hlt;have:=h2 i _ (by rw[← Array.getElem?_toList];exact e)
  rw[eR hi,e,← this];simp
 ·rw[aR (by simp;omega),aR (by simp;omega)]
theorem Kr (hh:X.A.handled=none)(gl:Gl X "tuple")(mg:X.mg "tuple"=none)(gl' :Gl X "reversed")(mg' :X.mg "reversed"=none)(ha:Snd X Y a fa)(hs:St1 X a:=by exact st1 rfl)(hs' :St1 X (.Call (.Name "reversed" p') [a] [] pos'):=by exact st1 rfl):
  Snd X Y (.Call (.Name "tuple" p) [.Call (.Name "reversed" p') [a] [] pos'] [] pos) (ap1 QR fa):= .mk λρ=>by
 intro pins s σ H Q I ⟨B,J,q⟩;have hq:tS Y rC fa ρ σ H (λv H1=>∃l xs,v= .ref l/\H1 l=some (.lst xs)/\xs.length<=sizeLine/\∀t,H1 t=none->Q (.ref t) (upd H1 t (.tup xs.reverse))):=by
  refine step J q λt v H1 _ s1 r1 I1 q1=> ?_;cases r1 with
  | @lst l xs ts h r=>
   have q1:Po Y rC _ H1 (if ts.length<=bnd then .ok (.tup ts.reverse) else .bad) Q:=q1
   split at q1
   ·rename_i hb;exact⟨l,xs,rfl,I1.sB _ _ h,by rw[r.length];exact Zg hb,λt ht=>kA I1.sB q1 rfl r.rev ht⟩
   ·exact q1.elim
  | _=>exact q1.elim
 refine bq (ZW I gl mg PyProof.Rows.Boot.«tuple» (aS (rest:=[]) ?_ hs' rfl));rw[hs'];refine dz (bq (ZW I gl' mg' boot_reversed (aS (e:=a) (rest:=[]) ?_ hs rfl)));refine thn ((zx (ha ρ) zM hs) pos' pins s σ H (λvs H1=>∃l xs,vs=[.ref l]/\H1 l=some (.lst xs)/\xs.length<=sizeLine/\∀t,H1 t=none->Q (.ref t) (upd H1 t (.tup xs.reverse))) I ?_) λus s1 ⟨vs,H1,I1,r1,l,xs,e,hl,hz,q1⟩=> ?_
 ·obtain⟨B',J',q'⟩:=hq;refine⟨B',J', ?_⟩;revert q';cases fa ρ with
  | bad=>exact λq' =>q'
  | ex c=>exact λq' =>q'
  | ok t=>
   intro q' v H1 s1 r1;obtain⟨l,xs,rfl,h⟩:=q' v H1 s1 r1;exact⟨l,xs,rfl,h⟩
 subst e;obtain⟨u,rfl,ru⟩:=ZK r1;obtain rfl:u=Value.ref l:=ru;obtain⟨its,rv,pl,_⟩:=I1.list (SqL.of hl);have hlt:=I1.hok.lt hl;refine call_reversed_list pl.isList (fF ?_);have e0:((its.toArray.size):Int) - 1 - ((0:Nat))=((its.toArray.size):Int) - 1:=by omega
 refine RV.tuple_lr (Walks.listRev (A:=X.A.in1.in1.in1) hh _ l (aE hlt) _).toS (λi s st=>st.2.1.typeIs) ⟨bg _,⟨_,ag _ rfl,rfl,by rw[e0];rfl⟩,pl.isList.push _⟩ (λb hb=> ?_) (by simp) (λs' acc hm hacc=> ?_) (by rw[az,← rv.length];exact hz)
 ·have hb:=by simpa using hb
  rcases hb with rfl | rfl
  ·rw[bh];exact bY _
  ·rw[bh];exact bJ hlt
 obtain⟨h',g',d',tk',os'⟩:=s';have e1:g' =s1.gens:=hm.gens;have e2:d' =s1.drawn:=hm.drawn;have e3:=hm.os;subst e1 e2 e3;have kp:∀b o,s1.heap.get? b=some o->h'.get? b=some o:=λb o e=>hm.heap b o (λz=>by
  have z:b=s1.heap.objs.size:=by simpa using z
  have:=ao e;rw[z]at this;exact aY _ this) (aa _ e)
 have I2:=I1.kept (t' :=tk') kp;have ea:acc=its.reverse.toArray:=by rw[← xE hacc]
 rw[ea];refine⟨.ref h'.objs.size,upd H1 _ (.tup xs.reverse),I2.laid (λb u e=>aa _ e) (ai _) ⟨by rw[bO];exact hz,its.reverse,uJ rv,⟨_,ag _ rfl,rfl,_,rfl⟩,.inr ⟨_,ag _ rfl,rfl⟩⟩,rfl,q1 _ (I2.hok.fresh (ai _))⟩
end
noncomputable def JO:List T->Option Bool
 | []=>some false
 | .bl k :: r=>match JO r with | some j=>some (k || j) | none=>none
 | _ :: _=>none
def z0T:T->R T
 | .lst ts=>match JO ts with | some k=> .ok (.bl k) | none=> .bad
 | _=> .bad
theorem Yk:∀{H:Hp} {xs:List V} {ts:List T} {its:List Value} {k:Bool},zB H xs ts->zR xs its->JO ts=some k->∃tr:Nat->Bool,(∀i v,its[i]? =some v->v=Value.bool (tr i))/\(a_ its.length).any tr=k
 | _,_,_,_,k,.nil,.nil,h=>by
  have h' :=h;cases h';exact⟨λ_=>true,λi v e=>by simp at e,rfl⟩
 | H,_,_,_,k,.cons r rs,.cons (b:=u) rv vs,h=>by
  cases r with
  | bl b=>
   unfold JO at h;split at h
   ·rename_i j e;cases h;obtain⟨tr,h1,h2⟩:=Yk rs vs e;obtain rfl:u=Value.bool b:=rv;refine⟨λi=>match i with | 0=>b | i+1=>tr i,λi v e=> ?_, ?_⟩
    ·cases i with
     | zero=>simp at e;exact e.symm
     | succ i=>exact h1 i v (by simpa using e)
    ·rw[ar,ci,List.any_cons,List.any_map,← h2];rfl
   ·cases h
  | _=>cases h
section
variable {X:Cx}{Y:Fx}{a b:Expr}{fa fb:En->R T}{pos p p' pos' pt:Pos}{elts:List Expr}{kk:Nat}
theorem Yl (hh:X.A.handled=none):Zo X (.builtin "any") (λvs H Q=>∃l xs ts k,vs=[.ref l]/\H l=some (.lst xs)/\zB H xs ts/\JO ts=some k/\Q (.bl k) H):=by
 intro pins s σ H vs us Q I rv h;obtain⟨l,xs,ts,k,rfl,hl,r,hk,q⟩:=h;obtain⟨u,rfl,ru⟩:=ZK rv;obtain rfl:u=Value.ref l:=ru;obtain⟨its,rv,p,_⟩:=zO I (.inl hl) r;obtain⟨tr,h1,h2⟩:=Yk r rv hk;refine call_any_walk (wpAny_pyIter_list p ?_);have hlt:=I.hok.lt hl;have old:∀b o,s.heap.get? b=some o->(s.heap.push { cls:= .type "list_iterator",data:= .fields #[.ref l,.int 0 0] }).get? b=some o:=λb o e=>aa _ e;refine⟨s.heap.objs.size,_,_,_,_,_,tr,rfl,il (A:=X.A.in1) hh _ l (aE hlt) its.toArray, ?_, ?_,λh' tk hk' => ?_⟩
 ·refine⟨?_,p.at λo e=>old _ o e⟩;exact⟨_,ag _ rfl,rfl,rfl⟩
 ·intro i v s' Q' E' hi hq;rw[h1 i v (by simpa using hi)]
  exact b9 hq
 ·rw[az,h2];refine⟨.bl k,H,I.kept (λb o e=>hk' b o ?_ (old b o e)),rfl,q⟩;simp;exact aE (ao e)
theorem z0U (hh:X.A.handled=none)(gl:Gl X "any")(mg:X.mg "any"=none)(ha:ji X Y a fa)(hs:St1 X a:=by exact st1 rfl):Snd X Y (.Call (.Name "any" p) [a] [] pos) (ap1 z0T fa):=
 Wj (Yl hh) (λv t B H Q r sB q=>by
  cases r with
  | @lst l xs ts h r=>
   have q:Po Y rC B H (match JO ts with | some k=> .ok _ | none=> .bad) Q:=q
   split at q
   ·rename_i k e;exact⟨l,xs,ts,k,rfl,h,r,e,po0 sB q rfl (.bl k)⟩
   ·exact q.elim
  | _=>exact q.elim) gl mg PyProof.Rows.Boot.«any» ha hs
end
section
end
end PV
namespace PySem.RV
open PySem PySem.Spec PyProof.Rows PySem.Builtin.SmallTypes
theorem draws_tup (hh:A.handled=none)(it l:Addr)(hne:l ≠ it)(items:Array Value):Draws prog w A it [it,l] items.size (λi v=>items[i]? =some v) (λi h=>h.IsTupleIter it l i/\h.IsTuple l items) where
 live:=λi h st=>(ZG.nx_tup hne items).there st it (.head _)
 frame:=λi h h' st hk=>(ZG.nx_tup hne items).keep st hk
 item:=λi s Q E hi st hQ=>ZG.tup_item st.1 st.2 (x:=items[i]) (by simp[hi]) λh' a b=>hQ _ h' s.toks (by simp[hi]) ⟨a,st.2.extBut b.extBut hne⟩ b
 done:=λs Q E st hE=>ZG.tup_stop hh st.1 st.2 (by simp) hE
noncomputable abbrev eOb (i:Addr):Obj:={ cls:= .type "enumerate",data:= .fields #[.none,.bool false,.ref i,rawInt 0,.none,.none] }
theorem Ym (l:Addr)(items:Array Value)(n:Nat)(dct:Option Addr)(sl:Array (Option Value)):
  Meets (Builtin.«enumerate.__new__» ⟨[.type "enumerate",.ref l],[]⟩) (λ_ R s=>s.heap.get? l=some { cls:= .type "tuple",dict:=dct,data:= .seq items n,slots:=sl }/\
   R (.ok (.ret (.ref (s.heap.push (ZG.oT l)).objs.size))) { s with heap:=(s.heap.push (ZG.oT l)).push (eOb s.heap.objs.size) }):=
 .of_wp λprog w A R s h=>by
  obtain⟨hp,g,d,tk,os⟩:=s;obtain⟨hl,h⟩:=h;have hsub:=sub_enumerate;have hL:Heap.IsTuple (hV ⟨hp,g,d,tk,os⟩) l items:=⟨_,hl,rfl,n,rfl⟩
  wp_walk using b_ hl
  refine wpAny_stack_any λst=>ax ?_;split
  ·rename_i c _ _ _ _ _;cases (c == Value.type "enumerate") <;> (wp_walk using b_ hl,wpAny_pyIter_tuple hL;exact⟨_,rfl,h⟩)
  ·wp_walk using b_ hl,wpAny_pyIter_tuple hL
   exact⟨_,rfl,h⟩
theorem enum_callT (hL:s.heap.IsTuple l items)
  (h:∀h',IsEnum h' (s.heap.objs.size+1) s.heap.objs.size 0 .none->h'.IsTupleIter s.heap.objs.size l 0->(∀b o,s.heap.get? b=some o->h'.get? b=some o)->Q (.ref (s.heap.objs.size+1)) { s with heap:=h' }):
  wpAny (model prog w) A (call (.type "enumerate") [.ref l]) Q E s:=by
 obtain⟨⟨c,dct,dt,sl⟩,hl,hc,n,hd⟩:=hL;obtain rfl:c= .type _:=hc;obtain rfl:dt= .seq _ n:=hd;refine callType_new F.called_enumerate (by decide) (F.typeCall_enumerate_1 _) (F.newCall_enumerate_1 _) (λobj=>eZ obj _) F.entry_enumerate_new (Ym l _ n dct sl) ⟨hl, ?_⟩
 have hz:(s.heap.push (ZG.oT l)).objs.size=s.heap.objs.size+1:=bh ..;have e1:((s.heap.push (ZG.oT l)).push (eOb s.heap.objs.size)).get? _=some _:=ag _ rfl;rw[hz]at e1;rw[hz];exact⟨⟨_,e1,rfl⟩,h _ e1 ⟨_,aa _ (ag _ rfl),rfl,rfl⟩ λb o x=>aa _ (aa _ x)⟩
end PySem.RV
namespace PV
open PySem PySem.Spec PyProof.Rows L2
def z0V (K:a9)(l:Addr)(n:Nat):It:=
 ⟨λi H=>∃xs x,SqT K H l xs/\xs.length=n/\xs[i]? =some x,λi H v H' =>∃p x,H p=none/\v= .ref p/\(∀xs,SqT K H l xs->xs[i]? =some x)/\H' =upd H p (.tup [.int i,x]),λi H=>∃xs,SqT K H l xs/\xs.length=n/\n<=i⟩
theorem UL {P:Program}{w:World}{K:a9}{elts:List Expr}{kk:Nat}{pt:Pos}(e it l:Addr)(n:Nat)(hei:e ≠ it)(hle:l ≠ e)(hli:l ≠ it):
  Uj P w K (.Tuple elts kk pt) (z0V K l n) [e,it] e (λi h=>i<=n/\(∃old,IsEnum h e it i old)/\h.IsTupleIter it l i) where
 mem:=by simp
 obj:=λi h st b hb=>by
  obtain⟨_,⟨old,he⟩,o,e1,c,d⟩:=st;rcases ah.mp hb with rfl | hb
  ·exact⟨_,he,λv z=>nomatch z⟩
  ·have z:b=it:=by simpa using hb
   subst z;exact⟨o,e1,λv z=>by rw[d]at z;cases z⟩
 keep:=λi h h' st k=>by
  obtain⟨hn,⟨old,he⟩,o,e1,r⟩:=st;exact⟨hn,⟨old,k e (by simp) _ he⟩,o,k it (by simp) o e1,r⟩
 item:=by
  intro X hP hw hK hc i pins s σ H E I hf st hg;subst hP hw hK;obtain⟨xs,x,hq,hxn,hx⟩:=hg;obtain⟨its,rv,p,hz⟩:=I.tuple hq;obtain⟨u,hu,ru⟩:=rv.get hx;obtain⟨hin,⟨old,he⟩,hit⟩:=st;have hi:i < its.toArray.size:=by
   have:=(am.mp hu).1;simpa using this
  have D:=RV.draws_tup (prog:=X.prog) (w:=X.w) (A:=X.A.in1) (I.ok.hd hc) it l hli its.toArray;have hef:e ∉ [it,l]:=λz=>by
   rcases ah.mp z with z | z
   ·exact hei z
   ·exact hle (aT.mp z).symm
  have WE:=WalksT.enumerateD D e hei hef (.head _);refine WE.item i s _ _ hi ⟨⟨old,he⟩,hit,p⟩ λT vals h' tk hP hT hTup hM hk=> ?_;obtain⟨t,y,hy,rfl⟩:=hP;have hyu:y=u:=by
   have:its[i]? =some y:=by simpa using hy
   rw[hu]at this;exact(aq this).symm
  subst hyu;refine⟨.ref T,rfl, ?_⟩;refine WE.go elts kk pt i T _ _ _ hM λh2 hst2 hk2=> ?_;have hTn:H T=none:=I.hok.fresh hT;have hTne:∀b∈[e,it],b ≠ T:=λb hb z=>by
   obtain⟨_,_,h3,h4⟩:=hM;rcases ah.mp hb with rfl | hb
   ·exact h3 z.symm
   ·have:b=it:=by simpa using hb
    subst this;exact h4 z.symm
  have Q9:IsTup h2 T #[.int i t,y]:=by
   obtain⟨o,eo,r⟩:=hTup;exact⟨o,hk2 T o (λhb=>hTne T hb rfl) eo,r⟩
  refine⟨.ref T,upd H T (.tup [.int i,x]),Inv.laidT (s:=s) (h' :=h2) (ch:=[e,it]) (tk:=tk) I hf (λb o hb e=>hk2 b o hb (hk b o hb e)) (λb o hb _=> ?_) hT ⟨by rw[bU];show 2<=16777216;decide,[.int i t,y],.cons ⟨t,rfl⟩ (.cons ru .nil),Q9,.inl ⟨_,_,rfl⟩⟩,rfl,⟨T,x,hTn,rfl,λys hy=>by rw[I.tuple_inj hy hq];exact hx,rfl⟩,⟨by have:=(am.mp hx).1;omega,hst2.1,hst2.2.1⟩,λb hb=> ?_⟩
  ·obtain⟨⟨old2,he2⟩,⟨o2,eo2,_⟩,_⟩:=hst2;rcases ah.mp hb with rfl | hb
   ·exact⟨_,he2⟩
   ·have:b=it:=by simpa using hb
    subst this;exact⟨o2,eo2⟩
  ·rw[zu (hTne b hb)];exact(hf b hb).1
 done:=by
  intro X hP hw hK hc i pins s σ H E I hf st hg;subst hP hw hK;obtain⟨xs,hq,hxn,hx⟩:=hg;obtain⟨its,rv,p,hz⟩:=I.tuple hq;obtain⟨hin,⟨old,he⟩,hit⟩:=st;have hl:=rv.length;have D:=RV.draws_tup (prog:=X.prog) (w:=X.w) (A:=X.A.in1) (I.ok.hd hc) it l hli its.toArray;have hn:its.toArray.size=i:=by simp;omega
  refine wpAny_pyNext_enum_endD D he (by rw[hn];exact⟨hit,p⟩) λh' hk=>⟨rfl, ?_⟩
  obtain⟨f0,f1,f2,f3,f4,f5⟩:=hf it (by simp)
  exact I.turned (t' :=s.toks) (λb o hb e=>hk b o hb e) f0 f1 f3 f4 f5
 self:=λ_ _ _ _ _ st h=>let ⟨_,⟨_,he⟩,_⟩:=st;wpAny_pyIter_enum he h
theorem QT {K:a9}{B1 H1:Hp}{a:Addr}{xs:List V}{ts:List T}(h:B1 a=some (.tup xs))(r:zB B1 xs ts):rI B1 H1 (z0V K a xs.length) (jC ts):=λB2 H2 s1 s2=>by
 have h2:=s2 _ _ (s1 _ _ h);rw[J0];refine⟨λi hi=> ?_,λi t x H3 e y=> ?_,λi hi=>⟨xs,SqT.of h2,rfl,by rw[r.length];exact hi⟩⟩
 ·obtain⟨v,e,_⟩:=r.get (aj hi);exact⟨xs,v,SqT.of h2,rfl,e⟩
 ·obtain⟨p,v,hp,rfl,y,rfl⟩:=y;obtain⟨t',et,rfl⟩:=Wp e;obtain⟨v',e1,r1⟩:=r.get et;have:=y xs (SqT.of h2);rw[e1]at this;cases this;refine⟨zt.new hp _,.tup (jm hp _) (.cons (.int _) (.cons ?_ .nil))⟩;exact(r1.mono s1).mono (zH.ge s2 (zt.new hp _))
def uK (fa:En->R T):En->R (List T):=λρ=>(fa ρ).bind λt=>match t with
 | .tup xs=> .ok (jC xs)
 | _=> .bad
section
theorem QU {ta:TA}(hg:Gl X "enumerate")(hm:X.mg "enumerate"=none)(ha:PA X [a] ta)(hs:St1 X a:=by exact st1 rfl):
  PI X (.Tuple elts kk pt) (.Call (.Name "enumerate" p) [a] [] pos) (λσ H R=>ta σ H λvs H1=>∃l xs,vs=[.ref l]/\H1 l=some (.tup xs)/\R (z0V X.K l xs.length) H1):=by
 intro pins s σ H R I h;refine Call_ (ZW I hg hm PyProof.Rows.Boot.«enumerate» (aS (thn (ha pos _ s σ H _ I h) λus s1 ⟨vs,H1,I1,r1,q1⟩=> ?_) hs rfl));obtain⟨l,xs,e,hl,q⟩:=q1;subst e;obtain⟨u,rfl,ru⟩:=ZK r1;obtain rfl:u=Value.ref l:=ru;obtain⟨its,rv,pl,hz⟩:=I1.tuple (SqT.of hl);have hlt:=I1.hok.lt hl;refine RV.enum_callT (show s1.heap.IsTuple l _ from pl) λh' he hit hk=>wpAny_pyIter_enum he ?_;have f:∀b∈[s1.heap.objs.size+1,s1.heap.objs.size],JS X _ H1 b:=λb hb=>by
  rcases ah.mp hb with rfl | hb
  ·exact I1.fpOk (dH _) (I1.hok.fresh (dH _))
  ·have z:=by simpa using hb
   subst z;exact I1.fpOk (ai _) (I1.hok.fresh (ai _))
 exact⟨s1.heap.objs.size+1,[s1.heap.objs.size+1,s1.heap.objs.size],_,_,H1,rfl,I1.kept hk,UL _ _ l _ (fX _) (aE (bJ hlt)) (aE hlt),⟨bg _,⟨_,he⟩,hit⟩,f,q⟩
theorem xF (hg:Gl X "enumerate")(hm:X.mg "enumerate"=none)(ha:Snd X Y a fa)(hs:St1 X a:=by exact st1 rfl):W4 X Y (.Tuple elts kk pt) (.Call (.Name "enumerate" p) [a] [] pos) (uK fa):= .mk λρ=>
 PI.imp (QU hg hm (zx (ha ρ) zM hs) hs) λσ H R ⟨B,I,q⟩=>step I q λt v H1 _ s1 r1 I1 q1=>by
  cases r1 with
  | @tup l xs ts h r=>exact⟨l,xs,rfl,I1.sB _ _ h,ZB I1 (show Po Y rI _ H1 _ R from q1) (QT h r)⟩
  | _=>exact q1.elim
end
end PV
namespace PySem.RW37
open PySem PySem.Spec PyProof.Rows L2
section
end
end PySem.RW37
namespace PV
open PySem PySem.Spec PyProof.Rows L2 PySem.RW37
section
theorem UM {σ:L2.St}(I:Inv X pins σ H s)(rx:Za v u)(r:Rep H v t)(hp:H tp=some (.tup xs))(hv:zR xs its)
  (hu:∀its',zR xs its' ->its' =its) (e:d8 X.K (.type (tyN t)) its=some b) (h:∀tk,Q (.bool b) { s with toks:=tk }):
  wpAny (model X.prog X.w) A (call (.builtin "isinstance") [u,.ref tp]) Q E s:=by
 obtain⟨_,its',hv',⟨o,ho,hc,n,hd⟩,_⟩:=(show Zc _ X.w H _ tp _ from I.hok tp _ hp);obtain rfl:=hu _ hv';obtain⟨c,dd,da,sl⟩:=o;subst hc hd;cases r with
 | non=>cases (rx);exact bS fA I.kIn True.intro ho e (λz=>nomatch z) h
 | bl y=>cases (rx);exact bS fB I.kIn True.intro ho e (λz=>nomatch z) h
 | int i=>obtain⟨t,q⟩:=(rx);cases q;exact bS fQ I.kIn True.intro ho e (λz=>nomatch z) h
 | str y=>obtain⟨t,q⟩:=(rx);cases q;exact bS fR I.kIn True.intro ho e (λz=>nomatch z) h
 | @tup a xs _ ea=>
  cases (rx);obtain⟨_,_,_,p,_⟩:=(show Zc _ X.w H _ a _ from I.hok a _ ea);obtain⟨o,h1,h2,_⟩:=p;exact bS fk I.kIn ⟨o,h1,h2⟩ ho e (λz=>nomatch z) h
 | @lst a xs _ ea=>
  cases (rx);obtain⟨_,_,n,_,h1⟩:=(show Zc _ X.w H _ a _ from I.hok a _ ea);exact bS c_ I.kIn ⟨_,h1,rfl⟩ ho e (λz=>nomatch z) h
 | @fz a ob xs _ ea=>
  cases (rx);obtain⟨_,_,_,n,_,h1⟩:=(show Zc _ X.w H _ a _ from I.hok a _ ea);exact bS c_ I.kIn ⟨_,h1,rfl⟩ ho e (λz=>nomatch z) h
theorem QV:∀its',zR [.ty n,.ty m] its' ->its' =[.type n,.type m]:=λits' h=>by
 cases h with
 | cons p q=>
  cases q with
  | cons p' q' =>
   cases q';rw[p,p']
theorem Yn:Zo X (.builtin "isinstance") (λxs H Q=>∃v tp n m t b,xs=[v,.ref tp]/\H tp=some (.tup [.ty n,.ty m])/\Rep H v t/\d8 X.K (.type (tyN t)) [.type n,.type m]=some b/\Q (.bl b) H):=by
 intro pins s σ H xs us Q I rv h;obtain⟨v,tp,n,m,t,b,rfl,hp,r,hk,q⟩:=h;obtain⟨u,w,rfl,ru,rw'⟩:=Uq rv;obtain rfl:w=Value.ref tp:=rw';exact UM I ru r hp (.cons rfl (.cons rfl .nil)) QV hk λtk=>⟨.bl _,H,I.tok tk,rfl,q⟩
def Ks (n m:String)(t:T):R T:= .ok (.bl (isT n t || isT m t))
theorem xG {K:a9}{t:T}{n m:String}(h1:bi K (.type (tyN t)) (.type n)=some (isT n t))(h2:bi K (.type (tyN t)) (.type m)=some (isT m t)):
  d8 K (.type (tyN t)) [.type n,.type m]=some (isT n t || isT m t):=by
 unfold d8;rw[h1];cases isT n t with
 | true=>rfl
 | false=>
  unfold d8;rw[h2];cases isT m t <;> rfl
theorem Kt (hk:∀t,bi X.K (.type (tyN t)) (.type n)=some (isT n t))(hk' :∀t,bi X.K (.type (tyN t)) (.type m)=some (isT m t))
  (gl:Gl X "isinstance") (mg:X.mg "isinstance"=none) (gl1:Gl X (aD n)) (mg1:X.mg (aD n)=none) (bt1:bootBuiltins (aD n)=some (.type n)) (gl2:Gl X (aD m)) (mg2:X.mg (aD m)=none) (bt2:bootBuiltins (aD m)=some (.type m)) (ha:Snd X Y a fa)
  (hs:starEach [a,.Tuple [.Name (aD n) p1,.Name (aD m) p2] kt pt] X.env=[(false,eval a X.env),(false,eval (.Tuple [.Name (aD n) p1,.Name (aD m) p2] kt pt) X.env)]:=by exact st2 rfl rfl)
  (hs2:starEach [.Tuple [.Name (aD n) p1,.Name (aD m) p2] kt pt] X.env=[(false,eval (.Tuple [.Name (aD n) p1,.Name (aD m) p2] kt pt) X.env)]:=by exact st1 rfl)
  (hs3:starEach [.Name (aD n) p1,.Name (aD m) p2] X.env=[(false,eval (.Name (aD n) p1) X.env),(false,eval (.Name (aD m) p2) X.env)]:=by exact st2 rfl rfl)
  (hs4:starEach [.Name (aD m) p2] X.env=[(false,eval (.Name (aD m) p2) X.env)]:=by exact st1 rfl)
  (hn1:aD n ≠ "__name__":=by decide) (hd1:(aD n == ("__debug__":Str))=false:=by decide) (hn2:aD m ≠ "__name__":=by decide) (hd2:(aD m == ("__debug__":Str))=false:=by decide)
  (hz:((backTo pos (starEach [.Tuple [.Name (aD n) p1,.Name (aD m) p2] kt pt] X.env)).any λx=>x.fst)=false:=by exact Zf rfl):
  Snd X Y (.Call (.Name "isinstance" p) [a,.Tuple [.Name (aD n) p1,.Name (aD m) p2] kt pt] [] pos) (ap1 (Ks n m) fa):= .mk λρ=>
 PE.imp (ZS Yn gl mg PyProof.Rows.Boot.«isinstance» (zx (ha ρ) (zx (yD (zx (wt (v:= .ty n) gl1 mg1 bt1 rfl hn1 hd1) (zx (wt (v:= .ty m) gl2 mg2 bt2 rfl hn2 hd2) zM hs4) (by rw[hs3,hs4]))) zM hs2) (by rw[hs,hs2])) (by decide) (by decide) (by rw[hs,hs2]) hz) λσ H Q ⟨B,I,q⟩=>
  step I q λt v H1 _ s1 r1 I1 q1=>⟨Zg (by show 2<=bnd;decide),λp hp=>⟨v,p,n,m,t,_,rfl,zw,(r1.mono I1.sB).mono (zt.new hp _),xG (hk t) (hk' t),q1 _ _ (zt.new hp _) (.bl _)⟩⟩
end
end PV
namespace PV
open PySem PySem.Spec PyProof.Rows L2
noncomputable def xH (t t' :T):R T:=match t,t' with
 | .int i,.int j=> .ok (.int (if j > i then j else i))
 | _,_=> .bad
noncomputable def ZI (f:Int->Int->Bool):Int->List Int->Int
 | i,[]=>i
 | i,j :: r=>ZI f (if f j i then j else i) r
def maxLT:T->R T
 | .lst ts=>match Zq ts with | some (i :: l)=> .ok (.int (ZI (λa b=>decide (b < a)) i l)) | _=> .bad
 | _=> .bad
def Yo:T->R T
 | .lst ts=>match Zq ts with | some (i :: l)=> .ok (.int (ZI (λa b=>decide (a < b)) i l)) | _=> .bad
 | _=> .bad
theorem wI:∀(l:List Int) (i:Int),ZI (λa b=>decide (b < a)) i l∈i :: l/\∀x∈i :: l,x<=ZI (λa b=>decide (b < a)) i l
 | [],i=>⟨ab,λx h=>by simp at h;subst h;exact Int.le_refl _⟩
 | j :: r,i=>by
  unfold ZI
  by_cases hj:i < j
  ·simp only[hj,decide_true,if_true];obtain⟨h1,h2⟩:=wI r j;refine⟨a8 _ h1,λx hx=> ?_⟩;rcases ah.mp hx with rfl | hx
   ·exact dq (Int.le_of_lt hj) (h2 j ab)
   ·exact h2 x hx
  ·simp only[hj,decide_false,aO,if_false];obtain⟨h1,h2⟩:=wI r i;refine⟨?_,λx hx=> ?_⟩
   ·rcases ah.mp h1 with h | h
    ·rw[h];exact ab
    ·exact a8 _ (a8 _ h)
   ·rcases ah.mp hx with rfl | hx
    ·exact h2 x ab
    ·rcases ah.mp hx with rfl | hx
     ·exact dq (Int.not_lt.mp hj) (h2 i ab)
     ·exact h2 x (a8 _ hx)
theorem wJ:∀(l:List Int) (i:Int),ZI (λa b=>decide (a < b)) i l∈i :: l/\∀x∈i :: l,ZI (λa b=>decide (a < b)) i l<=x
 | [],i=>⟨ab,λx h=>by simp at h;subst h;exact Int.le_refl _⟩
 | j :: r,i=>by
  unfold ZI
  by_cases hj:j < i
  ·simp only[hj,decide_true,if_true];obtain⟨h1,h2⟩:=wJ r j;refine⟨a8 _ h1,λx hx=> ?_⟩;rcases ah.mp hx with rfl | hx
   ·exact dq (h2 j ab) (Int.le_of_lt hj)
   ·exact h2 x hx
  ·simp only[hj,decide_false,aO,if_false];obtain⟨h1,h2⟩:=wJ r i;refine⟨?_,λx hx=> ?_⟩
   ·rcases ah.mp h1 with h | h
    ·rw[h];exact ab
    ·exact a8 _ (a8 _ h)
   ·rcases ah.mp hx with rfl | hx
    ·exact h2 x ab
    ·rcases ah.mp hx with rfl | hx
     ·exact dq (h2 i ab) (Int.not_lt.mp hj)
     ·exact h2 x (a8 _ hx)
theorem jD (ps:List (Int×Tok))(i:Nat)(h:i < ps.length):numAt ps.toArray i=(ps.map (·.1))[i]'(by simpa using h):=by
 unfold numAt;simp[h]
section
theorem Ku (hc:X.calm=true)(gl:Gl X "max")(mg:X.mg "max"=none)(ha:Snd X Y a fa)(hb:Snd X Y b fb)
  (hs:starEach [a,b] X.env=[(false,eval a X.env),(false,eval b X.env)]:=by exact st2 rfl rfl) (hs2:starEach [b] X.env=[(false,eval b X.env)]:=by exact st1 rfl):
  Snd X Y (.Call (.Name "max" p) [a,b] [] pos) (zb xH fa fb):= .mk λρ=>
 PE.imp (ZS (yx hc) gl mg PyProof.Rows.Boot.«max» (zx (ha ρ) (zx (hb ρ) zM hs2) (by rw[hs,hs2])) (by decide) (by decide) (by rw[hs,hs2]) (by rw[hs2];rfl)) λσ H Q ⟨B,I,q⟩=>
  step I q λt v H1 _ s1 r1 I1 q1=>step I1 q1 λt' v' H2 _ s2 r2 I2 q2=>by
   cases r1 with
   | int i=>
    cases r2 with
    | int j=>exact⟨i,j,rfl,po0 I2.sB q2 rfl (.int _)⟩
    | _=>exact q2.elim
   | _=>cases r2 <;> exact q2.elim
theorem Kv (hh:X.A.handled=none):Zo X (.builtin "max") (λvs H Q=>∃l xs ts i is,vs=[.ref l]/\H l=some (.lst xs)/\zB H xs ts/\Zq ts=some (i :: is)/\Q (.int (ZI (λa b=>decide (b < a)) i is)) H):=by
 intro pins s σ H vs us Q I rv h;obtain⟨l,xs,ts,i,is,rfl,hl,r,hk,q⟩:=h;obtain⟨u,rfl,ru⟩:=ZK rv;obtain rfl:u=Value.ref l:=ru;obtain⟨its,rv,p,_⟩:=zO I (.inl hl) r;obtain⟨ps,h1,h2⟩:=wH r rv hk;have e:its.toArray=intItems ps.toArray:=by rw[h1];simp[intItems]
 rw[e]at p;have hlen:=by have:=congrArg hJ h2;simpa using this
 refine max_intList hh p (by simp[hlen]) λv h' tk hv kp=> ?_
 obtain⟨t,rfl⟩:=intItems_at hv;obtain⟨b1,b2⟩:=argBest_gt (numAt ps.toArray) (ps.toArray.size - 1);have hsz:ps.toArray.size=ps.length:=by simp
 rw[hsz]at b1 b2 ⊢;obtain⟨m1,m2⟩:=wI is i;have e2:numAt ps.toArray (argBest (λi j=>decide (numAt ps.toArray i > numAt ps.toArray j)) (ps.length - 1))=ZI (λa b=>decide (b < a)) i is:=by
  refine i7 (m2 _ ?_) ?_
  ·rw[jD ps _ (by omega),← h2]
   exact fY _
  ·rw[← h2]at m1;obtain⟨j,hj,ej⟩:=e_.mp m1;rw[← ej];have hj' :=by simpa using hj
   rw[← jD ps j hj'];exact b2 j (by omega)
 rw[e2];exact⟨.int _,H,I.kept kp,⟨t,rfl⟩,q⟩
theorem Yp (hh:X.A.handled=none):Zo X (.builtin "min") (λvs H Q=>∃l xs ts i is,vs=[.ref l]/\H l=some (.lst xs)/\zB H xs ts/\Zq ts=some (i :: is)/\Q (.int (ZI (λa b=>decide (a < b)) i is)) H):=by
 intro pins s σ H vs us Q I rv h;obtain⟨l,xs,ts,i,is,rfl,hl,r,hk,q⟩:=h;obtain⟨u,rfl,ru⟩:=ZK rv;obtain rfl:u=Value.ref l:=ru;obtain⟨its,rv,p,_⟩:=zO I (.inl hl) r;obtain⟨ps,h1,h2⟩:=wH r rv hk;have e:its.toArray=intItems ps.toArray:=by rw[h1];simp[intItems]
 rw[e]at p;have hlen:=by have:=congrArg hJ h2;simpa using this
 refine min_intList hh p (by simp[hlen]) λv h' tk hv kp=> ?_
 obtain⟨t,rfl⟩:=intItems_at hv;obtain⟨b1,b2⟩:=argBest_lt _ (ps.toArray.size - 1);have hsz:ps.toArray.size=ps.length:=by simp
 rw[hsz]at b1 b2 ⊢;obtain⟨m1,m2⟩:=wJ is i;have e2:numAt ps.toArray (argBest (λi j=>decide (numAt ps.toArray i < numAt ps.toArray j)) (ps.length - 1))=ZI (λa b=>decide (a < b)) i is:=by
  refine i7 ?_ (m2 _ ?_)
  ·rw[← h2]at m1;obtain⟨j,hj,ej⟩:=e_.mp m1;rw[← ej];have hj' :=by simpa using hj
   rw[← jD ps j hj'];exact b2 j (by omega)
  ·rw[jD ps _ (by omega),← h2]
   exact fY _
 rw[e2];exact⟨.int _,H,I.kept kp,⟨t,rfl⟩,q⟩
theorem Kw (hh:X.A.handled=none)(gl:Gl X "min")(mg:X.mg "min"=none)(ha:ji X Y a fa)(hs:St1 X a:=by exact st1 rfl):Snd X Y (.Call (.Name "min" p) [a] [] pos) (ap1 Yo fa):=
 Wj (Yp hh) (λv t B H Q r sB q=>by
  cases r with
  | @lst l xs ts h r=>
   have q:Po Y rC B H (match Zq ts with | some (i :: l)=> .ok (.int (ZI (λa b=>decide _) i l)) | _=> .bad) Q:=q
   split at q
   ·rename_i i k e;exact⟨l,xs,ts,i,k,rfl,h,r,e,po0 sB q rfl (.int _)⟩
   ·exact q.elim
  | _=>exact q.elim) gl mg PyProof.Rows.Boot.«min» ha hs
end
section
end
section
end
section
end
section
end
section
end
section
end
section
end
section
end
section
end
section
end
section
end
end PV
namespace PySem.RV
open PySem PySem.Spec PyProof.Rows PySem.Builtin.SmallTypes
section
end
end PySem.RV
namespace PV
open PySem PySem.Spec PyProof.Rows L2
section
end
section
section
end
end
section
end
section
end
end PV
namespace PV
open PySem PySem.W PyProof.Rows
section
variable {α β:Type}
noncomputable def Gd (lt:Nat->Nat->Bool)(n:Nat):KasT α->(α->Prop)->Prop
 | .ret a,P=>P a
 | .ask i j k,P=>(i < n/\j < n/\i ≠ j)/\Gd lt n (k (lt i j)) P
theorem Gd.mono {lt:Nat->Nat->Bool}{P P' :α->Prop}(h:∀a,P a->P' a):∀(t:KasT α),Gd lt n t P->Gd lt n t P'
 | .ret a,g=>h a g
 | .ask i j k,⟨h1,g⟩=>⟨h1,Gd.mono h _ g⟩
theorem Gd.bind {lt:Nat->Nat->Bool}{P:β->Prop}{f:α->KasT β}:∀(t:KasT α),Gd lt n t (λa=>Gd lt n (f a) P)->Gd lt n (t.bind f) P
 | .ret a,g=>g
 | .ask i j k,⟨h1,g⟩=>⟨h1,Gd.bind _ g⟩
end
section
variable {O:KeyOrd}{key:Nat->O.α}
noncomputable abbrev kp (key:Nat->O.α)(p:Array Nat)(i:Nat):O.α:=key (p.getD i 0)
structure Pm (n:Nat) (p:Array Nat):Prop where
 sz:p.size=n
 pm:p.toList.Perm (a_ n)
theorem Pm.lt {p:Array Nat}(h:Pm n p)(hi:i < n):p.getD i 0 < n:=by
 have hs:i < p.size:=by rw[h.sz];exact hi
 have e:p.getD i 0=p[i]:=by simp[im,hs]
 rw[e];exact bo.mp (h.pm.mem_iff.mp (Array.getElem_mem_toList hs))
theorem Pm.inj {p:Array Nat}(h:Pm n p)(hi:i < n)(hj:j < n)(e:p.getD i 0=p.getD j 0):i=j:=by
 have hs:i < p.size:=by rw[h.sz];exact hi
 have hs' :j < p.size:=by rw[h.sz];exact hj
 have e1:p.getD i 0=p[i]:=by simp[im,hs]
 have e2:p.getD j 0=p[j]:=by simp[im,hs']
 rw[e1,e2]at e;have nd:=h.pm.nodup_iff.mpr List.nodup_range;have:=(fO (h₀:=by simpa using hs) (h₁:=by simpa using hs') nd).mp (by simpa using e)
 exact this
def So (key:Nat->O.α)(p:Array Nat)(m:Nat):Prop:=∀i j,i < j->j < m->O.klt (kp key p i) (kp key p j)
theorem xI {p q:Array Nat}(h:p[i]? =q[j]?):p.getD i 0=q.getD j 0:=by
 have e:∀(a:Array Nat) (k:Nat),a.getD k 0=(a[k]?).getD 0:=λa k=>by simp
 rw[e,e,h]
variable (hk:∀i j,i < n->j < n->key i=key j->i=j)
include hk
theorem Kx {p:Array Nat}(h:Pm n p)(hi:i < n)(hj:j < n)(hij:i ≠ j)(hf:O.blt (kp key p i) (kp key p j)=false):O.klt (kp key p j) (kp key p i):=by
 cases q:O.blt _ _ with
 | true=>exact q
 | false=>exact absurd (h.inj hi hj (hk _ _ (h.lt hi) (h.lt hj) (O.total _ _ hf q))) hij
omit hk in
theorem So.snoc {p:Array Nat}(h:So key p m)(h1:1<=m)(hl:O.klt (kp key p (m - 1)) (kp key p m)):So key p (m+1):=λi j hij hj=>by
 by_cases hjm:j=m
 ·subst hjm
  by_cases him:i=j - 1
  ·rw[him];exact hl
  ·exact dO (h i _ (by omega) (by omega)) (fL hl)
 ·exact h i j hij (by omega)
theorem Yq {p:Array Nat}(hp:Pm n p):∀(f m:Nat),1<=m->m+f=n->So key p m->Gd (λi j=>O.blt (key i) (key j)) n (kas_asc p f m) λr=>m<=r/\r<=n/\So key p r/\(r < n->O.klt (kp key p r) (kp key p (r - 1)))
 | 0,m,_,hm,h=>⟨ai _,by omega,h,λz=>by omega⟩
 | f+1,m,h1,hm,h=>by
  refine⟨⟨hp.lt (by omega),hp.lt (by omega),λz=>absurd (hp.inj (by omega) (by omega) z) (by omega)⟩, ?_⟩
  show Gd _ n (if O.blt _ _=true then .ret m else kas_asc p f _) _
  cases q:O.blt _ _ with
  | true=>exact⟨ai _,by omega,h,λ_=>q⟩
  | false=>
   exact Gd.mono (λr ⟨a,b,c⟩=>⟨by omega,b,c⟩) _ (Yq hp f _ (by omega) (by omega) (h.snoc h1 (Kx hk hp (by omega) (by omega) (by omega) q)))
def De (key:Nat->O.α)(p:Array Nat)(m:Nat):Prop:=∀i j,i < j->j < m->O.klt (kp key p j) (kp key p i)
theorem Yr {p:Array Nat}(hp:Pm n p):∀(f m:Nat),2<=m->m+f=n->De key p m->Gd (λi j=>O.blt (key i) (key j)) n (kas_desc f p m 0) λr=>r.1=p/\r.2.2=0/\m<=r.2.1/\r.2.1<=n/\De key p r.2.1
 | 0,m,_,hm,h=>⟨rfl,rfl,ai _,by show m<=n;omega,h⟩
 | f+1,m,h1,hm,h=>by
  refine⟨⟨hp.lt (by omega),hp.lt (by omega),λz=>absurd (hp.inj (by omega) (by omega) z) (by omega)⟩, ?_⟩
  show Gd _ n (if O.blt _ _=true then (if 0 > 0 then kas_desc f _ _ 0 else kas_desc f p _ 0) else .ask _ _ λd=>if d=true then .ret _ else kas_desc f p _ _) _
  cases q:O.blt _ _ with
  | true=>
   refine Gd.mono (λr ⟨a,b,c,d⟩=>⟨a,b,by omega,d⟩) _ (Yr hp f _ (by omega) (by omega) λi j hij hj=> ?_)
   by_cases hjm:j=m
   ·subst hjm
    by_cases him:i=j - 1
    ·rw[him];exact q
    ·exact dO (show O.klt _ _ from q) (fL (h i _ (by omega) (by omega)))
   ·exact h i j hij (by omega)
  | false=>
   refine⟨⟨hp.lt (by omega),hp.lt (by omega),λz=>absurd (hp.inj (by omega) (by omega) z) (by omega)⟩, ?_⟩
   have q2:O.blt _ _=true:=Kx hk hp (by omega) (by omega) (by omega) q
   show Gd _ n (if O.blt _ _=true then .ret _ else _) _
   rw[if_pos q2];exact⟨rfl,rfl,ai _,by show m<=n;omega,h⟩
omit hk in
theorem vV {p:Array Nat}(hp:Pm n p)(i j:Nat):Pm n (kas_rev p i j):=⟨(mirror_size _ _ _ _).trans hp.sz,(Array.perm_iff_toList_perm.mp (mirror_perm p i j _)).trans hp.pm⟩
omit hk in
theorem Ys {p:Array Nat}(hp:Pm n p)(hm:m<=n)(hk' :k < m):(kas_rev p 0 m).getD k 0=p.getD (m - 1 - k) 0:=by
 refine xI ?_;unfold kas_rev;rw[getElem?_mirror_all (by rw[hp.sz];exact hm),if_pos ⟨bg _,hk'⟩]
 congr 1
 omega
theorem je {p:Array Nat}(hp:Pm n p)(h2:2<=n):Gd (λi j=>O.blt (key i) (key j)) n (kas_count n p) λr=>1<=r.1/\r.1<=n/\Pm n r.2/\So key r.2 r.1:=by
 refine Gd.bind _ (Gd.mono (λm ⟨a,b,c,d⟩=> ?_) _ (Yq hk hp _ 1 (ai _) (by omega) λi j hij hj=>by omega))
 by_cases hmn:m=n
 ·rw[if_pos (by simpa using hmn)]
  exact⟨a,b,hp,c⟩
 ·rw[if_neg (by simpa using hmn)]
  by_cases hm1:m > 1
  ·rw[if_pos hm1];refine⟨⟨hp.lt (by omega),hp.lt (by omega),λz=>absurd (hp.inj (by omega) (by omega) z) (by omega)⟩, ?_⟩
   have q:O.blt _ (kp key p (m - 1))=true:=c 0 _ (by omega) (by omega)
   show Gd _ n (if O.blt _ _=true then .ret _ else _) _
   rw[if_pos q];exact⟨a,b,hp,c⟩
  ·have e:m=1:=by omega
   subst e;have d1:=d (by omega)
   refine Gd.bind _ (Gd.mono (λr ⟨r1,r2,r3,r4,r5⟩=> ?_) _ (Yr hk hp _ _ (by omega) (by omega) λi j hij hj=>by
    have:i=0/\j=1:=by omega
    rw[this.1,this.2];exact d1))
   rw[r2,r1];refine Gd.bind _ (Gd.mono (λm' ⟨x1,x2,x3,_⟩=>⟨by omega,x2,vV hp 0 _,x3⟩) _ (Yq hk (vV hp 0 _) _ _ (by omega) (by omega) λi j hij hj=> ?_))
   unfold kp;rw[Ys hp r4 (by omega),Ys hp r4 hj]
   exact r5 _ _ (by omega) (by omega)
omit hk in
end
end PV
namespace PV
open PySem PySem.Spec PyProof.Rows L2
section
end
section
end
section
open PySem.W PySem.Calls
variable {O:KeyOrd}{key:Nat->O.α}
end
section
open PySem.W PySem.Calls
end
end PV
namespace PV
open PySem PySem.Spec PyProof.Rows L2
section
end
section
open HT in
open HT in
end
section
end
end PV
namespace PV
open PySem PySem.Spec PyProof.Rows L2
end PV
namespace L2
open PySem PySem.Spec PyProof.Rows PySem.W
structure Lm (X:Cx) (c P:Addr) (q:Str):Prop where
 code:X.env.code= .ref c
 hd:codeHdIn X.K c P=true
 bt:X.base.BuiltinsAt X.mg P
 ql:X.env.qual++"<lambda>"=q
def Jw (H:Hp)(q:Str)(c:Addr):Prop:=∃oc vs t,H c=some (.frz oc (.own c))/\oc.data= .fields vs/\vs[1]? =some (.str q t)
theorem Jw.mono (s:zt H H')(h:Jw H q c):Jw H' q c:=let ⟨oc,vs,t,e,r⟩:=h;⟨oc,vs,t,s _ _ e,r⟩
theorem Jw.rec (x:Jw H q c)(ok:HOk P w H h):h.CodeRec (.ref c) q:=by
 obtain⟨oc,vs,t,e,d,v⟩:=x;exact⟨c,oc,vs,t,rfl,(ok c _ e).1,d,v⟩
theorem wc {p p' :Pos}{c cv:Value}:∀(l:List Value),TriplesOk l->codeAmong p (l++[rawInt p'.line,rawInt p'.col,c])=some cv->codeAmong p l=some cv\/cv=c
 | [],_,h=>by
  right
  simp only[bL,rawInt,codeAmong]at h;split at h
  ·exact(aq h).symm
  ·cases h
 | .int a t :: .int b u :: x :: r,ok,h=>by
  simp only[cJ,codeAmong]at h ⊢;split at h
  ·rename_i z;rw[if_pos z];exact .inl h
  ·rename_i z;rw[if_neg z];exact wc r (by simpa only[TriplesOk] using ok) h
noncomputable abbrev QW (q:Str)(params:Arguments)(body:Expr)(scope:Scope)(clos:List (Str×Addr))(pm ctv:Value)(c:Addr):Obj:=kla_obj "<lambda>" q params body scope clos pm c ctv
theorem vW (L:Lm X c P q)(hdef:defaultsOf params X.env=([],[]))(hcl:closureFor scope X.env=pure clos):
  PE X (.Lambda params body scope pos) (λσ H Q=>H P=some (.tbl #[] q)/\∀f c' pm ctv H',zt H H' ->H' f=some (.frz (QW q params body scope clos pm ctv c') (.own f))->Jw H' q c' ->Q (.ref f) H'):=by
 intro pins s σ H Q I ⟨hP,h⟩;obtain⟨more,eP,tr,al⟩:=I.hok P _ hP;have C:=codeHd_of_K I.kIn L.hd;have hg:=I.ok.mod.glob.keeps I.bk;have hB:s.heap.BuiltinsAt X.mg P:=by
  obtain⟨bm,o,b1,b2,b3,b4,b5,b6⟩:=L.bt;exact⟨bm,o,b1,b2,b3,b4,I.bk _ _ b5,b6⟩
 have hgP:mainGlobals ≠ P:=λz=>by
  obtain⟨o,es,ep,e,hd,_⟩:=hg;rw[z,eP]at e;cases e;cases hd
 have fobj:∀{H2:Hp} {f:Addr} {o:Obj} {h2:Heap},h2.get? f=some o->Zc X.prog X.w H2 h2 f (.frz o (.own f)):=λe=>⟨e,_,e⟩;refine kla_eval hdef ?_;rw[L.ql];cases hf:codeAmong pos _ with
 | some cv=>
  obtain⟨c',oc,vs,t,rfl,e2,e3,e4⟩:=al pos cv hf;refine kla_makeFunctionHit hcl I.ok.glob hg L.code C eP tr hf hB λctv h' tk hk hsz=> ?_;have hfr:=I.hok.fresh hsz;have e5:(h'.push (QW q params body scope clos ((X.mg "__name__").getD .none) ctv c')).get? _=some _:=ag _ rfl;refine⟨.ref _,_,I.laid (λb u e=>aa _ (hk b u e)) hsz (fobj e5),rfl, ?_⟩;exact h _ c' _ ctv _ (PV.zt.new hfr _) zw (Jw.mono (PV.zt.new hfr _) ⟨oc,vs,t,e2,e3,e4⟩)
 | none=>
  refine kla_makeFunction hcl I.ok.glob hg L.code C eP tr hf hgP hB λc' ctv h' tk hx hge hlt hrec htb=> ?_;obtain⟨c₂,oc,vs,t,e2,hoc,hd,hv⟩:=hrec;cases e2;have hc0:=I.hok.fresh hge;have neP:∀b,H b=none->b ≠ P:=λb n z=>by rw[z,hP]at n;cases n
  have neC:∀b o,s.heap.get? b=some o->b ≠ c' :=λb o e=>aE (aG (ao e) hge);have sm:zt H (upd H c' (.frz oc (.own c'))):=PV.zt.new hc0 _;have hl:(#[]++more++ #[rawInt pos.line,rawInt pos.col,Value.ref c']).toList=(#[]++more).toList++[rawInt pos.line,rawInt pos.col,Value.ref c']:=by simp
  have hok:HOk _ X.w (upd H c' _) h' :=λb u e=>by
   by_cases hb:b=c'
   ·subst hb;rw[zw]at e;cases e;exact fobj hoc
   ·rw[zu hb]at e
    by_cases hbP:b=P
    ·subst hbP;rw[hP]at e;cases e;refine⟨more++ #[rawInt _,rawInt _,Value.ref c'],by rw[← dE];exact htb,by rw[← dE,hl];exact TriplesOk_snoc _ _ _ _ tr,λp cv z=> ?_⟩
     rw[← dE,hl]at z;rcases wc _ tr z with z | rfl
     ·obtain⟨c2,oc2,vs2,t2,a1,a2,a3⟩:=al p cv z;exact⟨c2,oc2,vs2,t2,a1,sm _ _ a2,a3⟩
     ·exact⟨c',oc,vs,t,rfl,zw,hd,hv⟩
    ·refine(I.hok b u e).stay (λa v ha q' =>hx a v (λz=> ?_) q') (λ_ q' =>sm _ _ q') (λ_ _ q' =>sm _ _ q') λ_ _ _ q' =>sm _ _ q';subst z;rcases ha with z | z
     ·exact hbP z.symm
     ·rw[hP]at z;cases z
  have I1:Inv X pins σ (upd H c' (.frz oc (.own c'))) { s with heap:=h',toks:=s.toks }:=by
   refine I.step (ch:=[]) (λ_ z=>nomatch z) (λb o _ _ _ e n=>hx b o (neP b n) e) (λb o _ _ _ e n=>⟨o.slots,hx b o (neP b n) e⟩) (λb o _ e n=>by rw[zu (neC b o e)];exact n) (λb o _ e=> ?_) (λ_ _ e=>sm _ _ e) (λ_ _ _ e=>sm _ _ e) (λ_ _ _ e=>sm _ _ e) (λm hm=>hm.extBut hx (neP _ I.free)) hok I.bare
   by_cases hb:b=P
   ·exact⟨_,hb ▸ htb⟩
   ·exact⟨o,hx b o hb e⟩
  have hfr:upd H c' (.frz oc (.own c')) h'.objs.size=none:=by rw[zu (cG hlt)];exact I1.hok.fresh (ai _) |> λz=>by rw[zu (cG hlt)]at z;exact z
  have e5:(h'.push (QW q params body scope clos ((X.mg "__name__").getD .none) ctv c')).get? _=some _:=ag _ rfl;refine⟨.ref _,_,I1.laid (λb u e=>aa _ e) (ai _) (fobj e5),rfl, ?_⟩;have s2:zt _ (upd _ _ (.frz (QW q params body scope clos ((X.mg "__name__").getD .none) ctv c') (.own h'.objs.size))):=PV.zt.new hfr _;exact h _ c' _ ctv _ (sm.trans s2) zw (Jw.mono s2 ⟨oc,vs,t,zw,hd,hv⟩)
end L2
namespace L2
open PySem PySem.Spec PyProof.Rows PySem.W
def Q5 (s:Shared)(H:Hp)(fr:List Addr):Heap:=hideAll s.heap (trk s.heap H++fr)
theorem uL (e:s.heap.get? b=some o)(n:H b=none)(hb:b ∉ fr):(Q5 s H fr).get? b=some o:=
 hideAll_get _ e λhm=>by
  rcases dh.mp hm with z | z
  ·have q:=(cT.mp z).2;rw[n]at q;cases q
  ·exact hb z
theorem xJ (e:(Q5 s H fr).get? b=some o):s.heap.get? b=some o/\H b=none:=by
 have e' :=of_hideAll _ e;refine⟨e', ?_⟩;cases q:H b with
 | none=>rfl
 | some x=>
  have hm:b∈trk _ H++fr:=cC _ (cT.mpr ⟨bo.mpr (ao e'),by simp[q]⟩)
  have z:(Q5 s H fr).get? b=none:=hideAll_none _ hm;rw[z]at e;cases e
theorem Mod.keeps {K:Frag}{mg:Str->Option Value}{b b' :Heap}(m:Mod K mg b)(k:∀a o,b.get? a=some o->b'.get? a=some o):Mod K mg b' :=
 ⟨m.kin.keeps k,m.glob.keeps k,let ⟨mb,h1,h2⟩:=m.blt;⟨mb,h1.keeps k,h2⟩,m.nolimit.keeps k⟩
section
theorem Inv.big_of (I:Inv X pins σ H s):∀b o,X.base.get? b=some o->(Q5 s H (frs X.stack)).get? b=some o:=λb o e=>by
 refine uL (I.bs b o e).1 (I.bs b o e).2 λhb=> ?_;have:=(I.stack.mem hb).1;rw[e]at this;cases this
theorem Inv.big (I:Inv X pins σ H s):Uw X.prog X.w X.K X.mg (Q5 s H (frs X.stack)) X.A X.stack s H:=
 ⟨I.ok.frames,I.ok.mod.keeps I.big_of,λb o e=>xJ e,eF (hideAll_size _ _),funFrames_hide I.stack λenv he a ha=>aV _ (dv.mpr ⟨env,he,ha⟩),I.stkFree,I.hok,I.bare⟩
theorem Yt (I:Inv X pins σ H s)(F:ZX X.prog X.w X.K X.mg (Q5 s H (frs X.stack)) CX k f fd ps sp)(hr:Zy k X.A)(hb:Binds X.K fd ps [])(hx:Z9 CX X E)
  (r:zR vs us) (h:sp vs H Q E):wpAny (model X.prog X.w) X.A (call (.ref f) us) (EP X pins σ Q) X.xe s:=by
 have hl:us.length=ps.length:=by rw[← r.length];exact F.len _ _ _ _ h
 have hb' :=hb s us I.kIn (by rw[aW];exact hl)
 rw[aW]at hb';refine wpAny_call (cg (F.run X.A _ s H _ us vs Q E hr I.big hb' r h) λr s' hq=> ?_);cases r with
 | error e=>exact hx _ σ H s e s' I hq
 | ok fl=>
  cases fl with
  | ret u=>exact I.after hq
  | next=>exact bj hq
  | brk=>exact bj hq
  | cont=>exact bj hq
end
def cxL (P:Program)(w:World)(K:Frag)(mg:Str->Option Value)(base:Heap)(N:List Str)(q:Str)(scope:Scope)(f:Addr)(cd:Value)(clos:List (Str×Addr))(A:Around)(outer:List Env)(s:Shared)(H:Hp)(E:XK):Cx where
 prog:=P
 w:=w
 K:=K
 mg:=mg
 base:=base
 A:=A.deeper (envX q scope s.heap.objs.size f cd clos)
 N:=N
 s₀:=s
 H₀:=H
 env:=envX q scope s.heap.objs.size f cd clos
 outer:=outer
 stack:=envX q scope s.heap.objs.size f cd clos :: outer
 ex:=[]
 calm:=true
 fn:=λ_=>false
 pn:=[]
 xe:=λe s' =>wpAny (model P w) (A.deeper (envX q scope s.heap.objs.size f cd clos)) (leaving (envX q scope s.heap.objs.size f cd clos) e) (λ_ s'' =>CX1 P w outer H s E e s'') (λe' s'' =>CX1 P w outer H s E e' s'') s'
section
variable {P:Program}{w:World}{K:Frag}{mg:Str->Option Value}{base:Heap}{N:List Str}{q:Str}{scope:Scope}{f:Addr}{cd:Value}{clos:List (Str×Addr)}{A:Around}{outer:List Env}{s:Shared}{H:Hp}{E:XK}
theorem Ky:Z9 (CX1 P w) (cxL P w K mg base N q scope f cd clos A outer s H E) E:=by
 intro pins σ H1 s1 e s' I ⟨ea,cls,a0,B,H',he,L,hE⟩;subst he;exact wpAny_leaves_onW I.ok.frames rfl L.fly λh' fl sl=>⟨ea,cls,a0,B,H',rfl,L.out I rfl rfl rfl fl sl,hE⟩
structure LSc (scope:Scope):Prop where
 kind:scope.kind= .function
 co:scope.isCoroutine=false
 gen:scope.isGenerator=false
 nocell:∀x∈scope.names,x.2 ≠ .cell
structure Ws (base:Heap) (H:Hp) (scope:Scope) (clos:List (Str×Addr)) (N:List Str) (σ:St):Prop where
 inj:∀x y c,clos.lookup x=some c->clos.lookup y=some c->x=y
 has:∀x∈scope.names,x.2= .free->∃c,clos.lookup x.1=some c
 cell:∀x c,clos.lookup x=some c->(∃v,base.IsCell c v)/\H c=none
 loc:∀(i:Nat) (x:Str) (v:V),N[i]? =some x->σ[i]? =some (some v)->∃u c,Za v u/\clos.lookup x=some c/\base.IsCell c (some u)/\scope.names.lookup x=some .free
 len:σ.length=N.length
theorem wd {h h' :Heap}{c:Addr}{v:Option Value}(k:∀a o,h.get? a=some o->h'.get? a=some o)(x:h.IsCell c v):h'.IsCell c v:=let ⟨o,e,d⟩:=x;⟨o,k _ _ e,d⟩
theorem xK {σ:St}{h1:Heap}{tk:Nat}(S:LSc scope)(hd:A.handled=none)(e0:Uw P w K mg base A outer s H)(C:Ws base H scope clos N σ)(ns:h1.Ns s.heap.objs.size (λ_=>none))(hk:∀b o,s.heap.get? b=some o->h1.get? b=some o):
  Inv (cxL P w K mg base N q scope f cd clos A outer s H E) [] σ H { s with heap:=h1,toks:=tk }:=by
 have bk:=λb o e=>hk b o (e0.bs b o e).1;have noA:∀b,b ∉ (cxL P w K mg base N q scope f cd clos A outer s H E).ex:=λb z=>absurd (show b∈([]:List _) from z) (by simp)
 refine⟨⟨e0.mod,S.kind,rfl,rfl,ai _,C.inj,λy hy=> ?_,λy c h _=>(aH h).elim,λ_=>hd,eU e0.frames,.inr ⟨rfl,rfl⟩,λb z=>absurd z (noA b),e0.bs,e0.bsz,λb _ _=>noA b,λb z=>absurd z (noA b),e0.funs,e0.frf⟩,
  rfl,e0.bare,Un.kept hk,⟨_,ns,λi y v h1 h2 h3=> ?_⟩,λy c h=> ?_,e0.hok.fresh (ai _),λy c h=>(C.cell y c h).2,λp hp=>absurd (show p∈([]:List _) from hp) (by simp),e0.hok.kept hk,C.len⟩
 ·rcases hy with hy | hy
  ·exact absurd rfl (S.nocell _ (aZ hy))
  ·exact C.has _ (aZ hy) rfl
 ·obtain⟨u,c,r,e,ic,k⟩:=C.loc i y v h1 h2;exact⟨u,r,.inr ⟨.inr k,c,e,wd bk ic⟩⟩
 ·obtain⟨v,ic⟩:=(C.cell y c h).1;exact⟨v,wd bk ic⟩
theorem Yu {k:Nat}{params:Arguments}{body:Expr}{pm ctv:Value}{c' :Addr}{σ:St}{Q:VK}{te:TE}(S:LSc scope)(hr:Zy (k+1) A)(e0:Uw P w K mg base A outer s H)(C:Ws base H scope clos N σ)
  (hf:H f=some (.frz (QW q params body scope clos pm ctv c') (.own f))) (hc:Jw H q c') (hp:bindArgs (kla_fn "<lambda>" q params body scope clos pm (.ref c') ctv) ⟨[],[]⟩=pure [])
  (hb:PE (cxL P w K mg base N q scope f (.ref c') clos A outer s H E) body te) (ht:te σ H Q):
  codeAny (model P w) A (.call (.ref f) ⟨[],[]⟩) (CR (CX1 P w) outer P w H s Q E) s:=by
 have lim:=e0.mod.nolimit.keeps λb o e=>(e0.bs b o e).1;refine kla_callFunE hr.depth (e0.hok f _ hf).1 rfl S.co S.gen rfl (hc.rec e0.hok) ?_;rw[hp];refine ax (wpAny_newFunctionEnv S.nocell (λy hy=>by simp at hy) (λh1 hns hsb=> ?_) S.kind)
 have hk:=λb o e=>hsb.extBut b o (aE (ao e)) (aa _ e);refine⟨lim.keeps hk, ?_⟩;have I:=xK (q:=q) (f:=f) (cd:= .ref c') (E:=E) (tk:=s.toks+([]:List (Str×Value)).length) S hr.hd e0 C hns hk;exact kla_codeExpr (cW (hb [] _ σ H Q I ht) (λv s' ⟨x,H',J,r,q⟩=>⟨x,H',J.os,J.bare,J.base,J.hok,r,q⟩) λ_ _ z=>z)
end
end L2
namespace L2
open PySem PySem.Spec PyProof.Rows PySem.W
def z0W (X:Cx)(E:XK)(i:Nat)(f:Addr)(o:Obj):TE:=λσ H Q=>σ[i]? =some (some (.ref f))/\H f=some (.frz o (.own f))/\
 ∀s,Uw X.prog X.w X.K X.mg X.base X.A X.stack s H->codeAny (model X.prog X.w) X.A (.call (.ref f) ⟨[],[]⟩) (CR (CX1 X.prog X.w) X.stack X.prog X.w H s Q E) s
theorem Yv (hv:PE X (.Name x p) (jK i))(hx:Z9 (CX1 X.prog X.w) X E):
  PE X (.Call (.Name x p) [] [] pos) (z0W X E i f (QW q params body scope clos pm ctv c')):=by
 intro pins s σ H Q I ⟨hσ,hf,run⟩;refine bq (thn (hv _ s σ H (λv H' =>v= .ref f/\H' =H) I ⟨_,hσ,rfl,rfl⟩) λu s1 ⟨v,H1,I1,r,e1,e2⟩=> ?_);subst e1 e2;obtain rfl:u=Value.ref f:=r;refine callWith_F0 ⟨_,_,_,_,(I1.hok f _ hf).1⟩ ?_;refine wpAny_call (cg (run s1 I1.env0) λr s' hq=> ?_);cases r with
 | error e=>exact hx _ σ H1 s1 e s' I1 hq
 | ok fl=>
  cases fl with
  | ret u=>exact I1.after hq
  | next=>exact bj hq
  | brk=>exact bj hq
  | cont=>exact bj hq
end L2
namespace PV
open PySem PySem.Spec PyProof.Rows L2 PySem.W
section
theorem vX {js:List Nat}(I:L2.Inv X pins σ H s)(hfn:∀x,X.fn x=true)(hcl:∀x c,clos.lookup x=some c->X.env.cells.lookup x=some c)
  (hcf:∀x∈scope.names,x.2=NameKind.free->∃c,clos.lookup x.1=some c) (CP:XF X scope N' 0 js):Ws (Q5 s H (frs X.stack)) H scope clos N' (JK 0 js σ):=by
 have up:∀x c,X.env.cells.lookup x=some c->∀v,s.heap.IsCell c v->(Q5 s H _).IsCell c v:=λx c e v ⟨o,ho,hd⟩=>⟨o,uL ho (I.freeC x c e) λhb=>by
  rcases ah.mp (I.stkSub c hb) with z | z
  ·exact I.cne x c e z
  ·obtain⟨_,o2,e2,_⟩:=I.ok.funs.mem z;exact absurd (ao e2) (fu.mpr (I.ok.cab x c (hfn x) e)),hd⟩
 refine⟨λx y c h1 h2=>I.ok.inj x y c (hcl _ _ h1) (hcl _ _ h2),hcf,λx c e=>⟨?_,I.freeC x c (hcl x c e)⟩,λi x v h1 h2=> ?_,by unfold JK;simp[CP.len]⟩
 ·obtain⟨v,ic⟩:=I.cell x c (hcl x c e);exact⟨v,up x c (hcl x c e) v ic⟩
 ·unfold JK at h2;rw[List.replicate_zero,bL,ak]at h2;cases ej:js[i]? with
  | none=>rw[ej]at h2;cases h2
  | some j=>
   rw[ej]at h2;have h2' :(σ[j]?).getD _=some v:=aq h2;have hσ:σ[j]? =some (some v):=by
    cases ez:σ[j]? with
    | none=>rw[ez]at h2';cases h2'
    | some z=>rw[ez]at h2';exact congrArg _ h2'
   obtain⟨y,e1,e2,e3,e4,e5⟩:=CP.cap i j ej;rw[eL,h1]at e1;cases e1;obtain⟨m,hn,hlo⟩:=I.loc;obtain⟨u,ru,lk⟩:=hlo j x v e2 hσ e3;obtain⟨c,ec⟩:=hcf _ (aZ e4) rfl;rcases lk with ⟨k,_⟩ | ⟨_,c2,e6,ic⟩
   ·rcases e5 with z | z <;> (rw[k]at z;cases z)
   ·have:=hcl x c ec;rw[e6]at this;cases this;exact⟨u,c,ru,ec,up x c e6 _ ic,e4⟩
end
section
variable {P:Program}{w:World}{K:a9}{mg:Str->Option Value}{base:Heap}
def vY (cl:Nat->Value)(n:Nat)(g:List T->R T)(Pt:Addr)(q:Str):Sp:=λvs H Q E=>H Pt=some (.tbl #[] q)/\spP cl n g vs H Q E
end
end PV
namespace L2
open PySem PySem.Spec PyProof.Rows PySem.W
theorem Yw {P:Program}{w:World}{K:Frag}{mg mb:Str->Option Value}{CX:CXT}{k:Nat}{fa a c Pt:Addr}{fd:FuncData}{x q:Str}{sp:Sp}{s₁:Shared}{vs:List Value}{ns:List Int}
  (KX:K.In s₁.heap) (hns:s₁.heap.Ns mainGlobals mg) (hb:s₁.heap.Ns builtinsNs mb) (hbb:∀x:Str,x ≠ "__name__"->mb x=bootBuiltins x) (hlim:s₁.heap.NoLimit) (hg:s₁.gens= #[])
  (ha:s₁.heap.get? a=some { cls:= .type "list",data:= .seq vs.toArray }) (hi:IntsAre vs ns) (hl:ns.length<=sizeLine) (hr:Zy k callerA)
  (hbt:s₁.heap.BuiltinsAt mg Pt) (hPt:s₁.heap.get? Pt=some (tabObj #[])) (hKP:K.lookup Pt=none) (hC:codeHdIn K c Pt=true) (hKa:K.lookup a=none)
  (F:∀base:Heap,K.In base->base.BuiltinsAt mg Pt->ZX P w K mg base CX k fa fd [x] sp) (hbind:∀(s:Shared) (u:Value),BindsTo s fd ⟨[u],[]⟩ [(x,u)])
  (hsp:∀(H:Hp) (o:Obj),H a=some (.frz o (.lst (ns.map V.int)))->H Pt=some (.tbl #[] q)->sp [.ref a] H (λv _=>v= .bl true) λ_ _ _=>False)
  (hCX:∀H e s',CX [] H s₁ (λ_ _ _=>False) e s' ->False):
  codeAny (model P w) callerA (.call (.ref fa) ⟨[.ref a],[]⟩) (λr s' =>r= .ok (.ret (.bool true))/\OldK s₁.heap s'.heap/\s'.os=s₁.os/\AllBare s'.gens) s₁:=by
 have rv:=We hi;have hne:Pt ≠ a:=λz=>by rw[z,ha]at hPt;cases hPt
 obtain⟨H,hH⟩:∃H:Hp,H=upd (upd (λ_=>none) Pt (.tbl #[] q)) a (.frz { cls:= .type "list",data:= .seq vs.toArray } (.lst (ns.map V.int))):=⟨_,rfl⟩;have h1:H a=some (.frz { cls:= .type "list",data:= .seq vs.toArray } (.lst (ns.map V.int))):=by rw[hH,zw]
 have h2:H Pt=some (.tbl #[] q):=by rw[hH,zu hne,zw]
 have h3:∀b,b ≠ a->b ≠ Pt->H b=none:=λb n1 n2=>by rw[hH,zu n1,zu n2]
 have hok:HOk P w H _:=λb o e=>by
  by_cases b1:b=a
  ·subst b1;rw[h1]at e;cases e;exact⟨ha,by rw[ae];exact hl,vs,_,rv,ha⟩
  ·by_cases b2:b=Pt
   ·subst b2;rw[h2]at e;cases e;exact⟨#[],hPt,trivial,λp cv z=>by cases z⟩
   ·rw[h3 b b1 b2]at e;cases e
 have noD:∀{b:Addr} {o:Obj} {es:Array _} {ep:Nat},s₁.heap.get? b=some o->o.data= .dict es ep->H b=none:=λ{b o es ep} e d=>h3 b (λz=>by rw[z,ha]at e;cases e;cases d) λz=>by rw[z,hPt]at e;cases e;cases d
 have nsK:∀{b:Addr} {m:Str->Option _},s₁.heap.Ns b m->(XA _ H).Ns b m:=λ{b m} ⟨o,es,ep,e,d,r⟩=>⟨o,es,ep,wq e (noD e d),d,r⟩;have hKb:=λb o e=>wq (KX b o e) (h3 b (λz=>by rw[z,hKa]at e;cases e) λz=>by rw[z,hKP]at e;cases e)
 have hM:Mod K mg _:=⟨hKb,nsK hns,⟨mb,nsK hb,hbb⟩,let ⟨mc,h1,h2⟩:=hlim;⟨mc,nsK h1,h2⟩⟩;have hBT:(XA s₁.heap H).BuiltinsAt mg Pt:=by
  obtain⟨bm,o,b1,b2,b3,b4,b5,b6,b7,b8⟩:=hbt;exact⟨bm,o,b1,b2,b3,b4,wq b5 (h3 bm (λz=>by rw[z,ha]at b5;cases b5;cases b8) b4),b6,b7,b8⟩
 have e0:Uw P w K mg _ callerA [] _ H:=⟨rfl,hM,λb o e=>Vl e,eF (yl _ _),trivial,λb hb=>absurd (show b∈([]:List _) from hb) (by simp),hok,.of_eq hg⟩
 refine cg ((F _ hKb hBT).run _ [] _ H _ _ [.ref a] _ _ hr e0 (hbind _ _) (.cons rfl .nil) (hsp H _ h1 h2)) λr s' h=> ?_;cases r with
 | error e=>exact(hCX H e s' h).elim
 | ok fl=>
  cases fl with
  | next=>exact bj h
  | brk=>exact bj h
  | cont=>exact bj h
  | ret u=>
   obtain⟨v,H',os,bare,un,hok',r',qv⟩:=h;have q' :=qv;subst q';obtain rfl:u=Value.bool _:=r';refine⟨rfl,⟨λb o e=> ?_,λb o e=>un.there b o e (by simp)⟩,os,bare⟩
   by_cases b1:b=a
   ·subst b1;have z2:=un.frzs b _ _ h1;obtain⟨e2,_⟩:=hok' b _ z2;rw[ha]at e;cases e;exact .inl e2
   ·by_cases b2:b=Pt
    ·subst b2;obtain⟨more,e2,_⟩:=hok' b _ (un.tbls b _ _ h2);rw[hPt]at e;cases e;exact .inr (.inl ⟨((codeHd_of_K KX hC).tab hPt).isCodeTable,rfl, #[],more,rfl,e2⟩)
    ·exact .inl (un.keep b o e (h3 b b1 b2) (by intro z;exact absurd (show b∈([]:List _) from z) (by simp)) (by simp))
theorem walk_ofT {l:OpenLaw}{n k:Nat}{q:Program}{loose:List Str}{XP:(Str->Option Value)->Heap->Prop}{YP:World->Heap->Prop}{d:DefRec}{K:Params->Frag}{ts:List Addr}{CX:World->CXT}{sp:World->Addr->Sp}{x nm:Str}
  (hn:l.most=some n) (hn2:n<=sizeLine) (hdf:d.params.defaults=[]) (hr:Zy k callerA)
  (hY:∀(w:World) (h:Heap),YP w h->(K w.params).In h/\∀P∈ts,h.get? P=some (tabObj #[])) (hKa:∀(w:World) (a:Addr) (o:Obj),(K w.params).lookup a=some o->o.cls ≠ .type "list")
  (F:∀(w:World) (mg:Str->Option Value) (fa:Addr) (h:Heap),(K w.params).In h->h.Ns mainGlobals mg->mg d.name=some (.ref fa)->(∀P∈ts,h.get? P=some (tabObj #[]))->
   ∃(fd:FuncData) (c Pt:Addr),(∀(s:Shared) (u:Value),BindsTo s fd ⟨[u],[]⟩ [(x,u)])/\h.get? Pt=some (tabObj #[])/\(K w.params).lookup Pt=none/\codeHdIn (K w.params) c Pt=true/\
    ∀base:Heap,(K w.params).In base->base.BuiltinsAt mg Pt->ZX l.prog w (K w.params) mg base (CX w) k fa fd [x] (sp w Pt))
  (hsp:∀(w:World) (H:Hp) (a Pt:Addr) (o:Obj) (ns:List Int),ns.length<=n->H a=some (.frz o (.lst (ns.map V.int)))->H Pt=some (.tbl #[] nm)->sp w Pt [.ref a] H (λv _=>v= .bl true) λ_ _ _=>False)
  (hCX:∀(w:World) (H:Hp) (s:Shared) (e:Value) (s' :Shared),CX w [] H s (λ_ _ _=>False) e s' ->False):
  WalkO q loose XP YP l.row.toRowW d [] (λf vs=>ik f vs):=by
 refine Att.attach_call hn hdf λw s₀ s₁ mg mb fa o pm cd doc a vs ns G Y ho hd hcd hmg hobj hints hlen hg=> ?_;obtain⟨KX,hT⟩:=hY w _ Y;obtain⟨fd,c,Pt,hb,hPt,hKP,hC,hF⟩:=F w mg fa _ KX G.T.g hmg hT;obtain⟨bm,ob,b1,b2,b3,b4,b5,b6⟩:=G.T.bmain;have hbP:bm ≠ Pt:=λz=>by rw[z,hPt]at b3;cases b3;cases b4
 have hbG:bm ≠ mainGlobals:=λz=>by
  obtain⟨o,es,ep,e,hd,_⟩:=G.T.g;rw[z,e]at b3;cases b3;rw[hd]at b6;cases b6
 refine Yw KX G.T.g G.T.b G.T.builtins G.T.nolimit hg hobj hints (aC hlen hn2) hr ⟨bm,ob,b1,b2,hbG,hbP,b3,b4,b5,b6⟩ hPt hKP hC ?_ hF hb (λH o h1 h2=>hsp w H a Pt o ns hlen h1 h2) λH e s' =>hCX w H _ e s';cases hk:(K _).lookup a with
 | none=>rfl
 | some o2=>
  have e:=KX a o2 hk;rw[hobj]at e;cases e;exact(hKa w a _ hk rfl).elim
end L2
namespace PV
open PySem PySem.Spec PyProof.Rows L2
end PV
namespace PV
open PySem PySem.Spec PyProof.Rows L2 PySem.W
section
def ixO (i:Nat)(fb:En->R T):En->R T:=λρ=>match ρ[i]? with
 | some (.ow ts)=>(fb ρ).bind λt=>match t with
  | .int j=>atT ts j
  | _=> .bad
 | _=> .bad
theorem z0X (hv:PE X (.Name x p) (jK i))(hb:Snd X Y b fb)(hs:Jq b:=by exact λ_ _=>rfl):Snd X Y (.Subscript (.Name x p) b pos) (ixO i fb):= .mk λρ=>
 PE.imp (Qm uv hv (hb ρ) hs) λσ H Q ⟨B,I,q⟩=>by
  unfold ixO at q;split at q
  ·rename_i ts e;obtain⟨a,xs,e1,_⟩:=I.ow i ts e;refine⟨.ref a,e1,step I q λt' v' H2 _ s2 r2 I2 q2=> ?_⟩;obtain⟨a2,xs2,e2,_,_,hh,rr,_⟩:=I2.ow i ts e;rw[e1]at e2;cases e2;cases r2 with
   | int j=>
    have q2:Po Y rC _ H2 (atT ts j) Q:=q2;unfold atT at q2;split at q2
    ·rename_i t e3;obtain⟨w,e4,e5⟩:=JY rr e3;exact .inl ⟨_,xs2,j,w,rfl,rfl,SqL.of hh,e4,po0 I2.sB q2 rfl e5⟩
    ·exact q2.elim
   | _=>exact q2.elim
  ·exact q.elim
theorem SI.forget (I:SI Y B ρ σ H)(i:Nat)(v:Option V):SI Y B (ρ.set i .un) (σ.set i v) H where
 s0:=I.s0
 sH:=I.sH
 sB:=I.sB
 old:=I.old
 len:=by rw[aF,aF];exact I.len
 vl:=λj t h=>by
  rcases zr h with ⟨_,z⟩ | ⟨n,z⟩
  ·cases z
  ·obtain⟨v',e,r⟩:=I.vl j t z;exact⟨v',by rw[ay (aX n)];exact e,r⟩
 ow:=λj ts h=>by
  rcases zr h with ⟨_,z⟩ | ⟨n,z⟩
  ·cases z
  ·obtain⟨a,xs,e,b0,h0,hh,r,d⟩:=I.ow j ts z;refine⟨a,xs,by rw[ay (aX n)];exact e,b0,h0,hh,r,λj' us n' h' => ?_⟩
   rcases zr h' with ⟨_,z'⟩ | ⟨n2,z'⟩
   ·cases z'
   ·rw[ay (aX n2)];exact d j' us n' z'
 xc:=λj c h=>by
  rcases zr h with ⟨_,z⟩ | ⟨n,z⟩
  ·cases z
  ·obtain⟨a,e,r⟩:=I.xc j c z;exact⟨a,by rw[ay (aX n)];exact e,r⟩
 st:=let ⟨as,O,x⟩:=I.st;⟨as,O,x.set i _ _ rfl (λ_=>Sl.noConfusion)⟩
end
end PV
namespace PV
open PySem PySem.Spec PyProof.Rows L2
section
end
end PV
namespace PV
open PySem PySem.Spec PyProof.Rows L2 PySem.W
section
end
theorem Yx:∀(ns:List (Str×NameKind)) (n:Nat) (acc:List (Str×Addr)),(∀k,(x,k)∈ns->k ≠ NameKind.cell)->(cellsFrom n ns acc).lookup x=acc.lookup x
 | [],_,_,_=>rfl
 | (y,k) :: ns,n,acc,h=>by
  unfold cellsFrom;have h' :=λk hk=>h k (a8 _ hk);split
  ·rename_i hk;rw[Yx ns _ _ h',av];have:x ≠ y:=λz=>h k (by rw[z];exact ab) (eq_of_beq hk)
   rw[beq_eq_false_iff_ne.mpr this]
  ·exact Yx ns _ _ h'
theorem uM:∀(ns:List (Str×NameKind)) (n:Nat) (acc:List (Str×Addr)),(cellsFrom n ns acc).lookup x=some c->((x,NameKind.cell)∈ns/\n<=c)\/acc.lookup x=some c
 | [],_,_,h=> .inr h
 | (y,k) :: ns,n,acc,h=>by
  unfold cellsFrom at h;split at h
  ·rename_i hk;rcases uM ns _ _ h with ⟨a,b⟩ | z
   ·exact .inl ⟨a8 _ a,cA b⟩
   ·rw[av]at z
    by_cases hx:x=y
    ·subst hx;rw[beq_self_eq_true]at z;have e:=aq z;rw[eq_of_beq hk];exact .inl ⟨ab,eF e⟩
    ·rw[beq_eq_false_iff_ne.mpr hx]at z;exact .inr z
  ·rcases uM ns _ _ h with ⟨a,b⟩ | z
   ·exact .inl ⟨a8 _ a,b⟩
   ·exact .inr z
theorem wK:∀(ns:List (Str×NameKind)) (n:Nat) (acc:List (Str×Addr)),(∃c,acc.lookup x=some c)->∃c,(cellsFrom n ns acc).lookup x=some c
 | [],_,_,h=>h
 | (y,k) :: ns,n,acc,h=>by
  unfold cellsFrom;split
  ·refine wK ns _ _ ?_;rw[av]
   by_cases hx:x=y
   ·subst hx;rw[beq_self_eq_true];exact⟨_,rfl⟩
   ·rw[beq_eq_false_iff_ne.mpr hx];exact h
  ·exact wK ns _ _ h
theorem vZ:∀(ns:List (Str×NameKind)) (n:Nat) (acc:List (Str×Addr)),(x,NameKind.cell)∈ns->∃c,(cellsFrom n ns acc).lookup x=some c
 | (y,k) :: ns,n,acc,h=>by
  unfold cellsFrom;rcases ah.mp h with e | h
  ·cases e;refine wK ns _ _ ⟨n, ?_⟩;rw[av,beq_self_eq_true]
  ·split <;> exact vZ ns _ _ h
theorem Yy:∀(ns:List (Str×NameKind)) (n m:Nat) (acc:List (Str×Addr)),m<=n->((x,NameKind.cell)∈ns\/∀d,acc.lookup x=some d->m<=d)->(cellsFrom n ns acc).lookup x=some c->m<=c
 | [],_,_,_,_,h,e=>(h.resolve_left (by simp)) _ e
 | (y,k) :: ns,n,m,acc,hm,h,e=>by
  unfold cellsFrom at e;split at e
  ·refine Yy ns _ m _ (Nat.le_succ_of_le hm) ?_ e
   by_cases hx:x=y
   ·subst hx;refine .inr λd z=> ?_;rw[av,beq_self_eq_true]at z;have e:=aq z;rw[← e];exact hm
   ·rcases h with h | h
    ·rcases ah.mp h with z | z
     ·cases z;exact absurd rfl hx
     ·exact .inl z
    ·refine .inr λd z=> ?_;rw[av,beq_eq_false_iff_ne.mpr hx]at z;exact h d z
  ·rename_i hk;refine Yy ns _ m _ hm ?_ e;rcases h with h | h
   ·rcases ah.mp h with z | z
    ·cases z;exact absurd rfl hk
    ·exact .inl z
   ·exact .inr h
theorem Yz:∀(ns:List (Str×NameKind)) (n:Nat) (acc:List (Str×Addr)),(∀x y c,acc.lookup x=some c->acc.lookup y=some c->x=y)->(∀x c,acc.lookup x=some c->c < n)->∀x y c,(cellsFrom n ns acc).lookup x=some c->(cellsFrom n ns acc).lookup y=some c->x=y
 | [],_,_,h,_=>h
 | (y,k) :: ns,n,acc,h,hb=>by
  unfold cellsFrom;split
  ·have lk:∀x c,((y,n) :: acc).lookup x=some c->(x=y/\c=n)\/acc.lookup x=some c:=λx c e=>by
    rw[av]at e
    by_cases hx:x=y
    ·subst hx;rw[beq_self_eq_true]at e;exact .inl ⟨rfl,(aq e).symm⟩
    ·rw[beq_eq_false_iff_ne.mpr hx]at e;exact .inr e
   refine Yz ns _ _ (λa b c e1 e2=> ?_) λa c e=> ?_
   ·rcases lk a c e1 with ⟨p1,q1⟩ | z1 <;> rcases lk b c e2 with ⟨p2,q2⟩ | z2
    ·rw[p1,p2]
    ·exact absurd (hb _ _ z2) (by rw[q1];exact aY _)
    ·exact absurd (hb _ _ z1) (by rw[q2];exact aY _)
    ·exact h a b c z1 z2
   ·rcases lk a c e with ⟨_,q⟩ | z
    ·rw[q];exact bY _
    ·exact bJ (hb _ _ z)
  ·exact Yz ns _ _ h hb
theorem u6:∀(ns:List (Str×NameKind)) (h:Heap) (acc:List (Str×Addr)),(cellsFrom h.objs.size ns acc).lookup x=some c->(∀d,acc.lookup x=some d->∃v,h.IsCell d v)->∃v,(pushCells h ns).IsCell c v
 | [],_,_,e,k=>k c e
 | (y,k) :: ns,h,acc,e,hk=>by
  unfold pushCells;unfold cellsFrom at e;split at e
  ·rename_i hc;rw[if_pos hc];have sz:(h.push { cls:= .type "cell",data:= .cell none }).objs.size=h.objs.size+1:=bh ..;rw[← sz]at e;refine u6 ns _ _ e λd z=> ?_;rw[av]at z
   by_cases hx:x=y
   ·subst hx;rw[beq_self_eq_true]at z;have e:=aq z;rw[← e];exact⟨none,_,ag _ rfl,rfl⟩
   ·rw[beq_eq_false_iff_ne.mpr hx]at z;obtain⟨v,o,eo,ed⟩:=hk d z;exact⟨v,o,aa _ eo,ed⟩
  ·rename_i hc;rw[if_neg hc];exact u6 ns _ _ e hk
theorem jo (h:(relabel scope env).names.lookup x=some k):∃k',(x,k')∈scope.names/\(k=k' \/k' = .free/\k= .cell):=by
 have go:∀ns:List _,(ns.map λ(n,k)=>if (k == NameKind.free && env.scope.kind == .function && env.kindOf n == some .cell) then (n,NameKind.cell) else (n,k)).lookup x=some k->∃k',(x,k')∈ns/\(k=k' \/k' = .free/\k= .cell):=by
  intro ns
  induction ns with
  | nil=>intro h;simp at h
  | cons y ns ih=>
   intro h;obtain⟨n,k'⟩:=y;rw[aI]at h
   by_cases hx:x=n
   ·subst hx;refine⟨k',ab, ?_⟩
    by_cases hc:(k' == NameKind.free && env.scope.kind == .function && env.kindOf x == some .cell)=true
    ·simp only[if_pos hc,av,beq_self_eq_true]at h;rw[ac,ac]at hc;exact .inr ⟨eq_of_beq hc.1.1,(aq h).symm⟩
    ·simp only[if_neg hc,av,beq_self_eq_true]at h;exact .inl (aq h).symm
   ·obtain⟨z,hz,h1⟩:=ih (by
     by_cases hc:(k' == NameKind.free && env.scope.kind == .function && env.kindOf n == some .cell)=true
     ·simp only[if_pos hc,av,(beq_eq_false_iff_ne.mpr hx)]at h;exact h
     ·simp only[if_neg hc,av,(beq_eq_false_iff_ne.mpr hx)]at h;exact h)
    exact⟨z,a8 _ hz,h1⟩
 exact go _ h
def cxD (X:Cx)(scope:Scope)(N' :List Str)(cl:List (Str×Addr))(C:Addr)(s3:Shared)(H3:Hp)(fp:List Addr)(pins:List (Addr×Obj)):Cx:=
 { X with N:=N',s₀:=s3,H₀:=H3,env:=compEnvC scope (cellsFrom (C+1) scope.names cl) C X.env,outer:=X.stack,stack:=X.stack,ex:=fp,fn:=λx=>scope.names.lookup x == some .cell,pn:=X.pn++pins,xe:=λ_ _=>False }
structure CSd (X:Cx) (scope:Scope):Prop where
 kind:scope.kind= .function
 can:∀x∈scope.names,scope.names.lookup x.1=some x.2
 fre:∀x∈scope.names,x.2= .free->X.env.kindOf x.1=some .cell\/X.env.kindOf x.1=some .free
section
theorem UN (I:L2.Inv X pins σ H s)(S:CSd X scope)(hc:X.calm=true)
  (hcl:∀x c,cl.lookup x=some c->X.env.cells.lookup x=some c) (hcf:∀x∈scope.names,x.2=NameKind.free->∃c,cl.lookup x.1=some c)
  (hfp:∀b∈fp,JS X pins H b) (hfo:∀b∈fp,∃o,s.heap.get? b=some o)
  (h0s:h0.objs.size=s.heap.objs.size+1) (h0k:∀b o,s.heap.get? b=some o->h0.get? b=some o) (eh:h' =pushCells h0 scope.names)
  (hns:h'.Ns s.heap.objs.size (λ_=>none)) (hk:∀b o,s.heap.get? b=some o->h'.get? b=some o)
  (hl:σ'.length=N'.length) (hσ:∀(i:Nat) (x:Str) (v:V),N'[i]? =some x->σ'[i]? =some (some v)->∃j:Nat,X.N[j]? =some x/\σ[j]? =some (some v)/\Vis X.env.scope x/\(scope.names.lookup x=some .free)/\(X.env.kindOf x=some .cell\/X.env.kindOf x=some .free)):
  L2.Inv (cxD X scope N' cl s.heap.objs.size s H fp pins) [] σ' H { s with heap:=h',toks:=tk }:=by
 have stk:=I.stkSub;have hlt:=λb hb=>let ⟨o,e⟩:=hfo b hb;ao e;have fresh:=I.hok.fresh (ai _);have cll:∀x c,cl.lookup x=some c->c < s.heap.objs.size:=λx c e=>by
  obtain⟨v,o,eo,_⟩:=I.cell x c (hcl x c e);exact ao eo
 have any:∀x c,(cellsFrom _ scope.names cl).lookup x=some c->s.heap.objs.size+1<=c\/X.env.cells.lookup x=some c:=λx c e=>by
  rcases uM _ _ _ e with ⟨_,z⟩ | z
  ·exact .inl z
  ·exact .inr (hcl x c z)
 refine⟨⟨I.ok.mod,S.kind,I.ok.glob,I.ok.blt,ai _,Yz _ _ _ (λx y c h1 h2=>I.ok.inj x y c (hcl _ _ h1) (hcl _ _ h2)) (λx c e=>bJ (cll x c e)),λx hx=> ?_,λx c h e=> ?_,λ_=>I.ok.hd hc,I.ok.frames,.inl rfl,λb hb=> ?_,I.bs,
   aC I.ok.bsz I.sz,λb o e hb=> ?_,λb hb hb' => ?_,I.stack,I.stkFree⟩,rfl,I.bare,Un.kept hk,⟨_,hns,λi x v h1 h2 h3=> ?_⟩,λx c e=> ?_,fresh,λx c e=> ?_,λp hp=> ?_,I.hok.kept hk,hl⟩
 ·have hx' :=hx;have:(x,NameKind.cell)∈scope.names\/(x,NameKind.free)∈scope.names:=by
   rcases hx' with h | h
   ·obtain⟨k',m,e | ⟨e,_⟩⟩:=jo h
    ·exact .inl (e ▸ m)
    ·exact .inr (e ▸ m)
   ·obtain⟨k',m,e | ⟨e,_⟩⟩:=jo h
    ·exact .inr (e ▸ m)
    ·exact .inr (e ▸ m)
  rcases this with h | h
  ·exact vZ _ _ _ h
  ·exact wK _ _ _ (hcf _ h rfl)
 ·have hm:=aZ (eq_of_beq h);exact cA (Yy _ _ _ _ (ai _) (.inl hm) e)
 ·refine⟨aE (hlt b hb),λx c e=> ?_⟩;rcases any x c e with z | z
  ·exact λq=>absurd (hlt b hb) (by rw[← q];exact fu.mpr (cA z))
  ·exact(hfp b hb).2.2.2.2.1 x c z
 ·rcases(hfp b hb).2.2.2.1 with h | h
  ·exact I.ok.noex b o e h
  ·exact absurd (aG (ao e) (aC I.ok.bsz h)) (aY _)
 ·have q:=hfp b hb;rcases ah.mp (stk b hb') with z | z
  ·exact q.2.1 z
  ·exact q.2.2.1 z
 ·obtain⟨j,e1,e2,e3,e4,e5⟩:=hσ i x v h1 h2;obtain⟨m,hn,hloc⟩:=I.loc;obtain⟨u,ru,lk⟩:=hloc j x v e1 e2 e3;have only:∀k,(x,k)∈scope.names->k= .free:=λk hk=>by
   have:=S.can _ hk;rw[e4]at this;exact(aq this).symm
  refine⟨u,ru,.inr ⟨?_, ?_⟩⟩
  ·rcases h3 with h | h | h
   ·obtain⟨k',m',e | ⟨_,e⟩⟩:=jo h
    ·have:=only _ m';rw[← e]at this;cases this
    ·cases e
   ·exact .inl h
   ·exact .inr h
  ·rcases lk with ⟨hk',_⟩ | ⟨_,c,hc',hcell⟩
   ·rcases e5 with z | z <;> (rw[z]at hk';cases hk')
   ·obtain⟨c',hc2⟩:=hcf _ (aZ e4) rfl;have:=hcl x c' hc2;rw[hc']at this;cases this;obtain⟨o,eo,ed⟩:=hcell;refine⟨c, ?_,o,hk _ _ eo,ed⟩;show (cellsFrom _ _ cl).lookup x=_;rw[Yx _ _ _ λk hk=>by rw[only k hk];decide]
    exact hc2
 ·have e:(cellsFrom _ _ cl).lookup x=some c:=e;rw[← h0s]at e;rw[eh];refine u6 _ _ _ e λd z=> ?_;obtain⟨v,o,eo,ed⟩:=I.cell x d (hcl _ _ z);exact⟨v,o,h0k _ _ eo,ed⟩
 ·rcases any x c e with z | z
  ·exact I.hok.fresh (cA z)
  ·exact I.freeC x c z
 ·have hp' :=by
   have:=hp;rwa[aW]at this
  obtain⟨e,n,ne,nf,dc⟩:=I.pin p hp';refine⟨hk _ _ e,n,aE (ao e),λhb=> ?_,dc⟩;rcases ah.mp (stk _ hb) with z | z
  ·exact ne z
  ·exact nf z
end
theorem xL {Q:Env->Shared->Prop}
  (hQ:Q { scope,locals:=s.heap.objs.size,globals,cells:=cellsFrom (s.heap.objs.size+1) scope.names closure,qual,func:=none,code:=outer.code,frame:=outer.frame,builtins:=outer.builtins } { s with heap:=pushCells (s.heap.push { cls:= .type "dict",data:= .dict #[] }) scope.names }):
  wpAny M A (newFunctionEnv scope globals closure [] qual none .none (some outer)) Q E s:=by
 refine a7 (wpAny_alloc ?_);refine a7 (wpAny_layCells _ (λname kind cells=>by cases hkc:kind == NameKind.cell <;> simp[hkc]) _ _ _ _ ?_)
 refine a7 (ax (ax ?_));rw[show ({ s with heap:=s.heap.push _ }:Shared).heap.objs.size=s.heap.objs.size+1 from bh ..];exact hQ
abbrev YA (X:Cx)(scope:Scope)(N' :List Str)(P:Cx->Prop):Prop:=∀cl C s3 H3 fp pins,P (cxD X scope N' cl C s3 H3 fp pins)
section
theorem YB {js:List Nat}{use:Option (Value->Sem Unit)}(S:CSd X scope)(CP:XF X scope N' k js)(hc:X.calm=true)
  (hi:PI X tg iter wi) (hg:YA X scope N' λXC=>PG XC tg g) (ht:YA X scope N' λXC=>PIf XC ifs tt) (he:YA X scope N' λXC=>PE XC elt te) {pins:List (Addr×Obj)} {σ:Sg} {H:Hp} {s:Shared} {Q:Value->Shared->Prop} {F:Addr->Hp->Prop} (I:L2.Inv X pins σ H s)
  (h:wi σ H λJ H1=>∀D,H1 D=none->∃W,(∃m,W 0 m [] (JK k js σ) (upd H1 D (.lst [])))/\UH J D g tt te (λ_ H' =>F D H') W)
  (hQ:∀D C H' s',L2.Inv X pins σ H' s' ->F D H' ->H' C=none->(X.s₀.heap.objs.size<=C)->C ≠ X.env.locals->(∀x c,X.env.cells.lookup x=some c->c ≠ C)->(∀p∈X.pn++pins,p.1 ≠ C)->(∃m,s'.heap.Ns C m)->compPost (model X.prog X.w) X.A X.xe use Q (.ref D) C (.ok .next) s')
  (hs:∀x,foldedSetIterable iter X.env x=pure x:=by intro _;rfl):
  wpAny (model X.prog X.w) X.A (comprehension (.ListComp elt [⟨tg,iter,ifs,0⟩] scope pos) scope X.env pos' (newList []) false (eval iter X.env) use) Q X.xe s:=by
 obtain⟨cl,ecl,hcl,hcf⟩:=wA (scope:=scope) (env:=X.env) λx hx hf=>I.ok.has x.1 (S.fre x hx hf);refine wpAny_comprehension_free rfl hs ecl S.kind (λx hx hl=>by rw[S.can x hx,hl]) ?_
 refine thn (hi pins s σ H _ I h) λv s1 h1=>thn h1 λitv s2 h2=> ?_;obtain⟨it,fp,tn,J,H2,e,I2,TJ,st2,f2,q2⟩:=h2;subst e;refine be ?_;have hD:=I2.hok.fresh (ai _);have I3:L2.Inv X pins σ (upd H2 s2.heap.objs.size (.lst [])) { s2 with heap:=s2.heap.push { cls:= .type "list",data:= .seq _ } }:=
  I2.laid (t' :=s2.toks) (λb u e=>aa _ e) (ai _) ⟨bg _,[],_,.nil,ag _ rfl⟩
 obtain⟨W,⟨m0,w0⟩,turn⟩:=q2 s2.heap.objs.size hD;have f3:∀b∈fp,JS X pins (upd H2 s2.heap.objs.size (.lst [])) b:=λb hb=>by
  obtain⟨o,eo,_⟩:=TJ.obj _ _ st2 b hb;exact⟨by rw[zu (aE (ao eo))];exact(f2 b hb).1,(f2 b hb).2⟩
 have o3:∀b∈fp,∃o,(s2.heap.push { cls:= .type "list",data:= .seq ([]:List Value).toArray }).get? b=some o:=λb hb=>by
  obtain⟨o,eo,_⟩:=TJ.obj _ _ st2 b hb;exact⟨o,aa _ eo⟩
 have t3:tn 0 (s2.heap.push { cls:= .type "list",data:= .seq ([]:List Value).toArray }):=TJ.keep _ _ _ st2 λb hb o e=>aa _ e;refine xL ?_;generalize hD' :s2.heap.objs.size=D at*;generalize hH:upd H2 D (.lst [])=H3 at*;generalize hG:({ s2 with heap:=s2.heap.push _ }:Shared)=s3 at*;have hg3:s2.heap.push { cls:= .type "list",data:= .seq ([]:List Value).toArray }=s3.heap:=by rw[← hG]
 rw[hg3]at o3 t3;have k4:∀b o,s3.heap.get? b=some o->(pushCells (s3.heap.push { cls:= .type "dict",data:= .dict #[] }) scope.names).get? b=some o:=λb o e=>pushCells_keeps _ _ b o (aa _ e);have IC:=UN (N' :=N') (cl:=cl) (fp:=fp) (σ' :=JK k js σ) (tk:=s3.toks) I3 S hc hcl hcf f3 o3 (bh ..) (λb o e=>aa _ e) rfl ((Heap.Ns.new _ _).keeps (pushCells_keeps _ _)) k4 (by unfold JK;simp[CP.len]) (λi x v h1 h2=>by
  unfold JK at h2
  by_cases hik:i < k
  ·rw[aB (by simpa using hik),aL,if_pos hik]at h2
   cases h2
  ·have hk' :=by omega
   rw[au (by simpa using hk'),aJ,ak]at h2
   cases ej:js[i - k]? with
   | none=>rw[ej]at h2;cases h2
   | some j=>
    rw[ej]at h2;obtain⟨y,e1,e2,e3,e4,e5⟩:=CP.cap _ j ej;have:k+(i - k)=i:=by omega
    rw[this,h1]at e1;cases e1;refine⟨j,e2, ?_,e3,e4,e5⟩;have h2' :some ((σ[j]?).getD _)=some _:=h2;cases ez:σ[j]? with
    | none=>rw[ez]at h2';cases h2'
    | some z=>rw[ez]at h2';exact congrArg _ (aq h2'))
 generalize hXD:cxD X _ N' cl _ s3 H3 fp _=XD at IC;have TC:Uj XD.prog XD.w XD.K tg J fp it tn:=by rw[← hXD];exact TJ
 have t4:=TJ.keep _ _ _ t3 λb hb o e=>k4 b o e;have fC:∀b∈fp,JS XD [] H3 b:=λb hb=>by
  obtain⟨q0,q1,q2,q3,q4,q5⟩:=f3 b hb;obtain⟨o,eo⟩:=o3 b hb;rw[← hXD];refine⟨q0,aE (ao eo),λhb' => ?_,.inl hb,λx c e=> ?_,λp hp=> ?_⟩
  ·rcases ah.mp (I3.stkSub b hb') with z | z
   ·exact q1 z
   ·exact q2 z
  ·rcases uM _ _ _ e with ⟨_,z⟩ | z
   ·exact λq=>absurd (ao eo) (by rw[← q];exact fu.mpr (cA z))
   ·exact q4 x c (hcl _ _ z)
  ·exact q5 p (by
    have:=hp;rwa[aW]at this)
 have fin:∀(s5:Shared) (σ5:Sg) (H5:Hp),L2.Inv XD [] σ5 H5 s5->F D H5->compPost _ X.A _ use Q _ _ _ s5:=λs5 σ5 H5 I5 q5=>by
  subst hXD;have J5:=I3.call' I5.os I5.base I5.hok I5.bare λb hb=>by
   obtain⟨q0,q1,q2,q3,q4,q5⟩:=f3 b hb;exact⟨q3,q1,q4,q5⟩
  refine hQ _ _ H5 s5 J5 q5 I5.free I3.sz (cG I3.lt) (λx c e z=> ?_) (λp hp z=> ?_) (let ⟨m,hm,_⟩:=I5.loc;⟨m,hm⟩)
  ·obtain⟨v',o,eo,_⟩:=I3.cell x c e;exact absurd (ao eo) (by rw[z];exact aY _)
  ·exact absurd (ao (I3.pin p hp).1) (by rw[z];exact aY _)
 have hxe:XD.xe=λ_ _=>False:=by rw[← hXD];rfl
 have loop:=Wo (iter:=iter) (scope:=scope) (pos:=pos) (λ_ _ z=>by rw[hxe]at z;exact z.elim) (by rw[← hXD];exact hc) TC (hXD ▸ hg cl _ _ _ _ _) (hXD ▸ ht cl _ _ _ _ _) (hXD ▸ he cl _ _ _ _ _) W turn fin w0 IC t4 fC
 subst hXD;exact codeAny_compStart_list loop (TJ.self _ _ _ _ _ t4 loop)
end
section
variable {X:Cx}{Y:Fx}{tg iter elt:Expr}{ifs:List Expr}{scope:Scope}{pos pos' :Pos}{N' :List Str}{k:Nat}{js:List Nat}{fi:En->R (List T)}{tG:TG}{g:T->En->R En}{ft:En->R Bool}{fe:En->R T}
theorem UP {B1 H1:Hp}{σ:Sg}{ρ:En}{J:It}{ts:List T}{r:R (List T)}{D:Addr}{E0:XK}(hG:GOk tG g)(hN:GNo g)(I:SI Y B1 ρ σ H1)(rI' :rI B1 H1 J ts)(hl:ts.length<=bnd)(ev:zG g ft fe ts (Jb k js ρ)=r)(hD:H1 D=none){F:Hp->Prop}
  (hF:CEnd r (λvs=>∀H' xs B',zt H1 H' ->H' D=some (.lst xs)->zB B' xs vs->zt B' (zH B1 H1 H')->B' D=none->zt B1 B' ->F H') λc=>∀d H',zt H1 H' ->zt B1 H' ->E0 (Y.cl c) d H'):
  ∃W,(∃m,W 0 m [] (JK k js σ) (upd H1 D (.lst [])))/\UH J D tG (λσ H Q=>∃Y' ρ',Y'.cl=Y.cl/\zt Y.H0 Y'.H0/\tS Y' rE ft ρ' σ H Q) (λσ H Q=>∃Y' ρ',Y'.cl=Y.cl/\zt Y.H0 Y'.H0/\tS Y' rC fe ρ' σ H Q) (λ_ H' =>F H') W:=by
 refine⟨λi m ys σ' H' =>m=ts.length - i/\i<=ts.length/\ys.length<=i/\H' D=some (.lst ys)/\∃ρ' B' us,SI ⟨B1,H1,E0,Y.cl,[]⟩ B' ρ' σ' H' /\xa ρ' /\zt B1 B' /\B' D=none/\zB B' ys us/\((zG g ft fe (ts.drop i) ρ').bind λws=> .ok (us++ws))=r,
  ⟨ts.length,by simp,bg _,bg _,zw,_,B1,[],I.block (H3:=H1) k js _ hD _,uD k js ρ,zt.refl _,I.sB.free hD,.nil,by rw[eV,ev];cases r <;> rfl⟩, ?_⟩
 rintro i m ys σ' H' ⟨rfl,hi,hyl,hDl,ρ',B',us,I',no',s1',bD,r',ew⟩
 refine⟨hDl, ?_⟩;obtain⟨hgo,hyld,hstop⟩:=rI' B' H' s1' I'.sB;have tD:∀H2,zt H' H2->zH B' H' H2 D=none:=λH2 s=>by rw[Z1 hDl];exact bD
 by_cases hlt:i < ts.length
 ·refine .inr ⟨hgo i hlt,λx H2 y=> ?_⟩;obtain⟨s2,r2⟩:=hyld i _ x H2 (aj hlt) y;rw[cM hlt]at ew;unfold zG at ew;have I2:=I'.grow s2;refine hG _ _ ρ' σ' H2 x _ _ I2 r2 ?_;cases eg:g _ ρ' with
  | bad=>rw[eg]at ew;subst ew;exact hF
  | ex c=>exact(hN.2 _ _ _ eg).elim
  | ok ρ1=>
   rw[eg]at ew;have no1:=hN.1 _ _ _ no' eg;intro σ1 J1;refine⟨⟨B1,H1,E0,Y.cl,[]⟩,ρ1,rfl,I.sH,_,J1, ?_⟩;have ew1:((ft ρ1).bind (λk=>if k=true then (fe ρ1).bind λv=>(zG g ft fe _ ρ1).bind λvs=> .ok _ else zG g ft fe _ ρ1)).bind (λws=> .ok _)=r:=ew
   cases ef:ft ρ1 with
   | bad=>rw[ef]at ew1;subst ew1;exact hF
   | ex c=>
    rw[ef]at ew1;subst ew1;exact λd H' a b=>hF d H' a ((s1'.trans (zH.ge I'.sB s2)).trans b)
   | ok kk=>
    rw[ef]at ew1;intro b H3 s3 eb;have eb' :=eb;subst eb';have ew2:=ew1;have J2:=J1.grow s3;have hD3:=s3 _ _ (s2 _ _ hDl);have bD3:zH (zH B' H' H2) H2 H3 D=none:=by rw[Z1 (s2 _ _ hDl)];exact tD H2 s2
    have sB3:=(zH.ge I'.sB s2).trans (zH.ge I2.sB s3);cases b with
    | false=>exact⟨ts.length - (i+1),by omega,rfl,hlt,by omega,hD3,ρ1,_,us,J2,no1,s1'.trans sB3,bD3,r'.mono sB3,ew2⟩
    | true=>
     refine⟨⟨B1,H1,E0,Y.cl,[]⟩,ρ1,rfl,I.sH,_,J2, ?_⟩;have ew3:=ew2;cases ee:fe ρ1 with
     | bad=>rw[ee]at ew3;subst ew3;exact hF
     | ex c=>
      rw[ee]at ew3;subst ew3;exact λd H' a b=>hF d H' a ((s1'.trans sB3).trans b)
     | ok v=>
      rw[ee]at ew3;have ew4:=ew3;have ew5:(zG g ft fe (ts.drop (i+1)) ρ1).bind (λws=> .ok ((us++[v])++ws))=r:=by
       rw[← ew4];cases zG g ft fe _ ρ1 with
       | ok ws=>show R.ok _=R.ok _;rw[bf];rfl
       | _=>rfl
      intro w H4 s4 rw4;have hD4:=s4 _ _ hD3;have J3:=J2.grow s4;have bD4:zH (zH (zH B' H' H2) H2 H3) H3 H4 D=none:=by rw[Z1 hD3];exact bD3
      have sB4:=sB3.trans (zH.ge J2.sB s4);refine⟨hD4,aG (bB hyl hlt) (Zg hl),ts.length - (i+1),by omega,rfl,hlt,by rw[aA,aK];omega,zw,ρ1,_,us++[v], ?_,no1,s1'.trans sB4,bD4,(r'.mono sB4).append (.cons rw4 .nil),ew5⟩
      exact J3.acc bD4 hD (λj ts' e=>((no1 j _ e).1 ts' rfl).elim) (λj x e=>(no1 j x e).2) _
 ·have e:i=ts.length:=by omega
  subst e;refine .inl ⟨hstop _ (ai _), ?_⟩;rw[dW]at ew;have ew' :R.ok _=r:=ew;rw[aW]at ew';subst ew';refine hF H' ys B' I'.sH hDl r' (λb o h=> ?_) bD s1';cases q:H1 b with
  | none=>rw[zW q];exact I'.sB b o h
  | some u=>
   rw[Z1 q];have z:B' b=B1 b:=I'.old b u q;rw[← z];exact h
structure u7 (X:Cx) (Y:Fx) (tg iter elt:Expr) (ifs:List Expr) (scope:Scope) (N' :List Str) (k:Nat) (js:List Nat) (fi:En->R (List T)) (tG:TG) (g:T->En->R En) (ft:En->R Bool) (fe:En->R T):Prop where
 sc:CSd X scope
 cp:XF X scope N' k js
 cm:X.calm=true
 it:W4 X Y tg iter fi
 gt:YA X scope N' λXC=>PG XC tg tG
 gk:GOk tG g
 gn:GNo g
 tt:∀Y',Y'.cl=Y.cl->zt Y.H0 Y'.H0->YA X scope N' λXC=>Jc XC Y' ifs ft
 el:∀Y',Y'.cl=Y.cl->zt Y.H0 Y'.H0->YA X scope N' λXC=>Snd XC Y' elt fe
 hs:∀x,foldedSetIterable iter X.env x=pure x
theorem xM (C:u7 X Y tg iter elt ifs scope N' k js fi tG g ft fe):Snd X Y (.ListComp elt [⟨tg,iter,ifs,0⟩] scope pos) (Z6 fi g ft fe k js):= .mk λρ=>by
 intro pins s σ H Q I ⟨B,J,q⟩;refine YB (F:=λD H' =>Q (.ref D) H') (te:=λσ H Q=>∃Y' ρ',Y'.cl=Y.cl/\zt _ _/\tS Y' rC fe ρ' σ H Q) (tt:=λσ H Q=>∃Y' ρ',Y'.cl=Y.cl/\zt _ _/\tS Y' rE ft ρ' σ H Q) C.sc C.cp C.cm (C.it ρ) C.gt
  (λcl Cx' s3 H3 fp pins pins' s σ H Q I ⟨Y',ρ',ey,eS,q⟩=>C.tt Y' ey eS cl Cx' s3 H3 fp _ ρ' _ s σ H Q I q) (λcl Cx' s3 H3 fp pins pins' s σ H Q I ⟨Y',ρ',ey,eS,q⟩=>C.el Y' ey eS cl Cx' s3 H3 fp _ ρ' _ s σ H Q I q) I ?_ ?_ C.hs
 ·refine step J q λts it' H1 _ s1 r1 J1 q1=> ?_;intro D hD;unfold zD at q1;split at q1
  ·rename_i hl;cases ev:zG g ft fe ts _ with
   | bad=>rw[ev]at q1;exact q1.elim
   | ex c=>rw[ev]at q1;exact q1.elim
   | ok vs=>
    rw[ev]at q1;refine UP (E0:=λ_ _ _=>False) C.gk C.gn J1 r1 hl ev hD λH' xs B' s' e' r' l' b' sb' => ?_;refine(show Po Y rC _ H1 _ Q from q1) _ H' s' ?_;exact .lst (by rw[zW hD];exact e') (r'.mono l')
  ·exact q1.elim
 ·intro D Cc H' s' I' q' hC h0 hL hcell hpin hns;obtain⟨m,hm⟩:=hns;refine⟨m,hm,λh' hsb=>⟨.ref D,H', ?_,rfl,q'⟩⟩;exact I'.turned (λb o hb e=>hsb.extBut b o hb e) hC (aX hL).symm (.inr h0) hcell hpin
end
noncomputable def Gk (scope sc0:Scope):Bool:=(scope.kind == .function) && scope.names.all (λx=>scope.names.lookup x.1 == some x.2) &&
 scope.names.all (λx=>x.2 != .free || sc0.names.lookup x.1 == some .cell || sc0.names.lookup x.1 == some .free)
theorem Kz (sc0:Scope)(h0:X.env.scope=sc0)(h:Gk scope sc0=true):CSd X scope:=by
 unfold Gk at h;simp only[ac,aQ]at h;obtain⟨⟨h1,h3⟩,h4⟩:=h;refine⟨eq_of_beq h1,λx hx=>eq_of_beq (h3 x hx),λx hx hf=> ?_⟩;have:=h4 x hx;rw[hf]at this;show X.env.scope.names.lookup x.1=_\/X.env.scope.names.lookup x.1=_;rw[h0];simpa using this
theorem xN {js:List Nat}{g:T->En->R En}(N' :List Str)(N:List Str)(sc0:Scope)(hN:X.N=N)(h0:X.env.scope=sc0)
  (h:(Gk scope sc0 && XG N N' scope sc0 k js)=true) (cm:X.calm=true) (it:W4 X Y tg iter fi) (gt:YA X scope N' λXC=>PG XC tg tG) (gk:GOk tG g) (gn:GNo g) (tt:∀Y',Y'.cl=Y.cl->zt Y.H0 Y'.H0->YA X scope N' λXC=>Jc XC Y' ifs ft)
  (el:∀Y',Y'.cl=Y.cl->zt Y.H0 Y'.H0->YA X scope N' λXC=>Snd XC Y' elt fe) (hs:∀x,foldedSetIterable iter X.env x=pure x:=by intro _;rfl):u7 X Y tg iter elt ifs scope N' k js fi tG g ft fe:=by
 rw[ac]at h;exact⟨Kz sc0 h0 h.1,wF N sc0 hN h0 h.2,cm,it,gt,gk,gn,tt,el,hs⟩
def FsIn (B H0 H:Hp)(O:Addr->Option Nat)(us:List (Str×V))(fs:List (Str×Fd)):Prop:=(us.length=fs.length/\InC us)/\∀(m:Nat) (f:Str) (d:Fd),fs[m]? =some (f,d)->∃v,us[m]? =some (f,v)/\
 match d with
 | .tv t=>Rep B v t
 | .tl ts=>∃l xs,v= .ref l/\B l=none/\H0 l=none/\H l=some (.lst xs)/\zB B xs ts/\O l=some (m+1)
def xO (cl:Nat->Value)(k:Nat)(B H0 H:Hp)(x:Addr)(fs:List (Str×Fd)):Prop:=∃C dx us O,cl k= .ref C/\H x=some (.ins C dx us)/\B x=none/\H0 x=none/\O x=some 0/\FsIn B H0 H O us fs
theorem SI.obAt {Y:Fx}{B:Hp}{ρ:En}{σ:Sg}{H:Hp}(I:SI Y B ρ σ H){j k:Nat}{x:Addr}{fs:List (Str×Fd)}{os:List Ob}(hx:Y.as=[x])(h:ρ[j]? =some (.st ((k,fs) :: os))):xO Y.cl k B Y.H0 H x fs:=by
 obtain⟨as,O,s⟩:=I.st;obtain⟨a,C,dx,vs,e1,e2,e3,e4,e5,e6,e7,e8⟩:=s.st j _ h 0 k fs rfl;have ha:a=x:=by
  obtain⟨t,et⟩:=s.pre;rw[hx]at et;rw[← et]at e1;exact(aq e1).symm
 subst ha;refine⟨C,dx,vs,λb=>(O b).bind λp=>if p.1=0 then some p.2 else none,e2,e3,e4,e5,by dsimp only;rw[e6];rfl,e7,λm f d z=> ?_⟩
 obtain⟨v,z1,z2⟩:=e8 m f d z;refine⟨v,z1, ?_⟩;cases d with
 | tv t=>exact z2
 | tl ts=>
  obtain⟨l,xs,p1,p2,p3,p4,p5,_,p7⟩:=z2;exact⟨l,xs,p1,p2,p3,p4,p5,by dsimp only;rw[p7];rfl⟩
def enM (k j:Nat)(fs:List (Str×Fd))(ts:List T):En:= .ob k 0 :: (ts.map Sl.vl++(af (j - 1 - ts.length) .un++[.st [(k,fs)]]))
theorem ZJ (h:(enM k j fs ts)[i]? =some s):(i=0/\s= .ob k 0)\/(∃i' t,i=i' +1/\ts[i']? =some t/\s= .vl t)\/s= .un\/(s= .st [(k,fs)]/\i=1+ts.length+(j - 1 - ts.length)):=by
 unfold enM at h;cases i with
 | zero=>exact .inl ⟨rfl,(aq h).symm⟩
 | succ i=>
  rw[c8]at h
  by_cases hi:i < ts.length
  ·rw[aB (by simpa using hi),ak,aj hi]at h
   exact .inr (.inl ⟨i,_,rfl,aj hi,(aq h).symm⟩)
  ·rw[au (by simpa using hi)]at h
   by_cases h2:i - (ts.map Sl.vl).length < j - 1 - ts.length
   ·rw[aB (by simpa using h2),aL,if_pos h2]at h
    exact .inr (.inr (.inl (aq h).symm))
   ·rw[au (by simpa using h2)]at h
    generalize hq:i - (ts.map _).length - (af _ _).length=q at h;cases q with
    | zero=>
     refine .inr (.inr (.inr ⟨(aq h).symm, ?_⟩));rw[ae,aJ]at hq;rw[ae]at h2;omega
    | succ q=>cases h
theorem zB.at {B:Hp}:∀{vs:List V} {ts:List T},zB B vs ts->∀{i:Nat} {t:T},ts[i]? =some t->∃v,vs[i]? =some v/\Rep B v t
 | _,_,.nil,i,t,h=>by simp at h
 | _,_, @zB.cons _ v _ _ _ r rr,0,t,h=>by cases h;exact⟨v,rfl,r⟩
 | _,_,.cons r rr,i+1,t,h=>zB.at rr h
theorem SI.startM {cl:Nat->Value}{k j:Nat}{B H0 H:Hp}{x:Addr}{fs:List (Str×Fd)}{E:XK}{vs:List V}{ts:List T}{N:List Str}(hN:N.length=j+1)(hj:ts.length+1<=j)(sB:zt B H0)(sH:zt H0 H)(ob:xO cl k B H0 H x fs)(r:zB B vs ts):
  SI ⟨B,H0,E,cl,[x]⟩ B (enM k j fs ts) (L2.start N (.ref x :: vs)) H where
 s0:=sB
 sH:=sH
 sB:=sB.trans sH
 old:=λ_ _ _=>rfl
 len:=by
  unfold enM L2.start;have:=r.length;simp only[ar,aA,ae,aJ,bM];omega
 vl:=λi t h=>by
  rcases ZJ h with ⟨_,e⟩ | ⟨i',t',e1,e2,e3⟩ | e | ⟨e,_⟩
  ·cases e
  ·cases e3;subst e1;obtain⟨v,ev,rv⟩:=r.at e2;refine⟨v, ?_,rv⟩;unfold L2.start;have hi:i' < vs.length:=(am.mp ev).1;rw[aB (by simpa using hi),aI,c8,ak,ev];rfl
  ·cases e
  ·cases e
 ow:=λi t h=>by
  rcases ZJ h with ⟨_,e⟩ | ⟨i',t',e1,e2,e3⟩ | e | ⟨e,_⟩
  ·cases e
  ·cases e3
  ·cases e
  ·cases e
 xc:=λi t h=>by
  rcases ZJ h with ⟨_,e⟩ | ⟨i',t',e1,e2,e3⟩ | e | ⟨e,_⟩
  ·cases e
  ·cases e3
  ·cases e
  ·cases e
 st:=by
  obtain⟨C,dx,us,O,c1,c2,c3,c4,c5,c6,c7⟩:=ob;refine⟨[x],λb=>(O b).map λm=>(0,m),bZ _,λi os h=> ?_,λi i' os os' h h' => ?_,λi k' n h=> ?_,λi k' fs0 h=> ?_,λi os h n k' fs' e=> ?_⟩
  ·rcases ZJ h with ⟨_,e⟩ | ⟨_,_,_,_,e⟩ | e | ⟨e,_⟩ <;> cases e
   rfl
  ·rcases ZJ h with ⟨_,e⟩ | ⟨_,_,_,_,e⟩ | e | ⟨_,e⟩
   ·cases e
   ·cases e
   ·cases e
   ·rcases ZJ h' with ⟨_,e'⟩ | ⟨_,_,_,_,e'⟩ | e' | ⟨_,e'⟩
    ·cases e'
    ·cases e'
    ·cases e'
    ·rw[e,e']
  ·rcases ZJ h with ⟨e0,e⟩ | ⟨i',t',e1,e2,e3⟩ | e | ⟨e,_⟩
   ·cases e;subst e0;exact⟨x,C,dx,us,rfl,rfl,c1,c2,c3,c4,c6.2⟩
   ·cases e3
   ·cases e
   ·cases e
  ·rcases ZJ h with ⟨e0,e⟩ | ⟨i',t',e1,e2,e3⟩ | e | ⟨e,_⟩
   ·cases e
   ·cases e3
   ·cases e
   ·cases e
  ·rcases ZJ h with ⟨e0,e'⟩ | ⟨i',t',e1,e2,e3⟩ | e' | ⟨e',_⟩
   ·cases e'
   ·cases e3
   ·cases e'
   ·cases e';cases n with
    | succ n=>cases e
    | zero=>
     cases e;refine⟨x,C,dx,us,rfl,c1,c2,c3,c4,by rw[c5];rfl,c6,λm f d z=> ?_⟩
     obtain⟨v,z1,z2⟩:=c7 m f d z;refine⟨v,z1, ?_⟩;cases d with
     | tv t=>exact z2
     | tl us' =>
      obtain⟨l,xs,p1,p2,p3,p4,p5,p6⟩:=z2;refine⟨l,xs,p1,p2,p3,p4,p5,λj' us2 hj' => ?_,by show io _ (O l)=_;rw[p6];rfl⟩
      rcases ZJ hj' with ⟨_,e⟩ | ⟨_,_,_,_,e⟩ | e | ⟨e,_⟩ <;> cases e
def PoO (cl:Nat->Value)(k:Nat)(B H0:Hp)(x:Addr)(r:R (T×List (Str×Fd)))(Q:VK)(E:XK):Prop:=match r with
 | .ok (t,fs')=>∀v H' B',zt H0 H' ->zt B B' ->zt B' H' ->(∀b o,H0 b=some o->B' b=B b)->xO cl k B' H0 H' x fs' ->Rep B' v t->Q v H'
 | .ex c=>∀d H',zt H0 H' ->zt B H' ->E (cl c) d H'
 | .bad=>False
def spM (cl:Nat->Value)(k n:Nat)(g:List (Str×Fd)->List T->R (T×List (Str×Fd))):Sp:=λvs H Q E=>∃(x:Addr) (vs' :List V) (ts:List T) (B H0:Hp) (fs:List (Str×Fd)),vs= .ref x :: vs' /\ts.length=n/\zt B H0/\zt H0 H/\xO cl k B H0 H x fs/\zB B vs' ts/\PoO cl k B H0 x (g fs ts) Q E
def PoR (Y:Fx)(B:Hp)(r:R (T×En))(D:Q2):Prop:=match r with
 | .ok (t,ρ')=>(∀v σ' H' B',zt B B' ->SI Y B' ρ' σ' H' ->Rep B' v t->D.rt v H')/\(t= .non->∀σ' H' B',zt B B' ->SI Y B' ρ' σ' H' ->D.nx σ' H')
 | .ex c=>XP Y B c
 | .bad=>False
theorem XP.up (s:zt B B')(h:XP Y B c):XP Y B' c:=λd H' a b=>h d H' a (s.trans b)
theorem PoR.up {r:R (T×En)}{D:Q2}(s:zt B B')(h:PoR Y B r D):PoR Y B' r D:=by
 unfold PoR at h ⊢;split
 ·exact⟨λv σ' H' B2 a=>h.1 v σ' H' B2 (s.trans a),λe σ' H' B2 a=>h.2 e σ' H' B2 (s.trans a)⟩
 ·exact XP.up s h
 ·exact h
structure V0 (X:Cx) (Y:Fx) (body:List Stmt) (f:En->R (T×En)):Prop where
 mk ::
 go:∀ρ,PSs X body λD σ H=>∃B,SI Y B ρ σ H/\PoR Y B (f ρ) D
def PoM (Y:Fx)(B:Hp)(r:R (T×En))(σ:Sg)(Q:VK):Prop:=match r with
 | .ok (t,ρ')=>∀v H' B',zt B B' ->SI Y B' ρ' σ H' ->Rep B' v t->Q v H'
 | .ex c=>XP Y B c
 | .bad=>False
structure xP (X:Cx) (Y:Fx) (e:Expr) (f:En->R (T×En)):Prop where
 mk ::
 go:∀ρ,PE X e λσ H Q=>∃B,SI Y B ρ σ H/\PoM Y B (f ρ) σ Q
section
variable {X:Cx}{Y:Fx}{e:Expr}{st:Stmt}{rest:List Stmt}{pos:Pos}
def xQ (f:En->R T):En->R (T×En):=λρ=>(f ρ).bind λt=> .ok (t,ρ)
theorem KA (h:Snd X Y e f):xP X Y e (xQ f):= .mk λρ=>PE.imp (h ρ) λσ H Q ⟨B,I,q⟩=>⟨B,I,by
 unfold xQ at q;revert q;cases f ρ with
 | ok t=>exact λq v H' s r=>q v H' _ (zH.ge I.sB s) (I.grow s) r
 | ex c=>exact λq=>q
 | bad=>exact λq=>q⟩
theorem z0Y (h:xP X Y e f):V0 X Y [.Return (some e) pos] f:= .mk λρ=>PSs.imp (wu (jY (h.go ρ))) λD σ H ⟨B,I,q⟩=>⟨B,I,by
 unfold PoR at q;unfold PoM;split at q
 ·exact λv H' B' a b c=>q.1 v σ H' B' a b c
 ·exact q
 ·exact q⟩
def z0Z:En->R (T×En):=λρ=> .ok (.non,ρ)
theorem z10:V0 X Y [] z0Z:= .mk λρ=>PSs.imp WS λD σ H ⟨B,I,q⟩=>q.2 rfl σ H B (zt.refl _) I
def jp (f:En->RS)(g:En->R (T×En)):En->R (T×En):=λρ=>match f ρ with
 | .nx ρ' =>g ρ'
 | .ex c=> .ex c
 | _=> .bad
theorem KC {f:En->RS}{g:En->R (T×En)}(h1:jA X Y st f)(h2:V0 X Y rest g):V0 X Y (st :: rest) (jp f g):= .mk λρ=>by
 refine PSs.imp (j9 (u:=λD σ H=>∃ρ' B,SI Y B ρ' σ H/\PoR Y B (g ρ') D) (h1 ρ) ?_) ?_
 ·intro pins s σ H D I ⟨ρ',q⟩;exact h2.go ρ' _ s σ H D I q
 ·intro D σ H ⟨B,I,q⟩;refine⟨B,I, ?_⟩;unfold jp at q;revert q;cases f ρ with
  | nx ρ' =>exact λq σ' H' B' s I' =>⟨ρ',B',I',q.up s⟩
  | ex c=>exact λq=>q
  | rt t=>exact λq=>q.elim
  | rf t=>exact λq=>q.elim
  | bk ρ=>exact λq=>q.elim
  | ct ρ=>exact λq=>q.elim
  | bad=>exact λq=>q.elim
end
def uN (k j:Nat)(r:R (T×En)):R (T×List (Str×Fd)):=r.bind λp=>match p.2[j]? with
 | some (.st ((k',fs) :: _))=>if k' =k then .ok (p.1,fs) else .bad
 | _=> .bad
section
variable {P:Program}{w:World}{K:a9}{mg:Str->Option Value}{base:Heap}
theorem V1 {cl:Nat->Value}{x qual:Str}{st:Stmt}{f:Addr}{fd:FuncData}{N ps:List Str}{k n j kr:Nat}{fb:En->R (T×En)}(F:Fun K x qual st f fd)(S:ZF N ps (zq st))(hn:ps.length=n+1)(hN:N.length=j+1)(hj:n+1<=j)
  (hb:∀(cdv:Value) (A:Around) (outer:List Env) (s:Shared) (H:Hp) (E:XK) (Y:Fx),Y.cl=cl->Y.E=E->Zy kr (A.deeper (envOfC qual (zq st) s.heap.objs.size f cdv))->
   V0 (jv (CX1 P w) P w K mg base N qual (zq st) f cdv A outer s H E) Y (zK st) fb):ZX P w K mg base (CX1 P w) (kr+1) f fd ps (spM cl k n λfs ts=>uN k j (fb (enM k j fs ts))):=by
 refine Fun.okX F S (λvs H Q E z=> ?_) λcdv A outer s H vs Q E hr z=> ?_
 ·obtain⟨x,vs',ts,B,H0,fs,e,hl,_,_,_,r,_⟩:=z;rw[e,ar,r.length,hl,hn]
 obtain⟨x,vs',ts,B,H0,fs,e,hl,sB,sH,ob,r,q⟩:=z;subst e;refine⟨_,(hb cdv A _ s H E _ rfl rfl hr).go _,B,SI.startM hN (by omega) sB sH ob r, ?_⟩
 have q:PoO cl k B H0 x (uN k j _) Q E:=q;revert q;cases fb _ with
 | bad=>exact λq=>q
 | ex c=>exact λq=>q
 | ok p=>
  obtain⟨t,ρ'⟩:=p;show PoO cl k B H0 x (match ρ'[j]? with | some (.st ((k',fs) :: _))=>(if k' =k then R.ok _ else R.bad) | _=>R.bad) Q E->_
  split
  ·rename_i k' fs' os ej;split
   ·rename_i hk;subst hk;intro q;have key:∀v σ' H' B',zt B B' ->SI ⟨B,H0,E,cl,[x]⟩ B' ρ' σ' H' ->Rep B' v t->Q v H' :=λv σ' H' B' s1 I' rv=>q v H' B' I'.sH s1 I'.sB (λb o h=>I'.old b o h) (I'.obAt rfl ej) rv;exact⟨key,λet σ' H' B' s1 I' =>key _ σ' H' B' s1 I' (by rw[et];exact .non)⟩
   ·exact λq=>q.elim
  ·exact λq=>q.elim
end
def obD (k i j:Nat)(ρ:En):Option (Nat×List (Str×Fd)×List Ob):=match ρ[i]?,ρ[j]? with
 | some (.ob k' n),some (.st os)=>match os[n]? with
  | some (k2,fs)=>if k' =k/\k2=k then some (n,fs,os) else none
  | none=>none
 | _,_=>none
theorem we {k i j:Nat}{ρ:En}{n:Nat}{fs:List (Str×Fd)}{os:List Ob}(h:obD k i j ρ=some (n,fs,os)):ρ[i]? =some (.ob k n)/\ρ[j]? =some (.st os)/\os[n]? =some (k,fs):=by
 unfold obD at h;split at h
 ·rename_i k' n' os' e1 e2;split at h
  ·rename_i k2 fs' e3;split at h
   ·rename_i hk;obtain⟨rfl,rfl⟩:=hk;cases h;exact⟨e1,e2,e3⟩
   ·cases h
  ·cases h
 ·cases h
theorem u8 {f:Str}{d:Fd}:∀{fs:List (Str×Fd)} {vs:List (Str×V)},(∀(m:Nat) (g:Str) (e:Fd),fs[m]? =some (g,e)->∃v,vs[m]? =some (g,v))->fs.lookup f=some d->∃(m:Nat) (v:V),fs[m]? =some (f,d)/\vs[m]? =some (f,v)/\vs.lookup f=some v
 | [],_,_,h=>by simp at h
 | (g,e) :: fs,vs,al,h=>by
  obtain⟨v,hv⟩:=al 0 g e rfl;cases vs with
  | nil=>cases hv
  | cons w vs=>
   cases hv;rw[av]at h
   by_cases hx:f=g
   ·subst hx;rw[beq_self_eq_true]at h;cases h;exact⟨0,v,rfl,rfl,by rw[av,beq_self_eq_true]⟩
   ·rw[beq_eq_false_iff_ne.mpr hx]at h;obtain⟨m,v',a,b,c⟩:=u8 (λm=>al (m+1)) h;exact⟨m+1,v',a,b,by rw[av,beq_eq_false_iff_ne.mpr hx];exact c⟩
theorem YC {f:Str}:∀{fs:List (Str×Fd)} {vs:List (Str×V)},vs.length=fs.length->(∀(m:Nat) (g:Str) (e:Fd),fs[m]? =some (g,e)->∃v,vs[m]? =some (g,v))->fs.lookup f=none->vs.lookup f=none
 | [],vs,l,_,h=>by
  cases vs with
  | nil=>rfl
  | cons _ _=>cases l
 | (g,e) :: fs,vs,l,al,h=>by
  obtain⟨v,hv⟩:=al 0 g e rfl;cases vs with
  | nil=>cases hv
  | cons w vs=>
   cases hv;rw[av]at h ⊢
   by_cases hx:f=g
   ·subst hx;rw[beq_self_eq_true]at h;cases h
   ·rw[beq_eq_false_iff_ne.mpr hx]at h ⊢;exact YC (by simpa using l) (λm=>al (m+1)) h
section
theorem SI.look (I:SI Y B ρ σ H){k i j n:Nat}{fs:List (Str×Fd)}{os:List Ob}{f:Str}{d:Fd}(h:obD k i j ρ=some (n,fs,os))(hl:fs.lookup f=some d):∃a C dx vs v,∃m:Nat,∃as O,StI Y B ρ σ H as O/\σ[i]? =some (some (V.ref a))/\Y.cl k= .ref C/\H a=some (.ins C dx vs)/\vs.lookup f=some v/\fs[m]? =some (f,d)/\vs[m]? =some (f,v)/\FdR Y B ρ σ H (λl=>O l=some (n,m+1)) v d:=by
 obtain⟨h1,h2,h3⟩:=we h;obtain⟨as,O,s⟩:=I.st;obtain⟨a,C,dx,vs,e1,e2,e3,e4,e5,e6,e7,e8⟩:=s.st j os h2 n k fs h3;obtain⟨a',C',dx',vs',g1,g2,_⟩:=s.ob i k n h1;rw[e1]at g1;cases g1;obtain⟨m,v,z1,z2,z3⟩:=u8 (λm g e he=>let ⟨v,z,_⟩:=e8 m g e he;⟨v,z⟩) hl;obtain⟨v',y1,y2⟩:=e8 m f d z1;rw[z2]at y1;cases y1;exact⟨a,C,dx,vs,v,m,as,O,s,g2,e2,e3,z3,z1,z2,y2⟩
theorem SI.chgF (I:SI Y B ρ σ H){k i j n m:Nat}{fs:List (Str×Fd)}{os:List Ob}{f:Str}{ts us:List T}{ys:List V}{a C dx l:Addr}{vs:List (Str×V)}(h:obD k i j ρ=some (n,fs,os))(hm:fs[m]? =some (f,.tl ts))(ha:σ[i]? =some (some (V.ref a)))(hH:H a=some (.ins C dx vs))(hl:vs[m]? =some (f,.ref l))(r:zB B ys us):
  SI Y B (ρ.set j (.st (os.set n (k,fs.set m (f,.tl us))))) σ (upd H l (.lst ys)):=by
 obtain⟨h1,h2,h3⟩:=we h;obtain⟨as,O,s⟩:=I.st;obtain⟨a1,C1,dx1,vs1,e1,e2,e3,e4,e5,e6,e7,e8⟩:=s.st j os h2 n k fs h3;obtain⟨a',C',dx',vs',g1,g2,_⟩:=s.ob i k n h1;rw[e1]at g1;cases g1;rw[ha]at g2;cases g2;rw[hH]at e3;cases e3;obtain⟨v,z1,z2⟩:=e8 m f _ hm;rw[hl]at z1;cases z1;obtain⟨l',xs,p1,b0,h0,hh,p5,ok,ol⟩:=z2;cases p1;have nb:∀b o,B b=some o->b ≠ l:=λb o h z=>by subst z;rw[b0]at h;cases h
 have n0:∀b o,Y.H0 b=some o->b ≠ l:=λb o h z=>by subst z;rw[h0]at h;cases h
 have own:∀(j' :Nat) (ws:List T),(ρ.set j (.st (os.set n (k,fs.set m (f,.tl us)))))[j']? =some (Sl.ow ws)->ρ[j']? =some _:=λj' ws hw=>by
  rcases zr hw with ⟨_,z⟩ | ⟨_,z⟩
  ·cases z
  ·exact z
 have ok' :∀b,WV ρ σ b->WV _ σ b:=λb hb j' ws hw=>hb j' ws (own j' ws hw);refine⟨I.s0,λb o h=>by rw[zu (n0 b o h)];exact I.sH b o h,λb o h=>by rw[zu (nb b o h)];exact I.sB b o h,I.old,by rw[aF];exact I.len,λj' u h=> ?_,λj' ws h=> ?_,λj' c h=> ?_,as,O,s.pre,λi' os' h=> ?_,λi1 i2 os1 os2 q1 q2=> ?_,λi' k' n' h=> ?_,λi' k' fs0 h=> ?_,λi' os' h n' k' fs' e=> ?_⟩
 ·rcases zr h with ⟨_,z⟩ | ⟨_,z⟩
  ·cases z
  ·exact I.vl j' u z
 ·have z:=own j' ws h;obtain⟨b,xs',y1,y2,y3,y4,y5,y6⟩:=I.ow j' ws z;have hne:b ≠ l:=λw=>by subst w;exact ok j' ws z y1
  exact⟨b,xs',y1,y2,y3,by rw[zu hne];exact y4,y5,λj2 vs2 hj hw=>y6 j2 vs2 hj (own j2 vs2 hw)⟩
 ·rcases zr h with ⟨_,z⟩ | ⟨_,z⟩
  ·cases z
  ·exact I.xc j' c z
 ·rcases zr h with ⟨_,z⟩ | ⟨_,z⟩
  ·cases z;rw[aF];exact s.len j os h2
  ·exact s.len _ _ z
 ·have one:∀i1 os1,(ρ.set j (.st (os.set n (k,fs.set m (f,.tl us)))))[i1]? =some _->i1=j:=λi1 os1 q1=>by
   rcases zr q1 with ⟨e,_⟩ | ⟨_,z⟩
   ·exact e
   ·exact s.one i1 j os1 os z h2
  rw[one i1 os1 q1,one i2 os2 q2]
 ·rcases zr h with ⟨_,z⟩ | ⟨_,z⟩
  ·cases z
  ·obtain⟨b,C2,dx2,vs2,y1,y2,y3,y4,y5,y6⟩:=s.ob i' k' n' z;have hne:b ≠ l:=λw=>by subst w;rw[hh]at y4;cases y4
   exact⟨b,C2,dx2,vs2,y1,y2,y3,by rw[zu hne];exact y4,y5,y6⟩
 ·rcases zr h with ⟨_,z⟩ | ⟨_,z⟩
  ·cases z
  ·exact s.oc i' k' _ z
 ·rcases zr h with ⟨rfl,z⟩ | ⟨hne,z⟩
  ·cases z;rcases zr e with ⟨rfl,z⟩ | ⟨hn,z⟩
   ·cases z;have hne:a ≠ l:=λw=>by subst w;rw[hh]at hH;cases hH
    refine⟨a,C,dx,vs,e1,e2,by rw[zu hne];exact hH,e4,e5,e6,⟨by rw[aF];exact e7.1,e7.2⟩,λm' f' d' z=> ?_⟩
    rcases zr z with ⟨rfl,z'⟩ | ⟨hm',z'⟩
    ·cases z';exact⟨.ref l,hl,l,ys,rfl,b0,h0,zw,r,ok' l ok,ol⟩
    ·obtain⟨v',y1,y2⟩:=e8 m' f' d' z';refine⟨v',y1, ?_⟩;cases d' with
     | tv t=>exact y2
     | tl ws=>
      obtain⟨l2,xs2,w1,w2,w3,w4,w5,w6,w7⟩:=y2;have hne:l2 ≠ l:=λw=>by
       subst w;rw[ol]at w7;injection w7 with w7;injection w7 with _ w7;exact hm' (by omega)
      exact⟨l2,xs2,w1,w2,w3,by rw[zu hne];exact w4,w5,ok' l2 w6,w7⟩
   ·obtain⟨b,C2,dx2,vs2,y1,y2,y3,y4,y5,y6,y7,y8⟩:=s.st i' os h2 n' k' fs' z;have hne:b ≠ l:=λw=>by subst w;rw[hh]at y3;cases y3
    refine⟨b,C2,dx2,vs2,y1,y2,by rw[zu hne];exact y3,y4,y5,y6,y7,λm' f' d' z=> ?_⟩
    obtain⟨v',x1,x2⟩:=y8 m' f' d' z;refine⟨v',x1, ?_⟩;cases d' with
    | tv t=>exact x2
    | tl ws=>
     obtain⟨l2,xs2,w1,w2,w3,w4,w5,w6,w7⟩:=x2;have hne:l2 ≠ l:=λw=>by
      subst w;rw[ol]at w7;injection w7 with w7;injection w7 with w7 _;exact hn w7.symm
     exact⟨l2,xs2,w1,w2,w3,by rw[zu hne];exact w4,w5,ok' l2 w6,w7⟩
  ·exact absurd (s.one i' j os' os z h2) hne
end
noncomputable def uO (f:Str)(d:Fd):List (Str×Fd)->List (Str×Fd)
 | []=>[(f,d)]
 | (g,x) :: r=>if g=f then (g,d) :: r else (g,x) :: uO f d r
noncomputable def Q6 (f:Str):List (Str×Fd)->Nat
 | []=>0
 | (g,_) :: r=>if g=f then 0 else Q6 f r+1
theorem uP {f:Str}{d:Fd}{v:V}:∀{fs:List (Str×Fd)} {vs:List (Str×V)},vs.length=fs.length->(∀(m:Nat) (g:Str) (e:Fd),fs[m]? =some (g,e)->∃v,vs[m]? =some (g,v))->(L2.putF f v vs).length=(uO f d fs).length
 | [],vs,l,_=>by
  cases vs with
  | nil=>rfl
  | cons _ _=>cases l
 | (g,e) :: fs,vs,l,al=>by
  obtain⟨w,hw⟩:=al 0 g e rfl;cases vs with
  | nil=>cases hw
  | cons w vs=>
   cases hw;unfold L2.putF uO;split
   ·simpa using l
   ·rw[ar,ar,uP (by simpa using l) (λm=>al (m+1))]
theorem uQ {f:Str}{d:Fd}{v:V}:∀{fs:List (Str×Fd)} {vs:List (Str×V)},vs.length=fs.length->(∀(m:Nat) (g:Str) (e:Fd),fs[m]? =some (g,e)->∃v,vs[m]? =some (g,v))->∀{m:Nat} {g:Str} {e:Fd},(uO f d fs)[m]? =some (g,e)->
  (m=Q6 f fs/\g=f/\e=d/\(L2.putF f v vs)[m]? =some (f,v))\/(m ≠ Q6 f fs/\fs[m]? =some (g,e)/\∀v',vs[m]? =some (g,v')->(L2.putF f v vs)[m]? =some (g,v'))
 | [],vs,l,_,m,g,e,h=>by
  cases vs with
  | cons _ _=>cases l
  | nil=>
   cases m with
   | zero=>cases h;exact .inl ⟨rfl,rfl,rfl,rfl⟩
   | succ m=>cases h
 | (g0,e0) :: fs,vs,l,al,m,g,e,h=>by
  obtain⟨w,hw⟩:=al 0 g0 e0 rfl;cases vs with
  | nil=>cases hw
  | cons w vs=>
   cases hw;unfold uO at h;unfold Q6 L2.putF
   by_cases hg:g0=f
   ·rw[if_pos hg]at h ⊢;rw[if_pos hg];cases m with
    | zero=>cases h;exact .inl ⟨rfl,hg,rfl,by rw[hg];rfl⟩
    | succ m=>exact .inr ⟨fZ _,h,λv' hv=>hv⟩
   ·rw[if_neg hg]at h ⊢;rw[if_neg hg];cases m with
    | zero=>cases h;exact .inr ⟨(fZ _).symm,rfl,λv' hv=>hv⟩
    | succ m=>
     rcases uQ (by simpa using l) (λm=>al (m+1)) h with ⟨a,b,c,d⟩ | ⟨a,b,c⟩
     ·exact .inl ⟨by rw[a],b,c,d⟩
     ·exact .inr ⟨λz=>a (Nat.succ.inj z),b,c⟩
theorem YD (hf:f∈vD)(h:InC vs):InC (L2.putF f v vs):=λg hg=>by
 rw[L2.lookup_putF,if_neg λz=>hg (by rw[z];exact hf)];exact h g hg
section
def FdN (B H H1:Hp)(v:V):Fd->Prop
 | .tv t=>H1=H/\Rep B v t
 | .tl ts=>∃p xs,v= .ref p/\H p=none/\H1=upd H p (.lst xs)/\zB B xs ts
theorem SI.putF (I:SI Y B ρ σ H){k i j n:Nat}{fs:List (Str×Fd)}{os:List Ob}{f:Str}{d:Fd}{v:V}{a C dx:Addr}{vs:List (Str×V)}{H1:Hp}(hf:f∈vD)(h:obD k i j ρ=some (n,fs,os))(ha:σ[i]? =some (some (V.ref a)))(hH:H a=some (.ins C dx vs))(hd:FdN B H H1 v d):
  SI Y B (ρ.set j (.st (os.set n (k,uO f d fs)))) σ (upd H1 a (.ins C dx (L2.putF f v vs))):=by
 obtain⟨h1,h2,h3⟩:=we h;obtain⟨as,O,s⟩:=I.st;obtain⟨a1,C1,dx1,vs1,e1,e2,e3,e4,e5,e6,e7,e8⟩:=s.st j os h2 n k fs h3;obtain⟨a',C',dx',vs',g1,g2,_⟩:=s.ob i k n h1;rw[e1]at g1;cases g1;rw[ha]at g2;cases g2;rw[hH]at e3;cases e3;have al:∀(m:Nat) (g:Str) (e:Fd),fs[m]? =some _->∃v,vs[m]? =some _:=λm g e he=>let ⟨v,z,_⟩:=e8 m g e he;⟨v,z⟩;have sH1:zt H H1:=by
  cases d with
  | tv t=>rw[hd.1];exact zt.refl _
  | tl ts=>obtain⟨p,xs,_,hp,e,_⟩:=hd;rw[e];exact zt.new hp _
 have keep:∀b o,H b=some o->b ≠ a->(upd H1 a (.ins C dx (L2.putF f v vs))) b=some o:=λb o hb hne=>by rw[zu hne];exact sH1 b o hb
 have nb:∀b o,B b=some o->b ≠ a:=λb o h z=>by subst z;rw[e4]at h;cases h
 have n0:∀b o,Y.H0 b=some o->b ≠ a:=λb o h z=>by subst z;rw[e5]at h;cases h
 have own:∀(j' :Nat) (ws:List T),(ρ.set j (.st (os.set n (k,uO f d fs))))[j']? =some (Sl.ow ws)->ρ[j']? =some _:=λj' ws hw=>by
  rcases zr hw with ⟨_,z⟩ | ⟨_,z⟩
  ·cases z
  ·exact z
 have ok' :∀b,WV ρ σ b->WV _ σ b:=λb hb j' ws hw=>hb j' ws (own j' ws hw);have lst_ne:∀{b:Addr} {xs:List V},H b=some (.lst xs)->b ≠ a:=λhb z=>by subst z;rw[hH]at hb;cases hb
 obtain⟨O',hO1,hO2⟩:∃O' :Addr->Option _,(∀b o,H b=some o->O' b=O b)/\∀b,v= .ref b->H b=none->O' b=some _:=by
  classical
  refine⟨λb=>if v= .ref b/\H b=none then some (n,Q6 f fs+1) else O b, ?_, ?_⟩
  ·intro b o hb;exact if_neg λz=>by rw[hb]at z;cases z.2
  ·intro b z1 z2;exact if_pos ⟨z1,z2⟩
 refine⟨I.s0,λb o h=>keep b o (I.sH b o h) (n0 b o h),λb o h=>keep b o (I.sB b o h) (nb b o h),I.old,by rw[aF];exact I.len,λj' u h=> ?_,λj' ws h=> ?_,λj' c h=> ?_,as,O',s.pre,λi' os' h=> ?_,λi1 i2 os1 os2 q1 q2=> ?_,λi' k' n' h=> ?_,λi' k' fs0 h=> ?_,λi' os' h n' k' fs' e=> ?_⟩
 ·rcases zr h with ⟨_,z⟩ | ⟨_,z⟩
  ·cases z
  ·exact I.vl j' u z
 ·have z:=own j' ws h;obtain⟨b,xs',y1,y2,y3,y4,y5,y6⟩:=I.ow j' ws z;exact⟨b,xs',y1,y2,y3,keep b _ y4 (lst_ne y4),y5,λj2 vs2 hj hw=>y6 j2 vs2 hj (own j2 vs2 hw)⟩
 ·rcases zr h with ⟨_,z⟩ | ⟨_,z⟩
  ·cases z
  ·exact I.xc j' c z
 ·rcases zr h with ⟨_,z⟩ | ⟨_,z⟩
  ·cases z;rw[aF];exact s.len j os h2
  ·exact s.len _ _ z
 ·have one:∀i1 os1,(ρ.set j (.st (os.set n (k,uO f d fs))))[i1]? =some _->i1=j:=λi1 os1 q1=>by
   rcases zr q1 with ⟨e,_⟩ | ⟨_,z⟩
   ·exact e
   ·exact s.one i1 j os1 os z h2
  rw[one i1 os1 q1,one i2 os2 q2]
 ·rcases zr h with ⟨_,z⟩ | ⟨_,z⟩
  ·cases z
  ·obtain⟨b,C2,dx2,vs2,y1,y2,y3,y4,y5,y6⟩:=s.ob i' k' n' z
   by_cases hb:b=a
   ·subst hb;rw[hH]at y4;cases y4;exact⟨b,C,dx,_,y1,y2,y3,zw,y5,y6.1,YD hf y6.2⟩
   ·exact⟨b,C2,dx2,vs2,y1,y2,y3,keep b _ y4 hb,y5,y6⟩
 ·rcases zr h with ⟨_,z⟩ | ⟨_,z⟩
  ·cases z
  ·exact s.oc i' k' _ z
 ·rcases zr h with ⟨rfl,z⟩ | ⟨hne,z⟩
  ·cases z;have old:∀{n' m' :Nat} {v' :V} {d' :Fd},FdR Y B ρ σ H (λl=>O l=some (n',m' +1)) v' d' ->FdR Y B _ σ _ (λl=>O' l=some _) v' d' :=λ{n' m' v' d'} y2=>by
    cases d' with
    | tv t=>exact y2
    | tl ws=>
     obtain⟨l2,xs2,w1,w2,w3,w4,w5,w6,w7⟩:=y2;exact⟨l2,xs2,w1,w2,w3,keep l2 _ w4 (lst_ne w4),w5,ok' l2 w6,by show O' l2=_;rw[hO1 l2 _ w4];exact w7⟩
   rcases zr e with ⟨rfl,z⟩ | ⟨hn,z⟩
   ·cases z;refine⟨a,C,dx,_,e1,e2,zw,e4,e5,by rw[hO1 a _ hH];exact e6,⟨uP e7.1 al,YD hf e7.2⟩,λm' f' d' z=> ?_⟩
    rcases uQ e7.1 al z with ⟨q1,q2,q3,q4⟩ | ⟨q1,q2,q3⟩
    ·subst q2 q3;refine⟨v,q4, ?_⟩;cases d' with
     | tv t=>exact hd.2
     | tl ts=>
      obtain⟨p,xs,w1,w2,w3,w4⟩:=hd;have hpa:p ≠ a:=λz=>by rw[z,hH]at w2;cases w2
      refine⟨p,xs,w1,I.sB.free w2,I.sH.free w2,by rw[zu hpa,w3];exact zw,w4,λj' ws hw=> ?_,by show O' p=_;rw[hO2 p w1 w2,q1]⟩
      obtain⟨b,xs',y1,y2,y3,y4,_⟩:=I.ow j' ws (own j' ws hw);rw[y1];intro z;injection z with z;injection z with z;injection z with z;rw[z,w2]at y4;cases y4
    ·obtain⟨v',y1,y2⟩:=e8 m' f' d' q2;exact⟨v',q3 v' y1,old y2⟩
   ·obtain⟨b,C2,dx2,vs2,y1,y2,y3,y4,y5,y6,y7,y8⟩:=s.st i' os h2 n' k' fs' z;have hne:b ≠ a:=λw=>by
     subst w;rw[e6]at y6;injection y6 with y6;injection y6 with y6 _;exact hn y6.symm
    refine⟨b,C2,dx2,vs2,y1,y2,keep b _ y3 hne,y4,y5,by rw[hO1 b _ y3];exact y6,y7,λm' f' d' z=> ?_⟩
    obtain⟨v',x1,x2⟩:=y8 m' f' d' z;exact⟨v',x1,old x2⟩
  ·exact absurd (s.one i' j os' os z h2) hne
end
theorem uR {f:Str}{d:Fd}:∀{fs:List (Str×Fd)},fs.lookup f=some d->fs[Q6 f fs]? =some (f,d)/\∀d',uO f d' fs=fs.set (Q6 f fs) (f,d')
 | [],h=>by simp at h
 | (g,e) :: fs,h=>by
  rw[av]at h;unfold Q6 uO
  by_cases hx:g=f
  ·subst hx;rw[beq_self_eq_true]at h;cases h;rw[if_pos rfl];exact⟨rfl,λd' =>by rw[if_pos rfl];rfl⟩
  ·rw[beq_eq_false_iff_ne.mpr (aX hx)]at h;obtain⟨a,b⟩:=uR h;rw[if_neg hx];exact⟨a,λd' =>by rw[if_neg hx,b];rfl⟩
theorem V2 {f:Str}{v:V}:∀{fs:List (Str×Fd)} {vs:List (Str×V)},(∀(m:Nat) (g:Str) (e:Fd),fs[m]? =some (g,e)->∃v,vs[m]? =some (g,v))->(∃d,fs.lookup f=some d)->vs.lookup f=some v->vs[Q6 f fs]? =some (f,v)
 | [],_,_,h,_=>by simp at h
 | (g,e) :: fs,vs,al,h,hv=>by
  obtain⟨w,hw⟩:=al 0 g e rfl;cases vs with
  | nil=>cases hw
  | cons w vs=>
   cases hw;rw[av]at hv;obtain⟨d,h⟩:=h;rw[av]at h;unfold Q6
   by_cases hx:g=f
   ·subst hx;rw[beq_self_eq_true]at hv;cases hv;rw[if_pos rfl];rfl
   ·rw[beq_eq_false_iff_ne.mpr (aX hx)]at hv h;rw[if_neg hx];exact V2 (λm=>al (m+1)) ⟨d,h⟩ hv
section
theorem SI.obA (I:SI Y B ρ σ H){k i j n:Nat}{fs:List (Str×Fd)}{os:List Ob}(h:obD k i j ρ=some (n,fs,os)):∃a C dx vs,σ[i]? =some (some (V.ref a))/\Y.cl k= .ref C/\H a=some (.ins C dx vs)/\vs.length=fs.length/\∀(m:Nat) (g:Str) (e:Fd),fs[m]? =some (g,e)->∃v,vs[m]? =some (g,v):=by
 obtain⟨h1,h2,h3⟩:=we h;obtain⟨as,O,s⟩:=I.st;obtain⟨a,C,dx,vs,e1,e2,e3,e4,e5,e6,e7,e8⟩:=s.st j os h2 n k fs h3;obtain⟨a',C',dx',vs',g1,g2,_⟩:=s.ob i k n h1;rw[e1]at g1;cases g1;exact⟨a,C,dx,vs,g2,e2,e3,e7.1,λm g e he=>let ⟨v,z,_⟩:=e8 m g e he;⟨v,z⟩⟩
def stF (k i j:Nat)(f:Str)(fa:En->R T):En->RS:=λρ=>(fa ρ).s λt=>match obD k i j ρ with
 | some (n,fs,os)=>if fs.length < 1000 then .nx (ρ.set j (.st (os.set n (k,uO f (.tv t) fs)))) else .bad
 | none=> .bad
theorem z11 {k i j:Nat}{x f:Str}{px:Pos}{C:Addr}(hv:PE X (.Name x px) (jK i))(hc:Y.cl k= .ref C)(c:L2.Cls X.K C)(n:L2.NoAttr X.K C f)(ha:Snd X Y a fa)(hs:swapsWith a (some (.Attribute (.Name x px) f p')) pos.line X.env=pure false:=by rfl)(hf:f∈vD:=by decide):jA X Y (.Assign [.Attribute (.Name x px) f p'] a pos) (stF k i j f fa):= .mk λρ=>
 PS.imp (vA hv (ha ρ) hs) λD σ H ⟨B,I,q⟩=>ZZ I q λt v H1 _ s1 r1 I1 q1=>by
  split at q1
  ·rename_i n' fs os e;split at q1
   ·rename_i hl;obtain⟨a,C',dx,vs,e1,e2,e3,e4,e5⟩:=I1.obA e;rw[hc]at e2;cases e2;exact⟨.ref a,e1,a,C,dx,vs,rfl,e3,c,n,by rw[e4];exact hl,q1 _ _ _ (zt.refl _) (I1.putF hf e e1 e3 ⟨rfl,r1⟩)⟩
   ·exact q1.elim
  ·exact q1.elim
def Q7 (k i j:Nat)(f:Str)(ga:En->R (List T)):En->RS:=λρ=>(ga ρ).s λts=>match obD k i j ρ with
 | some (n,fs,os)=>if fs.length < 1000/\ts.length<=bnd then .nx (ρ.set j (.st (os.set n (k,uO f (.tl ts) fs)))) else .bad
 | none=> .bad
theorem KD {k i j:Nat}{x f:Str}{px:Pos}{C:Addr}{es:List Expr}{ga:En->R (List T)}(hv:PE X (.Name x px) (jK i))(hc:Y.cl k= .ref C)(c:L2.Cls X.K C)(n:L2.NoAttr X.K C f)(ha:W3 X Y es ga)(hs:swapsWith (.List es p) (some (.Attribute (.Name x px) f p')) pos.line X.env=pure false:=by rfl)(hf:f∈vD:=by decide):jA X Y (.Assign [.Attribute (.Name x px) f p'] (.List es p) pos) (Q7 k i j f ga):= .mk λρ=>
 PS.imp (vA hv (ur (ha ρ)) hs) λD σ H ⟨B,I,q⟩=>ZZ I q λts vs H1 _ s1 r1 I1 q1=>by
  split at q1
  ·rename_i n' fs os e;split at q1
   ·rename_i hl;obtain⟨a,C',dx,vs',e1,e2,e3,e4,e5⟩:=I1.obA e;rw[hc]at e2;cases e2;refine⟨by rw[r1.length];exact Zg hl.2,λq hq=> ?_⟩
    have hne:a ≠ q:=λz=>by rw[z,hq]at e3;cases e3
    exact⟨.ref a,e1,a,C,dx,vs',rfl,by rw[zu hne];exact e3,c,n,by rw[e4];exact hl.1,q1 _ _ _ (zt.refl _) (I1.putF hf e e1 e3 ⟨q,vs,rfl,hq,rfl,r1⟩)⟩
   ·exact q1.elim
  ·exact q1.elim
def XH (k i j:Nat)(f:Str)(fa:En->R T):En->RS:=λρ=>match obD k i j ρ with
 | some (n,fs,os)=>match fs.lookup f with
  | some (.tl ts)=>(fa ρ).s λt=>if ts.length < bnd then .nx (ρ.set j (.st (os.set n (k,uO f (.tl (ts++[t])) fs)))) else .bad
  | _=> .bad
 | none=> .bad
theorem KF {k i j:Nat}{x f:Str}{px pf pa:Pos}{C:Addr}(hv:PE X (.Name x px) (jK i))(hc:Y.cl k= .ref C)(c:L2.Cls X.K C)(n:L2.NoAttr X.K C f)(ha:Snd X Y a fa)(hbf:attributeBase (.Name x px) f X.env (eval (.Name x px) X.env)=eval (.Name x px) X.env:=by rfl)
  (hb:attributeBase (.Attribute (.Name x px) f pf) "append" X.env (eval (.Attribute (.Name x px) f pf) X.env)=eval (.Attribute (.Name x px) f pf) X.env:=by rfl) (hs:St1 X a:=by exact st1 rfl)
  (hz:(pa.endLine == p.line)=true:=by rfl) (hw:swapsWith (.Call (.Attribute (.Attribute (.Name x px) f pf) "append" pa) [a] [] p) none pos.line X.env=pure false:=by rfl):jA X Y (.Expr (.Call (.Attribute (.Attribute (.Name x px) f pf) "append" pa) [a] [] p) pos) (XH k i j f fa):= .mk λρ=>by
 have e1:(((((backTo p (starEach [a] X.env)).all λx=> !x.fst) && (backToKw p (keywordEach [] X.env)).all λx=>x.fst.isSome) && decide (([a].length+([]:List Keyword).length+if ([]:List Keyword).isEmpty=true then 0 else 1) < 30))=true):=by rw[hs];rfl
 refine PS.imp (jL (UA bI cR cS jy (JV hv hbf) (zx (ha ρ) zM hs) hb e1 hz hs rfl) hw) λD σ H ⟨B,I,q⟩=> ?_;unfold XH at q;split at q
 ·rename_i n' fs os e;split at q
  ·rename_i ts el;obtain⟨a',C',dx,vs,v,m,as,O,s,g1,g2,g3,g4,g5,g6,l,xs,p1,b0,h0,hh,rr,_⟩:=I.look e el;rw[hc]at g2;cases g2;subst p1;obtain⟨_,_,_,vs2,y1,_,y3,_,al⟩:=I.obA e;rw[g1]at y1;cases y1;rw[g3]at y3;cases y3;have hi:=V2 al ⟨_,el⟩ g4;obtain⟨j1,j2⟩:=uR el;refine⟨.ref a',g1,a',C,dx,vs,_,rfl,g3,c,n,g4,.inl ⟨rfl,_,SqL.of hh⟩, ?_⟩;refine ZZ I q λt w H1 _ s1 r1 I1 q1=> ?_;split at q1
   ·rename_i hb;refine⟨l,xs,w,rfl,rfl,s1 _ _ hh,by rw[rr.length];exact Y1 hb, ?_⟩
    have:=I1.chgF e j1 g1 (s1 _ _ g3) hi ((rr.mono (zH.ge I.sB s1)).append (.cons r1 .nil));rw[← j2]at this;exact q1 _ _ _ (zt.refl _) this
   ·exact q1.elim
  ·exact q.elim
 ·exact q.elim
end
theorem PoM.up {r:R (T×En)}(s:zt B B')(h:PoM Y B r σ Q):PoM Y B' r σ Q:=by
 unfold PoM at h ⊢;split
 ·exact λv H' B2 a=>h v H' B2 (s.trans a)
 ·exact XP.up s h
 ·exact h
theorem z12 {α β:Type}{rel:Hp->Hp->β->α->Prop}{f:En->R α}{k:α->R (T×En)}{K:β->Hp->Prop}(I:SI Y B ρ σ H)(h:PoM Y B ((f ρ).bind k) σ Q)
  (n:∀a b H1,f ρ= .ok a->zt H H1->rel (zH B H H1) H1 b a->SI Y (zH B H H1) ρ σ H1->PoM Y (zH B H H1) (k a) σ Q->K b H1):tS Y rel f ρ σ H K:=by
 refine⟨B,I, ?_⟩;cases e:f ρ with
 | bad=>rw[e]at h;exact h
 | ex c=>rw[e]at h;exact h
 | ok a=>
  rw[e]at h;exact λb H1 s r=>n a b H1 e s r (I.grow s) (PoM.up (zH.ge I.sB s) h)
section
theorem SI.back (I:SI Y B ρ σ H){k i j n:Nat}{fs:List (Str×Fd)}{os:List Ob}(h:obD k i j ρ=some (n,fs,os)){a:Addr}(ha:σ[i]? =some (some (V.ref a))):
  ∃H0,zt B H0/\zt H0 H/\xO Y.cl k B H0 H a fs/\zt Y.H0 H0/\∀(H' B' :Hp) (fs' :List (Str×Fd)),zt H0 H' ->zt B B' ->zt B' H' ->(∀b o,H0 b=some o->B' b=B b)->xO Y.cl k B' H0 H' a fs' ->SI Y B' (ρ.set j (.st (os.set n (k,fs')))) σ H' :=by
 classical
 obtain⟨h1,h2,h3⟩:=we h;obtain⟨as,O,s⟩:=I.st;obtain⟨a1,C,dx,vs,e1,e2,e3,e4,e5,e6,e7,e8⟩:=s.st j os h2 n k fs h3;obtain⟨a',C',dx',vs',g1,g2,_⟩:=s.ob i k n h1;rw[e1]at g1;cases g1;rw[ha]at g2;cases g2
 let P:Addr->Prop:=λb=>b=a\/∃(m:Nat) (f:Str) (ts:List T),fs[m]? =some (f,.tl ts)/\vs[m]? =some (f,V.ref b)
 have lP:∀b,P b->b ≠ a->∃m xs,H b=some (.lst xs)/\B b=none/\Y.H0 b=none/\WV ρ σ b/\O b=some (n,m+1):=λb hb hne=>by
  rcases hb with z | ⟨m,f,ts,z1,z2⟩
  ·exact absurd z hne
  ·obtain⟨v,y1,l,xs,p1,p2,p3,p4,p5,p6,p7⟩:=e8 m f _ z1;rw[z2]at y1;cases y1;cases p1;exact⟨m,xs,p4,p2,p3,p6,p7⟩
 have nB:∀b o,B b=some o->¬ P b:=λb o hb hp=>by
  by_cases z:b=a
  ·rw[z,e4]at hb;cases hb
  ·obtain⟨_,_,_,q,_⟩:=lP b hp z;rw[q]at hb;cases hb
 have n0:∀b o,Y.H0 b=some o->¬ P b:=λb o hb hp=>by
  by_cases z:b=a
  ·rw[z,e5]at hb;cases hb
  ·obtain⟨_,_,_,_,q,_⟩:=lP b hp z;rw[q]at hb;cases hb
 let H0:Hp:=λb=>if P b then none else H b
 have H0n:∀{b o},H b=some o->¬ P b->H0 b=some o:=λ{b o} hb hp=>by show (if P b then none else H b)=_;rw[if_neg hp];exact hb
 have H0p:∀{b},P b->H0 b=none:=λ{b} hp=>if_pos hp;refine⟨H0,λb o hb=>H0n (I.sB b o hb) (nB b o hb),λb o hb=> ?_,⟨C,dx,vs,λb=>(O b).map Prod.snd,e2,e3,e4,H0p (.inl rfl),by show io _ (O a)=_;rw[e6];rfl,e7,λm f d z=> ?_⟩,λb o hb=>H0n (I.sH b o hb) (n0 b o hb),λH' B' fs' s1 s2 s3 old ob' => ?_⟩
 ·have hb:(if P b then none else H b)=some o:=hb
  split at hb
  ·cases hb
  ·exact hb
 ·obtain⟨v,y1,y2⟩:=e8 m f d z;refine⟨v,y1, ?_⟩;cases d with
  | tv t=>exact y2
  | tl ts=>
   obtain⟨l,xs,p1,p2,p3,p4,p5,p6,p7⟩:=y2;subst p1;exact⟨l,xs,rfl,p2,H0p (.inr ⟨m,f,ts,z,y1⟩),p4,p5,by show io _ (O l)=_;rw[p7];rfl⟩
 ·obtain⟨C',dx',us,O',c1,c2,c3,c4,c5,c6,c7⟩:=ob';rw[e2]at c1;cases c1;have keep:∀{b o},H b=some o->¬ P b->H' b=some o/\B' b=B b/\H0 b ≠ none:=λ{b o} hb hp=>⟨s1 _ _ (H0n hb hp),old b o (H0n hb hp),by rw[H0n hb hp];exact ff _⟩
  have own:∀(j' :Nat) (ws:List T),(ρ.set j (.st (os.set n (k,fs'))))[j']? =some (Sl.ow ws)->ρ[j']? =some (Sl.ow ws):=λj' ws hw=>by
   rcases zr hw with ⟨_,z⟩ | ⟨_,z⟩
   ·cases z
   ·exact z
  have ok' :∀b,WV ρ σ b->WV (ρ.set j _) σ b:=λb hb j' ws hw=>hb j' ws (own j' ws hw);have owP:∀{j' ws b xs},ρ[j']? =some (Sl.ow ws)->σ[j']? =some (some (V.ref b))->H b=some (.lst xs)->¬ P b:=λ{j' ws b xs} w1 w2 w3 hp=>by
   by_cases z:b=a
   ·rw[z,e3]at w3;cases w3
   ·obtain⟨_,_,_,_,_,q,_⟩:=lP b hp z;exact q j' ws w1 w2
  obtain⟨O2,hO1,hO2⟩:∃O2:Addr->Option (Nat×Nat),(∀b,H0 b ≠ none->O2 b=O b)/\∀b m,H0 b=none->O' b=some m->O2 b=some (n,m):=by
   refine⟨λb=>if H0 b=none then (O' b).map λm=>(n,m) else O b, ?_, ?_⟩
   ·intro b hb;exact if_neg hb
   ·intro b m z1 z2;show (if H0 b=none then (O' b).map λm=>(n,m) else O b)=_
    rw[if_pos z1,z2];rfl
  refine⟨I.s0,λb o hb=>(keep (I.sH b o hb) (n0 b o hb)).1,s3,λb o hb=> ?_,by rw[aF];exact I.len,λj' u h=> ?_,λj' ws h=> ?_,λj' c h=> ?_,as,O2,s.pre,λi' os' h=> ?_,λi1 i2 os1 os2 q1 q2=> ?_,λi' k' n' h=> ?_,λi' k' fs0 h=> ?_,λi' os' h n' k' fs2 e=> ?_⟩
  ·rw[(keep (I.sH b o hb) (n0 b o hb)).2.1];exact I.old b o hb
  ·rcases zr h with ⟨_,z⟩ | ⟨_,z⟩
   ·cases z
   ·obtain⟨v,y1,y2⟩:=I.vl j' u z;exact⟨v,y1,y2.mono s2⟩
  ·have z:=own j' ws h;obtain⟨b,xs',y1,y2,y3,y4,y5,y6⟩:=I.ow j' ws z;obtain⟨w1,w2,_⟩:=keep y4 (owP z y1 y4);exact⟨b,xs',y1,by rw[w2];exact y2,y3,w1,y5.mono s2,λj2 vs2 hj hw=>y6 j2 vs2 hj (own j2 vs2 hw)⟩
  ·rcases zr h with ⟨_,z⟩ | ⟨_,z⟩
   ·cases z
   ·obtain⟨b,y1,y2⟩:=I.xc j' c z;exact⟨b,y1,s2 _ _ y2⟩
  ·rcases zr h with ⟨_,z⟩ | ⟨_,z⟩
   ·cases z;rw[aF];exact s.len j os h2
   ·exact s.len _ _ z
  ·have one:∀i1 os1,(ρ.set j (.st (os.set n (k,fs'))))[i1]? =some _->i1=j:=λi1 os1 q1=>by
    rcases zr q1 with ⟨e,_⟩ | ⟨_,z⟩
    ·exact e
    ·exact s.one i1 j os1 os z h2
   rw[one i1 os1 q1,one i2 os2 q2]
  ·rcases zr h with ⟨_,z⟩ | ⟨_,z⟩
   ·cases z
   ·obtain⟨b,C2,dx2,vs2,y1,y2,y3,y4,y5,y6⟩:=s.ob i' k' n' z
    by_cases hb:b=a
    ·subst hb;rw[e3]at y4;cases y4;exact⟨b,_,dx',us,y1,y2,y3,c2,c3,y6.1,c6.2⟩
    ·have hp:¬ P b:=λhp=>by obtain⟨_,_,q,_⟩:=lP b hp hb;rw[q]at y4;cases y4
     obtain⟨w1,w2,_⟩:=keep y4 hp;exact⟨b,C2,dx2,vs2,y1,y2,y3,w1,by rw[w2];exact y5,y6⟩
  ·rcases zr h with ⟨_,z⟩ | ⟨_,z⟩
   ·cases z
   ·obtain⟨b,C2,dx2,vs2,y1,y2,y3,y4,y5⟩:=s.oc i' k' _ z;exact⟨b,C2,dx2,vs2,y1,y2,y3,y4,y5.mono s2 (zt.refl _)⟩
  ·rcases zr h with ⟨rfl,z⟩ | ⟨hne,z⟩
   ·cases z;rcases zr e with ⟨rfl,z⟩ | ⟨hn,z⟩
    ·cases z;refine⟨a,_,dx',us,e1,e2,c2,c3,e5,hO2 a 0 c4 c5,c6,λm f d z=> ?_⟩;obtain⟨v,y1,y2⟩:=c7 m f d z;refine⟨v,y1, ?_⟩;cases d with
     | tv t=>exact y2
     | tl ts=>
      obtain⟨l,xs,p1,p2,p3,p4,p5,p6⟩:=y2;refine⟨l,xs,p1,p2, ?_,p4,p5,λj' ws hw=> ?_,hO2 l _ p3 p6⟩
      ·cases q:Y.H0 l with
       | none=>rfl
       | some o=>rw[H0n (I.sH l o q) (n0 l o q)]at p3;cases p3
      ·have w:=own j' ws hw;obtain⟨b,xs',q1,q2,q3,q4,_⟩:=I.ow j' ws w;rw[q1];intro z;injection z with z;injection z with z;injection z with z;exact(keep q4 (owP w q1 q4)).2.2 (by rw[z];exact p3)
    ·obtain⟨b,C2,dx2,vs2,y1,y2,y3,y4,y5,y6,y7,y8⟩:=s.st i' os h2 n' k' fs2 z;have hb:b ≠ a:=λw=>by
      rw[w,e6]at y6;injection y6 with y6;injection y6 with y6 _;exact hn y6.symm
     have hp:¬ P b:=λhp=>by obtain⟨_,_,q,_⟩:=lP b hp hb;rw[q]at y3;cases y3
     obtain⟨w1,w2,w3⟩:=keep y3 hp;refine⟨b,C2,dx2,vs2,y1,y2,w1,by rw[w2];exact y4,y5,by rw[hO1 b w3];exact y6,y7,λm' f' d' z=> ?_⟩
     obtain⟨v',x1,x2⟩:=y8 m' f' d' z;refine⟨v',x1, ?_⟩;cases d' with
     | tv t=>exact Rep.mono s2 x2
     | tl ws=>
      obtain⟨l2,xs2,q1,q2,q3,q4,q5,q6,q7⟩:=x2;have hp:¬ P l2:=λhp=>by
       by_cases z:l2=a
       ·rw[z,e3]at q4;cases q4
       ·obtain⟨m2,_,_,_,_,_,q⟩:=lP l2 hp z;rw[q]at q7;injection q7 with q7;injection q7 with q7 _;exact hn q7.symm
      obtain⟨w1,w2,w3⟩:=keep q4 hp;exact⟨l2,xs2,q1,by rw[w2];exact q2,q3,w1,q5.mono s2,ok' l2 q6,by show O2 l2=_;rw[hO1 l2 w3];exact q7⟩
   ·exact absurd (s.one i' j os' os z h2) hne
end
def Q8 (k i j:Nat)(m:Str)(nn:Nat)(g:List (Str×Fd)->List T->R (T×List (Str×Fd)))(ga:En->R (List T)):En->R (T×En):=λρ=>match obD k i j ρ with
 | some (n,fs,os)=>if (fs.lookup m).isNone=true then (ga ρ).bind λts=>if ts.length=nn then (g fs ts).bind λp=> .ok (p.1,ρ.set j (.st (os.set n (k,p.2)))) else .bad else .bad
 | none=> .bad
section
theorem KG {g:List (Str×Fd)->List T->R (T×List (Str×Fd))}(hv:PE X (.Name x px) (jK i))(hy:Y.cl=cl)(hc:cl k= .ref C)(c:L2.Cls X.K C)(hm:L2.Meth X.K C m f)(F:ZX X.prog X.w X.K X.mg X.base (CX1 X.prog X.w) kj f fd ps (spM cl k nn g))(hr:Zy kk X.A)(hj:kj<=kk)(bd:L2.Binds X.K fd ps [])(hp:Z9 (CX1 X.prog X.w) X Y.E)(ha:W3 X Y (a :: es) ga)
  (hst:starEach (a :: es) X.env=(false,eval a X.env) :: starEach es X.env:=by exact zN rfl) (hpl:((backTo pos (starEach es X.env)).any λx=>x.fst)=false:=by exact Zf rfl)
  (ht:eval (.Call (.Attribute (.Name x px) m ap) (a :: es) [] pos) X.env=(do
   let ov ← eval (.Name x px) X.env
   standAt ap.atName
   let (f,first) ← holding [ov] (getMethod ov m pl)
   callWith pos f first (backTo pos (starEach (a :: es) X.env)) (backToKw pos (keywordEach [] X.env))):=by rfl):
  xP X Y (.Call (.Attribute (.Name x px) m ap) (a :: es) [] pos) (Q8 k i j m nn g ga):= .mk λρ=>PE.imp (yG hv c hm F (hr.mono hj) bd .nil hp (ha ρ) hst hpl ht) λσ H Q ⟨B,I,q⟩=>by
 unfold Q8 at q;split at q
 ·rename_i n fs os e;split at q
  ·rename_i hl;obtain⟨a',C',dx,vs,e1,e2,e3,e4,al⟩:=I.obA e;subst hy;rw[hc]at e2;cases e2;have hno:=YC e4 al (by simpa using hl)
   refine⟨.ref a',e1,a',dx,vs,rfl,e3,hno, ?_⟩;refine z12 I q λts us H1 _ s1 r1 I1 q1=> ?_;split at q1
   ·rename_i hn;rw[aW];obtain⟨H0,b1,b2,b3,b4,b5⟩:=I1.back e e1;refine⟨a',us,ts,_,H0,fs,rfl,hn,b1,b2,b3,r1, ?_⟩;revert q1;cases g fs ts with
    | bad=>exact λq1=>q1
    | ex c2=>exact λq1 d H' z1 z2=>q1 d H' (b4.trans z1) z2
    | ok p=>
     obtain⟨t,fs2⟩:=p;exact λq1 v H' B' z1 z2 z3 z4 z5 z6=>q1 v H' B' z2 (b5 H' B' fs2 z1 z2 z3 z4 z5) z6
   ·exact q1.elim
  ·exact q.elim
 ·exact q.elim
def drM (f:En->R (T×En)):En->RS:=λρ=>(f ρ).s λp=> .nx p.2
theorem z13 (h:xP X Y e f)(hs:swapsWith e none pos.line X.env=pure false:=by rfl):jA X Y (.Expr e pos) (drM f):= .mk λρ=>PS.imp (jL (h.go ρ) hs) λD σ H ⟨B,I,q⟩=>⟨B,I,by
 unfold drM at q;revert q;cases f ρ with
 | bad=>exact λq=>q
 | ex c=>exact λq=>q
 | ok p=>exact λq v H' B' s I' _=>q σ H' B' s I'⟩
end
section
def ixF (k i j:Nat)(f:Str)(fb:En->R T):En->R T:=λρ=>match obD k i j ρ with
 | some (_,fs,_)=>match fs.lookup f with
  | some (.tl ts)=>(fb ρ).bind λt=>match t with
   | .int q=>atT ts q
   | _=> .bad
  | _=> .bad
 | none=> .bad
theorem z14 (hv:PE X (.Name x px) (jK i))(hc:Y.cl k= .ref C)(c:L2.Cls X.K C)(n:L2.NoAttr X.K C f)(hb:Snd X Y b fb)(hbf:attributeBase (.Name x px) f X.env (eval (.Name x px) X.env)=eval (.Name x px) X.env:=by rfl)(hs:Jq b:=by exact λ_ _=>rfl):Snd X Y (.Subscript (.Attribute (.Name x px) f p) b pos) (ixF k i j f fb):= .mk λρ=>
 PE.imp (Qm uv (JV hv hbf) (hb ρ) hs) λσ H Q ⟨B,I,q⟩=>by
  unfold ixF at q;split at q
  ·rename_i n' fs os e;split at q
   ·rename_i ts el;obtain⟨a,C',dx,vs,v,m,as,O,s,e1,e2,e3,e4,e5,e6,l,xs,p1,p2,p3,hh,rr,_⟩:=I.look e el;rw[hc]at e2;cases e2;subst p1;refine⟨.ref a,e1,a,C,dx,vs,_,rfl,e3,c,n,e4,step I q λt' v' H2 _ s2 r2 I2 q2=> ?_⟩;cases r2 with
    | int j=>
     have q2:Po Y rC _ H2 (atT ts j) Q:=q2;unfold atT at q2;split at q2
     ·rename_i t e8;obtain⟨w,e9,e10⟩:=JY (rr.mono (zH.ge I.sB s2)) e8;exact .inl ⟨_,xs,j,w,rfl,rfl,SqL.of (s2 _ _ hh),e9,po0 I2.sB q2 rfl e10⟩
     ·exact q2.elim
    | _=>exact q2.elim
   ·exact q.elim
  ·exact q.elim
end
section
theorem SI.made (I:SI Y B ρ σ H){i j k:Nat}{x:Addr}{os:List Ob}{fs:List (Str×Fd)}{B' H' H0:Hp}(h2:ρ[j]? =some (.st os))(hij:i ≠ j)(hi:i < ρ.length)(sH:zt H H0)(s1:zt H0 H')(s2:zt B B')(s3:zt B' H')(old:∀b o,H0 b=some o->B' b=B b)(ob:xO Y.cl k B' H0 H' x fs):
  SI Y B' ((ρ.set j (.st (os++[(k,fs)]))).set i (.ob k os.length)) (σ.set i (some (V.ref x))) H' :=by
 classical
 obtain⟨as,O,s⟩:=I.st;obtain⟨C,dx,us,O',c1,c2,c3,c4,c5,c6,c7⟩:=ob;have hlen:=s.len j os h2;have keep:∀{b o},H b=some o->H' b=some o/\B' b=B b/\H0 b ≠ none:=λ{b o} hb=>⟨s1 _ _ (sH _ _ hb),old b o (sH _ _ hb),by rw[sH _ _ hb];exact ff _⟩
 have get:∀{i' :Nat} {y:Sl},((ρ.set j _).set i (.ob k os.length))[i']? =some y->(i' =i/\y= .ob k os.length)\/(i' ≠ i/\i' =j/\y= .st (os++[(k,fs)]))\/(i' ≠ i/\i' ≠ j/\ρ[i']? =some y):=λ{i' y} h=>by
  rcases zr h with ⟨a,b⟩ | ⟨a,b⟩
  ·exact .inl ⟨a,b⟩
  ·rcases zr b with ⟨c,d⟩ | ⟨c,d⟩
   ·exact .inr (.inl ⟨a,c,d⟩)
   ·exact .inr (.inr ⟨a,c,d⟩)
 have sg:∀{i' :Nat},i' ≠ i->(σ.set i (some (V.ref x)))[i']? =σ[i']? :=λ{i'} h=>ay (aX h);have own:∀{j' :Nat} {ws:List T},((ρ.set j _).set i (.ob k os.length))[j']? =some (Sl.ow ws)->j' ≠ i/\ρ[j']? =some (Sl.ow ws):=λ{j' ws} hw=>by
  rcases get hw with ⟨_,z⟩ | ⟨_,_,z⟩ | ⟨a,_,z⟩
  ·cases z
  ·cases z
  ·exact⟨a,z⟩
 have ok' :∀b,WV ρ σ b->WV _ _ b:=λb hb j' ws hw=>by
  obtain⟨h1,h2⟩:=own hw;rw[sg h1];exact hb j' ws h2
 obtain⟨O2,hO1,hO2⟩:∃O2:Addr->Option (Nat×Nat),(∀b,H0 b ≠ none->O2 b=O b)/\∀b m,H0 b=none->O' b=some m->O2 b=some (os.length,m):=by
  refine⟨λb=>if H0 b=none then (O' b).map λm=>(os.length,m) else O b, ?_, ?_⟩
  ·intro b hb;exact if_neg hb
  ·intro b m z1 z2;show (if H0 b=none then (O' b).map λm=>(os.length,m) else O b)=_
   rw[if_pos z1,z2];rfl
 have H0n:zt Y.H0 H0:=I.sH.trans sH;have asn:(as++[x])[os.length]? =some x:=by rw[au (by omega),hlen,dr];rfl
 have aso:∀{n' :Nat} {b:Addr},as[n']? =some b->(as++[x])[n']? =some b:=λ{n' b} h=>by
  rw[aB (am.mp h).1];exact h
 refine⟨I.s0,λb o hb=>(keep (I.sH b o hb)).1,s3,λb o hb=> ?_,by rw[aF,aF,aF];exact I.len,λj' u h=> ?_,λj' ws h=> ?_,λj' c h=> ?_,as++[x],O2,s.pre.trans (List.prefix_append _ _),λi' os' h=> ?_,λi1 i2 os1 os2 q1 q2=> ?_,λi' k' n' h=> ?_,λi' k' fs0 h=> ?_,λi' os' h n' k' fs2 e=> ?_⟩
 ·rw[(keep (I.sH b o hb)).2.1];exact I.old b o hb
 ·rcases get h with ⟨_,z⟩ | ⟨_,_,z⟩ | ⟨a,_,z⟩
  ·cases z
  ·cases z
  ·obtain⟨v,y1,y2⟩:=I.vl j' u z;exact⟨v,by rw[sg a];exact y1,y2.mono s2⟩
 ·obtain⟨a,z⟩:=own h;obtain⟨b,xs',y1,y2,y3,y4,y5,y6⟩:=I.ow j' ws z;obtain⟨w1,w2,_⟩:=keep y4;refine⟨b,xs',by rw[sg a];exact y1,by rw[w2];exact y2,y3,w1,y5.mono s2,λj2 vs2 hj hw=> ?_⟩
  obtain⟨q1,q2⟩:=own hw;rw[sg q1];exact y6 j2 vs2 hj q2
 ·rcases get h with ⟨_,z⟩ | ⟨_,_,z⟩ | ⟨a,_,z⟩
  ·cases z
  ·cases z
  ·obtain⟨b,y1,y2⟩:=I.xc j' c z;exact⟨b,by rw[sg a];exact y1,s2 _ _ y2⟩
 ·rcases get h with ⟨_,z⟩ | ⟨_,_,z⟩ | ⟨_,nj,z⟩
  ·cases z
  ·cases z;rw[aA,aA,hlen];rfl
  ·exact absurd (s.one i' j os' os z h2) nj
 ·have one:∀i1 os1,((ρ.set j _).set i _)[i1]? =some (Sl.st os1)->i1=j:=λi1 os1 q1=>by
   rcases get q1 with ⟨_,z⟩ | ⟨_,e,_⟩ | ⟨_,nj,z⟩
   ·cases z
   ·exact e
   ·exact s.one i1 j os1 os z h2
  rw[one i1 os1 q1,one i2 os2 q2]
 ·rcases get h with ⟨e,z⟩ | ⟨_,_,z⟩ | ⟨a,_,z⟩
  ·cases z;subst e;refine⟨x,C,dx,us,asn,aU (by rw[← I.len];exact hi),c1,c2,c3, ?_,c6.2⟩
   cases q:Y.H0 x with
   | none=>rfl
   | some o=>rw[H0n _ _ q]at c4;cases c4
  ·cases z
  ·obtain⟨b,C2,dx2,vs2,y1,y2,y3,y4,y5,y6⟩:=s.ob i' k' n' z;obtain⟨w1,w2,_⟩:=keep y4;exact⟨b,C2,dx2,vs2,aso y1,by rw[sg a];exact y2,y3,w1,by rw[w2];exact y5,y6⟩
 ·rcases get h with ⟨_,z⟩ | ⟨_,_,z⟩ | ⟨a,_,z⟩
  ·cases z
  ·cases z
  ·obtain⟨b,C2,dx2,vs2,y1,y2,y3,y4,y5⟩:=s.oc i' k' _ z;exact⟨b,C2,dx2,vs2,by rw[sg a];exact y1,y2,y3,y4,y5.mono s2 (zt.refl _)⟩
 ·rcases get h with ⟨_,z⟩ | ⟨_,ej,z⟩ | ⟨_,nj,z⟩
  ·cases z
  ·cases z
   by_cases hn:n' < os.length
   ·rw[aB hn]at e;obtain⟨b,C2,dx2,vs2,y1,y2,y3,y4,y5,y6,y7,y8⟩:=s.st j os h2 n' k' fs2 e;obtain⟨w1,w2,w3⟩:=keep y3;refine⟨b,C2,dx2,vs2,aso y1,y2,w1,by rw[w2];exact y4,y5,by rw[hO1 b w3];exact y6,y7,λm' f' d' z=> ?_⟩
    obtain⟨v',x1,x2⟩:=y8 m' f' d' z;refine⟨v',x1, ?_⟩;cases d' with
    | tv t=>exact Rep.mono s2 x2
    | tl ws=>
     obtain⟨l2,xs2,q1,q2,q3,q4,q5,q6,q7⟩:=x2;obtain⟨w1,w2,w3⟩:=keep q4;exact⟨l2,xs2,q1,by rw[w2];exact q2,q3,w1,q5.mono s2,ok' l2 q6,by show O2 l2=_;rw[hO1 l2 w3];exact q7⟩
   ·rw[au (fu.mp hn)]at e;have hn' :n' =os.length:=by
     cases q:n' - os.length with
     | zero=>omega
     | succ r=>rw[q]at e;cases e
    subst hn';rw[dr]at e;cases e;have h0x:Y.H0 x=none:=by
     cases q:Y.H0 x with
     | none=>rfl
     | some o=>rw[H0n _ _ q]at c4;cases c4
    refine⟨x,C,dx,us,asn,c1,c2,c3,h0x,hO2 x 0 c4 c5,c6,λm f d z=> ?_⟩;obtain⟨v,y1,y2⟩:=c7 m f d z;refine⟨v,y1, ?_⟩;cases d with
    | tv t=>exact y2
    | tl ts=>
     obtain⟨l,xs,p1,p2,p3,p4,p5,p6⟩:=y2;refine⟨l,xs,p1,p2, ?_,p4,p5,λj' ws hw=> ?_,hO2 l _ p3 p6⟩
     ·cases q:Y.H0 l with
      | none=>rfl
      | some o=>rw[H0n _ _ q]at p3;cases p3
     ·obtain⟨hj',w⟩:=own hw;obtain⟨b,xs',q1,q2,q3,q4,_⟩:=I.ow j' ws w;rw[sg hj',q1];intro z;injection z with z;injection z with z;injection z with z;exact(keep q4).2.2 (by rw[z];exact p3)
  ·exact absurd (s.one i' j os' os z h2) nj
end
section
end
section
end
def spO (cl:Nat->Value)(k p n:Nat)(g:List (Str×Fd)->List T->R T):Sp:=λvs H Q E=>∃(x C dx:Addr) (us:List (Str×V)) (vs1 vs2:List V) (ts1 ts2:List T) (B:Hp) (fs:List (Str×Fd)),vs=vs1++ .ref x :: vs2/\ts1.length=p/\(ts1++ts2).length=n/\cl k= .ref C/\H x=some (.ins C dx us)/\InC us/\FsO B H us fs/\zt B H/\zB B vs1 ts1/\zB B vs2 ts2/\Po ⟨B,H,E,cl,[]⟩ rC B H (g fs (ts1++ts2)) Q
def enO (k m:Nat)(fs:List (Str×Fd))(ts1 ts2:List T):En:=ts1.map Sl.vl++(.oc k fs :: (ts2.map Sl.vl++af m .un))
theorem YE (h:(enO k m fs ts1 ts2)[i]? =some s):(i=ts1.length/\s= .oc k fs)\/(∃t,ts1[i]? =some t/\s= .vl t)\/(∃i' t,i=ts1.length+1+i' /\ts2[i']? =some t/\s= .vl t)\/s= .un:=by
 unfold enO at h
 by_cases h1:i < ts1.length
 ·rw[aB (by simpa using h1),ak,aj h1]at h
  exact .inr (.inl ⟨_,aj h1,(aq h).symm⟩)
 ·obtain⟨q,hq⟩:∃q,i=ts1.length+q:=⟨i - ts1.length,by omega⟩
  rw[au (by simpa using h1),ae,hq,d_]at h
  cases q with
  | zero=>exact .inl ⟨hq,(aq h).symm⟩
  | succ q=>
   rw[c8]at h
   by_cases h2:q < ts2.length
   ·rw[aB (by simpa using h2),ak,aj h2]at h
    exact .inr (.inr (.inl ⟨q,_,by omega,aj h2,(aq h).symm⟩))
   ·rw[au (by simpa using h2),aL]at h
    split at h
    ·exact .inr (.inr (.inr (aq h).symm))
    ·cases h
theorem SI.startO (hN:N.length=(ts1++ts2).length+1+m)(sB:zt B H)(hc:cl k= .ref C)(hx:H x=some (.ins C dx us))(hi:InC us)(hf:FsO B H us fs)(r1:zB B vs1 ts1)(r2:zB B vs2 ts2):
  SI ⟨B,H,E,cl,[]⟩ B (enO k m fs ts1 ts2) (L2.start N (vs1++ .ref x :: vs2)) H:=by
 have l1:=r1.length;have l2:=r2.length;have at0:(L2.start N (vs1++ .ref x :: vs2))[ts1.length]? =some (some (V.ref x)):=by
  unfold L2.start;rw[bA,bf,au (by simp[l1]),ae,l1,dr];rfl
 refine⟨sB,zt.refl _,sB,λ_ _ _=>rfl, ?_,λi t h=> ?_,λi t h=> ?_,λi t h=> ?_,[],λ_=>none,bZ _,λi os h=> ?_,λi _ os _ h=> ?_,λi k' n h=> ?_,λi k' fs0 h=> ?_,λi os h=> ?_⟩
 ·unfold enO L2.start;simp only[aA,ar,ae,aJ]at hN ⊢;omega
 ·rcases YE h with ⟨_,e⟩ | ⟨t',e2,e3⟩ | ⟨i',t',e1,e2,e3⟩ | e
  ·cases e
  ·cases e3;obtain⟨v,ev,rv⟩:=r1.at e2;refine⟨v, ?_,rv⟩;have hi:=(am.mp ev).1;unfold L2.start;rw[bA,bf,aB (by simpa using hi),ak,ev];rfl
  ·cases e3;obtain⟨v,ev,rv⟩:=r2.at e2;refine⟨v, ?_,rv⟩;have hi:=(am.mp ev).1;unfold L2.start;rw[e1,bA,bf,au (by simp[l1];omega),ae,l1,show ts1.length+1+i' - ts1.length=i' +1 by omega,aI,cJ,c8,aB (by simpa using hi),ak,ev];rfl
  ·cases e
 all_goals (rcases YE h with ⟨e0,e⟩ | ⟨_,_,e⟩ | ⟨_,_,_,_,e⟩ | e <;> try (cases e;done))
 cases e;subst e0;exact⟨x,C,dx,us,at0,hc,hx,hi,hf⟩
section
end
section
end
theorem SI.st0 (I:SI Y B ρ σ H)(hY:Y.as=[])(hno:∀(i:Nat) (s:Sl),s.isO=true->ρ[i]? ≠ some s)(j:Nat):SI Y B (ρ.set j (.st [])) σ H where
 s0:=I.s0
 sH:=I.sH
 sB:=I.sB
 old:=I.old
 len:=by rw[aF];exact I.len
 vl:=λi t h=>by
  rcases zr h with ⟨_,z⟩ | ⟨_,z⟩
  ·cases z
  ·exact I.vl i t z
 ow:=λi ts h=>by
  rcases zr h with ⟨_,z⟩ | ⟨_,z⟩
  ·cases z
  ·obtain⟨a,xs,e1,e2,e3,e4,e5,e6⟩:=I.ow i ts z;refine⟨a,xs,e1,e2,e3,e4,e5,λj' us hj hw=> ?_⟩;rcases zr hw with ⟨_,z⟩ | ⟨_,z⟩
   ·cases z
   ·exact e6 j' us hj z
 xc:=λi t h=>by
  rcases zr h with ⟨_,z⟩ | ⟨_,z⟩
  ·cases z
  ·exact I.xc i t z
 st:=by
  have one:∀i os,(ρ.set j (.st []))[i]? =some (Sl.st os)->i=j/\os=[]:=λi os h=>by
   rcases zr h with ⟨e,z⟩ | ⟨_,z⟩
   ·cases z;exact⟨e,rfl⟩
   ·exact(hno i _ rfl z).elim
  refine⟨[],λ_=>none,by rw[hY];exact bZ _,λi os h=>by rw[(one i os h).2];rfl,λi i' os os' h h' =>by rw[(one i os h).1,(one i' os' h').1],λi k n h=> ?_,λi k fs0 h=> ?_,λi os h n k fs e=> ?_⟩
  ·rcases zr h with ⟨_,z⟩ | ⟨_,z⟩
   ·cases z
   ·exact(hno i _ rfl z).elim
  ·rcases zr h with ⟨_,z⟩ | ⟨_,z⟩
   ·cases z
   ·exact(hno i _ rfl z).elim
  ·rw[(one i os h).2]at e;simp at e
def enS (n:Nat)(ts:List T):En:=(en0 n ts).set (n - 1) (.st [])
theorem SI.startS (s:zt Y.B0 Y.H0)(r:zB Y.B0 vs ts)(hY:Y.as=[]):SI Y Y.B0 (enS N.length ts) (L2.start N vs) Y.H0:=
 (SI.start s r).st0 hY (λi s hs h=>WY (λt z=>by rw[z]at hs;cases hs) (λz=>by rw[z]at hs;cases hs) h) _
section
variable {P:Program}{w:World}{K:a9}{mg:Str->Option Value}{base:Heap}
theorem xR {cl:Nat->Value}{x qual q:Str}{st:Stmt}{f c Pt:Addr}{fd:FuncData}{N ps:List Str}{k n:Nat}{fb:En->RS}{g:List T->R T}(F:Fun K x qual st f fd)(hc:fd.code= .ref c)(S:ZF N ps (zq st))(hn:n=ps.length)
  (hb:∀(A:Around) (outer:List Env) (s:Shared) (H:Hp) (E:XK) (Y:Fx),Y.cl=cl->Y.E=E->Y.H0 Pt=some (.tbl #[] q)->Zy k (A.deeper (envOfC qual (zq st) s.heap.objs.size f (.ref c)))->
   JZ (jv (CX1 P w) P w K mg base N qual (zq st) f (.ref c) A outer s H E) Y (zK st) fb)
  (hg:∀ts,ts.length=n->g ts=zy (fb (enS N.length ts))):ZX P w K mg base (CX1 P w) (k+1) f fd ps (vY cl n g Pt q):=by
 subst hn;obtain⟨oc,od,kV,doc,pm,an,cdv,ct,osl,rfl,lk,hcd⟩:=F.ex;obtain rfl:cdv= .ref c:=hc;refine Vw lk hcd S (λvs H Q E z=>spP.len vs H Q E z.2) λA outer s H vs Q E hr ⟨hT,B,ts,hl,sB,r,q⟩=> ?_;refine⟨_,hb A _ s H E ⟨B,H,E,cl,[]⟩ rfl rfl hT hr _,B,SI.startS sB r rfl, ?_⟩;rw[hg ts hl]at q;revert q;cases fb _ with
 | rt t=>exact λq v H' s r=>q v H' s r
 | rf t=>exact λq a xs H' B' s0 n e r _ l=>q _ H' s0 (.lst (by rw[zW n];exact e) (r.mono l))
 | nx ρ=>exact λq σ' H' B' _ I=>q _ H' I.sH .non
 | ex c=>exact λq=>q
 | bk ρ=>exact λq=>q.elim
 | ct ρ=>exact λq=>q.elim
 | bad=>exact λq=>q
theorem KH {cl:Nat->Value}{x qual:Str}{st:Stmt}{f:Addr}{fd:FuncData}{N ps:List Str}{k p n m kr:Nat}{fb:En->RS}(F:Fun K x qual st f fd)(S:ZF N ps (zq st))(hn:ps.length=n+1)(hN:N.length=n+1+m)
  (hb:∀(cdv:Value) (A:Around) (outer:List Env) (s:Shared) (H:Hp) (E:XK) (Y:Fx),Y.cl=cl->Y.E=E->Zy kr (A.deeper (envOfC qual (zq st) s.heap.objs.size f cdv))->
   JZ (jv (CX1 P w) P w K mg base N qual (zq st) f cdv A outer s H E) Y (zK st) fb):ZX P w K mg base (CX1 P w) (kr+1) f fd ps (spO cl k p n λfs ts=>zy (fb (enO k m fs (ts.take p) (ts.drop p)))):=by
 refine Fun.okX F S (λvs H Q E z=> ?_) λcdv A outer s H vs Q E hr z=> ?_
 ·obtain⟨x,C,dx,us,vs1,vs2,ts1,ts2,B,fs,e,hl,hl2,_,_,_,_,_,r1,r2,_⟩:=z;rw[e,aA,ar,r1.length,r2.length,hn,← hl2,aA];rfl
 obtain⟨x,C,dx,us,vs1,vs2,ts1,ts2,B,fs,e,hl,hl2,hc,hx,hi,hf,sB,r1,r2,q⟩:=z;subst e;have e1:(ts1++ts2).take p=ts1:=by rw[← hl];simp
 have e2:(ts1++ts2).drop p=ts2:=by rw[← hl];simp
 refine⟨_,hb cdv A _ s H E _ rfl rfl hr _,B,SI.startO (by rw[hN,hl2]) sB hc hx hi hf r1 r2, ?_⟩
 have q:Po _ rC B H (zy _) Q:=q;rw[e1,e2]at q;revert q;cases fb _ with
 | rt t=>exact λq v H' s r=>q v H' s r
 | rf t=>exact λq a xs H' B' s0 n e r _ l=>q _ H' s0 (.lst (by rw[zW n];exact e) (r.mono l))
 | nx ρ=>exact λq σ' H' B' s' I' =>q _ H' I'.sH .non
 | bk ρ=>exact λq=>q.elim
 | ct ρ=>exact λq=>q.elim
 | ex c=>exact λq=>q
 | bad=>exact λq=>q
end
section
variable {X:Cx}{Y:Fx}{a b:Expr}{cl:Nat->Value}{k i j kk kj nn:Nat}{x m:Str}{px ap p pos p' :Pos}{C f:Addr}{fd:FuncData}{ps:List Str}{es:List Expr}{ga:En->R (List T)}{pl:Sem Bool}
def obL (k i j:Nat)(ρ:En):Option (List (Str×Fd)):=match ρ[i]? with
 | some (.oc k' fs)=>if k' =k then some fs else none
 | _=>(obD k i j ρ).map λx=>x.2.1
theorem SI.obL (I:SI Y B ρ σ H)(h:obL k i j ρ=some fs):∃a C dx vs,σ[i]? =some (some (V.ref a))/\Y.cl k= .ref C/\H a=some (.ins C dx vs)/\InC vs/\FsO B H vs fs:=by
 unfold PV.obL at h;obtain⟨as,O,s⟩:=I.st;split at h
 ·rename_i k' fs' e;split at h
  ·rename_i hk;subst hk;cases h;obtain⟨a,C,dx,vs,e1,e2,e3,e4,e5⟩:=s.oc i _ _ e;exact⟨a,C,dx,vs,e1,e2,I.sH _ _ e3,e4,e5.mono (zt.refl _) I.sH⟩
  ·cases h
 ·cases e:obD k i j ρ with
  | none=>rw[e]at h;cases h
  | some x=>
   obtain⟨n,fs',os⟩:=x;rw[e]at h;cases h;obtain⟨h1,h2,h3⟩:=we e;obtain⟨a,C,dx,vs,e1,e2,e3,e4,e5,e6,e7,e8⟩:=s.st j os h2 n k _ h3;obtain⟨a',C',dx',vs',g1,g2,_⟩:=s.ob i k n h1;rw[e1]at g1;cases g1;refine⟨a,C,dx,vs,g2,e2,e3,e7.2,λm f d z=> ?_⟩;obtain⟨v,z1,z2⟩:=e8 m f d z;refine⟨v,z1, ?_⟩;cases d with
   | tv t=>exact z2
   | tl ts=>obtain⟨l,xs,p1,_,_,p4,p5,_⟩:=z2;exact⟨l,xs,p1,p4,p5⟩
def fldL (k i j:Nat)(f:Str):En->R T:=λρ=>match obL k i j ρ with
 | some fs=>(match fs.lookup f with
  | some (.tv t)=> .ok t
  | _=> .bad)
 | none=> .bad
theorem poO {B H:Hp}{I0:Hp}{r:R T}{Q:VK}(s:zt Y.H0 H)(q:Po Y rC B H r Q):Po ⟨B,H,Y.E,Y.cl,[]⟩ rC B H r Q:=by
 cases r with
 | bad=>exact q
 | ex c=>exact λd H' z1 z2=>q d H' (s.trans z1) z2
 | ok t=>exact q
def u9 (k i j nn:Nat)(g:List (Str×Fd)->List T->R T)(ga:En->R (List T)):En->R T:=λρ=>match obL k i j ρ with
 | some fs=>(ga ρ).bind λts=>if ts.length=nn then g fs ts else .bad
 | none=> .bad
theorem z15 {g:List (Str×Fd)->List T->R T}(hv:PE X (.Name x px) (jK i))(hy:Y.cl=cl)(hc:cl k= .ref C)(c:L2.Cls X.K C)(hm:L2.Meth X.K C m f)(F:ZX X.prog X.w X.K X.mg X.base (CX1 X.prog X.w) kj f fd ps (spO cl k 0 nn g))(hr:Zy kk X.A)(hj:kj<=kk)(bd:L2.Binds X.K fd ps [])(hp:Z9 (CX1 X.prog X.w) X Y.E)(ha:W3 X Y (a :: es) ga)(hna:m ∉ vD:=by decide)
  (hst:starEach (a :: es) X.env=(false,eval a X.env) :: starEach es X.env:=by exact zN rfl) (hpl:((backTo pos (starEach es X.env)).any λx=>x.fst)=false:=by exact Zf rfl)
  (ht:eval (.Call (.Attribute (.Name x px) m ap) (a :: es) [] pos) X.env=(do
   let ov ← eval (.Name x px) X.env
   standAt ap.atName
   let (f,first) ← holding [ov] (getMethod ov m pl)
   callWith pos f first (backTo pos (starEach (a :: es) X.env)) (backToKw pos (keywordEach [] X.env))):=by rfl):
  Snd X Y (.Call (.Attribute (.Name x px) m ap) (a :: es) [] pos) (u9 k i j nn g ga):= .mk λρ=>PE.imp (yG hv c hm F (hr.mono hj) bd .nil hp (ha ρ) hst hpl ht) λσ H Q ⟨B,I,q⟩=>by
 unfold u9 at q;split at q
 ·rename_i fs e;obtain⟨a',C',dx,vs,e1,e2,e3,e4,e5⟩:=I.obL e;subst hy;rw[hc]at e2;cases e2;refine⟨.ref a',e1,a',dx,vs,rfl,e3,e4 m hna, ?_⟩;refine step I q λts us H1 _ s1 r1 I1 q1=> ?_;split at q1
  ·rename_i hn;rw[aW];exact⟨a',C,dx,vs,[],us,[],ts,_,fs,rfl,rfl,hn,hc,s1 _ _ e3,e4,e5.mono (zH.ge I.sB s1) s1,I1.sB,.nil,r1,poO (I0:=H) I1.sH q1⟩
  ·exact q1.elim
 ·exact q.elim
theorem QX {g:List (Str×Fd)->List T->R T}(hv:PE X (.Name x px) (jK i))(hy:Y.cl=cl)(hc:cl k= .ref C)(c:L2.Cls X.K C)(hm:L2.Meth X.K C m f)(F:ZX X.prog X.w X.K X.mg X.base (CX1 X.prog X.w) kj f fd ps (spO cl k 0 0 g))(hr:Zy kk X.A)(hj:kj<=kk)(bd:L2.Binds X.K fd ps [])(hp:Z9 (CX1 X.prog X.w) X Y.E)(hna:m ∉ vD:=by decide)
  (ht:eval (.Call (.Attribute (.Name x px) m ap) [] [] pos) X.env=(do
   let ov ← eval (.Name x px) X.env
   standAt ap.atName
   let (f,first) ← holding [ov] (getMethod ov m pl)
   callWith pos f first (backTo pos (starEach [] X.env)) (backToKw pos (keywordEach [] X.env))):=by rfl):
  Snd X Y (.Call (.Attribute (.Name x px) m ap) [] [] pos) (u9 k i j 0 g zj):= .mk λρ=>PE.imp (ut hv c hm F (hr.mono hj) bd .nil hp ht) λσ H Q ⟨B,I,q⟩=>by
 unfold u9 at q;split at q
 ·rename_i fs e;obtain⟨a',C',dx,vs,e1,e2,e3,e4,e5⟩:=I.obL e;subst hy;rw[hc]at e2;cases e2;exact⟨.ref a',e1,a',dx,vs,rfl,e3,e4 m hna,a',C,dx,vs,[],[],[],[],_,fs,rfl,rfl,rfl,hc,e3,e4,e5,I.sB,.nil,.nil,poO (I0:=H) I.sH q⟩
 ·exact q.elim
def KI (f:En->R (T×En)):En->RS:=λρ=>(f ρ).s λp=> .rt p.1
theorem KJ {f:En->R (T×En)}(h:xP X Y a f):jA X Y (.Return (some a) pos) (KI f):= .mk λρ=>PS.imp (jY (h.go ρ)) λD σ H ⟨B,I,q⟩=>⟨B,I,by
 unfold KI at q;revert q;cases f ρ with
 | bad=>exact λq=>q
 | ex c=>exact λq=>q
 | ok p=>
  intro q v H' B' s I' r;exact q v H' I'.sH (r.mono (by have:=Wn I'.sH I'.old (zt.refl H') I'.sB;rw[zH.self _ _ I'.sB]at this;exact this))⟩
end
section
end
end PV
namespace PV
open PySem PySem.Spec PyProof.Rows L2
structure Fn (K:a9) (mg:Str->Option Value) (x:Str) (st:Stmt) (ps:List Str) (f:Addr) (fd:FuncData):Prop where
 F:Fun K x x st f fd
 b:L2.Binds K fd ps []
 m:mg x=some (.ref f)
structure FnO (K:a9) (x qual:Str) (st:Stmt) (ps:List Str) (f:Addr) (fd:FuncData) (C:Addr):Prop where
 F:Fun K x qual st f fd
 b:L2.Binds K fd ps []
 m:L2.Meth K C x f
noncomputable abbrev FE (K:a9)(mg:Str->Option Value)(x:Str)(st:Stmt)(ps:List Str):Prop:=∃f fd,Fn K mg x st ps f fd
noncomputable abbrev FM (K:a9)(cl:Nat->Value)(c:Nat)(x:Str)(st:Stmt)(ps:List Str):Prop:=∃C qual f fd,cl c= .ref C/\FnO K x qual st ps f fd C
noncomputable abbrev FI (K:a9)(mg:Str->Option Value)(cl:Nat->Value)(c:Nat)(y:Str)(st:Stmt)(ps:List Str):Prop:=∃C qual f fd,cl c= .ref C/\mg y=some (.ref C)/\L2.Mk K C f/\FnO K "__init__" qual st ps f fd C
structure Zz where
 P:Program
 w:World
 K:a9
 mg:Str->Option Value
 base:Heap
 cl:Nat->Value
structure QQ (x:Str) (CX:CXT) (k:Nat) (sp:Sp) (Z:Zz):Prop where
 ex:∃st ps f fd,Fn Z.K Z.mg x st ps f fd/\ZX Z.P Z.w Z.K Z.mg Z.base CX k f fd ps sp
structure CA (c:Nat) (as:List Str) (K:a9) (cl:Nat->Value):Prop where
 ex:∃C,cl c= .ref C/\L2.Cls K C/\∀f,as.contains f=true->L2.NoAttr K C f
structure QM (x:Str) (c k:Nat) (sp:Sp) (Z:Zz):Prop where
 ex:∃C qual st ps f fd,Z.cl c= .ref C/\L2.Cls Z.K C/\FnO Z.K x qual st ps f fd C/\ZX Z.P Z.w Z.K Z.mg Z.base (CX1 Z.P Z.w) k f fd ps sp
structure QI (y:Str) (c k:Nat) (sp:Sp) (Z:Zz):Prop where
 ex:∃C qual st ps f fd,Z.cl c= .ref C/\Z.mg y=some (.ref C)/\L2.Mk Z.K C f/\FnO Z.K "__init__" qual st ps f fd C/\ZX Z.P Z.w Z.K Z.mg Z.base (CX1 Z.P Z.w) k f fd ps sp
abbrev qP (Z:Zz)(x:Str)(n k:Nat)(c:List T->R T):Prop:=QQ x CX0 k (spP Z.cl n c) Z
abbrev qF (Z:Zz)(x:Str)(n k:Nat)(c:List T->R T):Prop:=QQ x (CX1 Z.P Z.w) k (spF Z.cl n c) Z
abbrev qM (Z:Zz)(c:Nat)(x:Str)(n k:Nat)(g:List (Str×Fd)->List T->R (T×List (Str×Fd))):Prop:=QM x c k (spM Z.cl c n g) Z
abbrev qO (Z:Zz)(c:Nat)(x:Str)(n k:Nat)(g:List (Str×Fd)->List T->R T):Prop:=QM x c k (spO Z.cl c 0 n g) Z
abbrev qI (Z:Zz)(c:Nat)(x:Str)(n k:Nat)(g:List (Str×Fd)->List T->R (T×List (Str×Fd))):Prop:=QI x c k (spM Z.cl c n g) Z
def oP (m:Nat)(b:En->RS):List T->R T:=λts=>zy (b (en0 m ts))
def oS (m:Nat)(b:En->RS):List T->R T:=λts=>zy (b (enS m ts))
def oM (k j:Nat)(b:En->R (T×En)):List (Str×Fd)->List T->R (T×List (Str×Fd)):=λfs ts=>uN k j (b (enM k j fs ts))
def oO (k m p:Nat)(b:En->RS):List (Str×Fd)->List T->R T:=λfs ts=>zy (b (enO k m fs (ts.take p) (ts.drop p)))
section
variable {P:Program}{w:World}{K:a9}{mg:Str->Option Value}{base:Heap}{cl:Nat->Value}{x:Str}{CX:CXT}{k c:Nat}{sp:Sp}{G:Prop}{as:List Str}
theorem QQ.go (O:QQ x CX k sp ⟨P,w,K,mg,base,cl⟩)(h:∀st ps f fd,Fn K mg x st ps f fd->ZX P w K mg base CX k f fd ps sp->G):G:=by
 obtain⟨⟨st,ps,f,fd,C,F⟩⟩:=O;exact h st ps f fd C F
theorem QM.go (O:QM x c k sp ⟨P,w,K,mg,base,cl⟩)(h:∀C q st ps f fd,cl c= .ref C->L2.Cls K C->FnO K x q st ps f fd C->ZX P w K mg base (CX1 P w) k f fd ps sp->G):G:=by
 obtain⟨⟨C,q,st,ps,f,fd,e,c,M,F⟩⟩:=O;exact h C q st ps f fd e c M F
theorem QI.go (O:QI x c k sp ⟨P,w,K,mg,base,cl⟩)(h:∀C q st ps f fd,cl c= .ref C->mg x=some (.ref C)->L2.Mk K C f->FnO K "__init__" q st ps f fd C->ZX P w K mg base (CX1 P w) k f fd ps sp->G):G:=by
 obtain⟨⟨C,q,st,ps,f,fd,e,g,M,O,F⟩⟩:=O;exact h C q st ps f fd e g M O F
theorem CA.go (A:CA c as K cl)(h:∀C,cl c= .ref C->L2.Cls K C->(∀f,as.contains f=true->L2.NoAttr K C f)->G):G:=by
 obtain⟨⟨C,e,c,n⟩⟩:=A;exact h C e c n
end
section
variable {Z:Zz}{x y:Str}{st:Stmt}{ps:List Str}{c k n m j:Nat}{fb:En->RS}{fm:En->R (T×En)}
abbrev Sc (N ps:List Str)(st:Stmt):Prop:=ZF N ps (zq st)
theorem okP (C:FE Z.K Z.mg x st ps)(N:List Str) (hb:∀(f:Addr) (cdv:Value) (A:Around) (outer:List Env) (s:Shared) (H:Hp) (E:XK) (Y:Fx),Y.cl=Z.cl->True->Zy k (A.deeper (envOfC x (zq st) s.heap.objs.size f cdv))->N.Nodup->True->
   JZ (jv CX0 Z.P Z.w Z.K Z.mg Z.base N x (zq st) f cdv A outer s H E).nox Y (zK st) fb)
  (S:Sc N ps st:=by refine⟨rfl,rfl,rfl, ?_,rfl, ?_, ?_⟩ <;> decide+kernel) (hn:n=ps.length:=by rfl) (hm:m=N.length:=by rfl):qP Z x n (k+1) (oP m fb):=by
 obtain⟨f,fd,C⟩:=C;subst hm;exact⟨_,_,f,fd,C,z0H C.F S hn (λcdv A outer s H E Y hy hr=>hb f cdv A outer s H E Y hy trivial hr S.nd trivial) λ_ _=>rfl⟩
theorem okF (C:FE Z.K Z.mg x st ps)(N:List Str)(hr' :WR fb) (hb:∀(f:Addr) (cdv:Value) (A:Around) (outer:List Env) (s:Shared) (H:Hp) (E:XK) (Y:Fx),Y.cl=Z.cl->Y.E=E->Zy k (A.deeper (envOfC x (zq st) s.heap.objs.size f cdv))->N.Nodup->Z9 (CX1 Z.P Z.w) (jv (CX1 Z.P Z.w) Z.P Z.w Z.K Z.mg Z.base N x (zq st) f cdv A outer s H E) Y.E->
   JZ (jv (CX1 Z.P Z.w) Z.P Z.w Z.K Z.mg Z.base N x (zq st) f cdv A outer s H E) Y (zK st) fb)
  (S:Sc N ps st:=by refine⟨rfl,rfl,rfl, ?_,rfl, ?_, ?_⟩ <;> decide+kernel) (hn:n=ps.length:=by rfl) (hm:m=N.length:=by rfl):qF Z x n (k+1) (oP m fb):=by
 obtain⟨f,fd,C⟩:=C;subst hm;exact⟨_,_,f,fd,C,xB C.F S hn (λcdv A outer s H E Y hy hE hr=>hb f cdv A outer s H E Y hy hE hr S.nd (hE ▸ UB)) (λ_ _=>rfl) hr'⟩
abbrev BM (Z:Zz)(k:Nat)(qual:Str)(st:Stmt)(N:List Str)(G:Cx->Fx->Prop):Prop:=∀(f:Addr) (cdv:Value) (A:Around) (outer:List Env) (s:Shared) (H:Hp) (E:XK) (Y:Fx),Y.cl=Z.cl->Y.E=E->Zy k (A.deeper (envOfC qual (zq st) s.heap.objs.size f cdv))->N.Nodup->Z9 (CX1 Z.P Z.w) (jv (CX1 Z.P Z.w) Z.P Z.w Z.K Z.mg Z.base N qual (zq st) f cdv A outer s H E) Y.E->
   G (jv (CX1 Z.P Z.w) Z.P Z.w Z.K Z.mg Z.base N qual (zq st) f cdv A outer s H E) Y
theorem okM (ca:CA c as Z.K Z.cl)(C:FM Z.K Z.cl c x st ps)(N:List Str)(hb:∀q,BM Z k q st N λX Y=>V0 X Y (zK st) fm)
  (S:Sc N ps st:=by refine⟨rfl,rfl,rfl, ?_,rfl, ?_, ?_⟩ <;> decide+kernel) (hn:ps.length=n+1:=by rfl) (hm:N.length=j+1:=by rfl) (hj:n+1<=j:=by decide):qM Z c x n (k+1) (oM c j fm):=by
 obtain⟨C,q,f,fd,e,M⟩:=C;obtain⟨C',e',cl,_⟩:=ca;rw[e]at e';cases e';exact⟨C,q,_,_,f,fd,e,cl,M,V1 M.F S hn hm hj λcdv A outer s H E Y hy hE hr=>hb q f cdv A outer s H E Y hy hE hr S.nd (hE ▸ UB)⟩
theorem okO (ca:CA c as Z.K Z.cl)(C:FM Z.K Z.cl c x st ps)(N:List Str)(hb:∀q,BM Z k q st N λX Y=>JZ X Y (zK st) fb)
  (S:Sc N ps st:=by refine⟨rfl,rfl,rfl, ?_,rfl, ?_, ?_⟩ <;> decide+kernel) (hn:ps.length=n+1:=by rfl) (hm:N.length=n+1+m:=by rfl):qO Z c x n (k+1) (oO c m 0 fb):=by
 obtain⟨C,q,f,fd,e,M⟩:=C;obtain⟨C',e',cl,_⟩:=ca;rw[e]at e';cases e';exact⟨C,q,_,_,f,fd,e,cl,M,KH M.F S hn hm λcdv A outer s H E Y hy hE hr=>hb q f cdv A outer s H E Y hy hE hr S.nd (hE ▸ UB)⟩
theorem okI (C:FI Z.K Z.mg Z.cl c y st ps)(N:List Str)(hb:∀q,BM Z k q st N λX Y=>V0 X Y (zK st) fm)
  (S:Sc N ps st:=by refine⟨rfl,rfl,rfl, ?_,rfl, ?_, ?_⟩ <;> decide+kernel) (hn:ps.length=n+1:=by rfl) (hm:N.length=j+1:=by rfl) (hj:n+1<=j:=by decide):qI Z c y n (k+1) (oM c j fm):=by
 obtain⟨C,q,f,fd,e,g,M,O⟩:=C;exact⟨C,q,_,_,f,fd,e,g,M,O,V1 O.F S hn hm hj λcdv A outer s H E Y hy hE hr=>hb q f cdv A outer s H E Y hy hE hr S.nd (hE ▸ UB)⟩
theorem okB (C:FE Z.K Z.mg x st ps)(hn:n=ps.length:=by rfl):qP Z x n k (λ_=> .bad):=by
 obtain⟨f,fd,C⟩:=C;exact⟨_,_,f,fd,C,λvs H Q E h=>by rw[← hn];exact spP.len vs H Q E h,λA outer s H args us vs Q E _ _ _ _ ⟨B,ts,_,_,_,q⟩=>q.elim⟩
end
section
theorem cZ (hy:Y.cl=cl)(O:QQ x CX0 j (spP cl n g) ⟨X.prog,X.w,X.K,X.mg,X.base,cl⟩)(hr:Zy k X.A)(ha:W3 X Y (a :: es) ga)(hj:j<=k:=by omega)(gl:Gl X x:=by rfl)(hd:(x == ("__debug__":Str))=false:=by decide)
  (hs:starEach (a :: es) X.env=(false,eval a X.env) :: starEach es X.env:=by exact zN rfl) (hz:((backTo pos (starEach es X.env)).any λx=>x.fst)=false:=by exact Zf rfl):Snd X Y (.Call (.Name x p) (a :: es) [] pos) (za n g ga):=
 O.go λ_ _ _ _ C F=>xj hy F hr hj gl C.m C.F.kp C.b ha hd hs hz
end
noncomputable def nms (N:List Str)(js:List Nat):List Str:=js.map λj=>N.getD j ""
noncomputable def ndB:List Str->Bool
 | []=>true
 | x :: r=> !(r.contains x) && ndB r
theorem Wt:∀{l:List Str},ndB l=true->l.Nodup
 | [],_=> .nil
 | x :: r,h=>by
  rw[ndB,ac]at h;exact cU.mpr ⟨by simpa using h.1,Wt h.2⟩
def V3 (N N' :List Str)(sc0 scope:Scope)(k:Nat)(js:List Nat):Bool:=(Gh scope sc0 && XG N N' scope sc0 k js) && ndB N'
section
variable {cl:Nat->Value}{X:Cx}{Y:Fx}{x y:Str}{p p' p2:Pos}{kk:Nat}{iter elt:Expr}{ifs:List Expr}{scope:Scope}{js:List Nat}{fi:En->R (List T)}{ft:En->R Bool}{fe:En->R T}
theorem cr1 (hy:Y.cl=cl)(h:V3 X.N (x :: nms X.N js) X.env.scope scope 1 js=true)(hx:((relabel scope X.env).names.lookup x == some .local)=true)(cm:X.calm=true)(it:W4 X Y (.Name x p) iter fi)(tt:∀Y',Y'.cl=cl->vM X scope (x :: nms X.N js) λXC=>Jc XC Y' ifs ft)
  (el:∀Y',Y'.cl=cl->K0 X scope (x :: nms X.N js) Y'.E λXC=>Snd XC Y' elt fe) (hs:∀x,foldedSetIterable iter X.env x=pure x:=by intro _;rfl):w8 X Y (.Name x p) iter elt ifs scope (x :: nms X.N js) 1 js fi (JL 0) (zP 0) ft fe:=by
 subst hy;rw[V3,ac]at h;have hx:(relabel scope X.env).names.lookup x=some .local:=eq_of_beq hx;exact vO _ _ _ rfl rfl h.1 cm it (λ_ _ _ _ _ _=>ZE (Wt h.2) rfl (.inl hx) (.inr hx)) (uC 0) (uE 0) tt el hs
theorem cr2 (hy:Y.cl=cl)(h:V3 X.N (x :: y :: nms X.N js) X.env.scope scope 2 js=true)(hx:((relabel scope X.env).names.lookup x == some .local && (relabel scope X.env).names.lookup y == some .local)=true)(cm:X.calm=true)(it:W4 X Y (.Tuple [.Name x p,.Name y p'] kk p2) iter fi)(tt:∀Y',Y'.cl=cl->vM X scope (x :: y :: nms X.N js) λXC=>Jc XC Y' ifs ft)
  (el:∀Y',Y'.cl=cl->K0 X scope (x :: y :: nms X.N js) Y'.E λXC=>Snd XC Y' elt fe) (hs:∀x,foldedSetIterable iter X.env x=pure x:=by intro _;rfl):w8 X Y (.Tuple [.Name x p,.Name y p'] kk p2) iter elt ifs scope (x :: y :: nms X.N js) 2 js fi (Gc X.K 2 (yn (JL 0) (yn (JL 1) GS))) (Ze 0 1) ft fe:=by
 subst hy;rw[V3,ac]at h;rw[ac]at hx;have h1:(relabel scope X.env).names.lookup x=some .local:=eq_of_beq hx.1;have h2:(relabel scope X.env).names.lookup y=some .local:=eq_of_beq hx.2;exact vO _ _ _ rfl rfl h.1 cm it (λ_ _ _ _ _ _=>yo cm (ZR (ZE (Wt h.2) rfl (.inl h1) (.inr h1)) (ZR (ZE (Wt h.2) rfl (.inl h2) (.inr h2)) WT))) (Qx _ 0 1) (Qy 0 1) tt el hs
end
end PV
namespace L2
open PySem PySem.Spec PyProof.Rows
section
theorem Inv.virt (I:Inv X pins σ H s)(hq:X.N[q]? =some x)(hv:X.env.scope.names.lookup x=none)(v:Option V):Inv X pins (σ.set q v) H s:=
 { I with
  loc:=let ⟨m,hn,hl⟩:=I.loc;⟨m,hn,λi y u e1 e2 e3=>by
   by_cases h:i=q
   ·subst h;rw[hq]at e1;cases e1;unfold Vis at e3;rw[hv]at e3;rcases e3 with z | z | z <;> cases z
   ·rw[ay (aX h)]at e2;exact hl i y u e1 e2 e3⟩
  len:=by rw[aF];exact I.len }
theorem uS {α:Type}{l:List α}{x a:α}(h:l[q]? =some a):(l.set q x).set q a=l:=by
 rw[List.set_set];obtain⟨hq,rfl⟩:=am.mp h;exact List.set_getElem_self hq
theorem xS (ha:PE X e te)(hr:PA X es t)(hq:X.N[q]? =some x)(hv:X.env.scope.names.lookup x=none)(hs:starEach (e :: es) X.env=(false,eval e X.env) :: starEach es X.env):
  PA X (e :: es) (λσ H Q=>te σ H λv H1=>t (σ.set q (some v)) H1 λvs H2=>Q (v :: vs) H2):=by
 intro pos pins s σ H Q I h;rw[hs];show wpAny _ _ (spliced ((false,eval e X.env) :: backTo pos (starEach es X.env))) _ _ s;refine dz (thn (ha pins s σ H _ I h) λu s1 ⟨x,H1,I1,r1,q1⟩=> ?_);refine thn (hr pos pins s1 _ H1 _ (I1.virt hq hv (some x)) q1) λus s2 ⟨xs,H2,I2,r2,q2⟩=>⟨x :: xs,H2, ?_,.cons r1 r2,q2⟩;have hl:q < σ.length:=by rw[I.len];exact(am.mp hq).1
 have:=I2.virt hq hv σ[q];rw[uS (aj hl)]at this;exact this
end
end L2
namespace PV
open PySem PySem.Spec PyProof.Rows L2 PySem.W
section
theorem SI.cpO (I:SI Y B ρ σ H){q k n:Nat}{a:Addr}(h:ρ[q]? =some (.ob k n))(ha:σ[q]? =some (some (V.ref a)))(i:Nat):SI Y B (ρ.set i (.ob k n)) (σ.set i (some (V.ref a))) H:=by
 have get:∀{j:Nat} {y:Sl},(ρ.set i (.ob k n))[j]? =some y->(∀a b,y ≠ .ob a b)->ρ[j]? =some y/\(σ.set i (some (V.ref a)))[j]? =σ[j]? :=λ{j y} h hy=>by
  rcases zr h with ⟨_,z⟩ | ⟨e,z⟩
  ·exact absurd z (hy _ _)
  ·exact⟨z,ay (aX e)⟩
 have no:∀b,WV ρ σ b->WV (ρ.set i (.ob k n)) (σ.set i (some (V.ref a))) b:=λb hb j us hw=>by
  obtain⟨e1,e2⟩:=get hw (λ_ _=>Sl.noConfusion);rw[e2];exact hb j us e1
 obtain⟨as,O,x⟩:=I.st;refine⟨I.s0,I.sH,I.sB,I.old,by rw[aF,aF];exact I.len,λj t e=> ?_,λj ts e=> ?_,λj c e=> ?_,as,O,x.pre,λj os e=>x.len j os (get e (λ_ _=>Sl.noConfusion)).1,λj j' os os' e e' =>x.one j j' os os' (get e (λ_ _=>Sl.noConfusion)).1 (get e' (λ_ _=>Sl.noConfusion)).1,λj k' n' e=> ?_,λj k' fs e=> ?_,λj os e m k' fs e' => ?_⟩
 ·obtain⟨e1,e2⟩:=get e (λ_ _=>Sl.noConfusion);rw[e2];exact I.vl j t e1
 ·obtain⟨e1,e2⟩:=get e (λ_ _=>Sl.noConfusion);obtain⟨b,xs,y1,y2,y3,y4,y5,y6⟩:=I.ow j ts e1;refine⟨b,xs,by rw[e2];exact y1,y2,y3,y4,y5,λj' us hj hw=> ?_⟩
  obtain⟨e3,e4⟩:=get hw (λ_ _=>Sl.noConfusion);rw[e4];exact y6 j' us hj e3
 ·obtain⟨e1,e2⟩:=get e (λ_ _=>Sl.noConfusion);rw[e2];exact I.xc j c e1
 ·rcases zr e with ⟨rfl,z⟩ | ⟨hj,z⟩
  ·cases z;obtain⟨a',C,dx,vs,y1,y2,y3⟩:=x.ob q k n h;rw[ha]at y2;cases y2;exact⟨a,C,dx,vs,y1,aU (by rw[← I.len];exact Wm e),y3⟩
  ·rw[ay (aX hj)];exact x.ob j k' n' z
 ·obtain⟨e1,e2⟩:=get e (λ_ _=>Sl.noConfusion);rw[e2];exact x.oc j k' fs e1
 ·obtain⟨b,C,dx,vs,y1,y2,y3,y4,y5,y6,y7,y8⟩:=x.st j os (get e (λ_ _=>Sl.noConfusion)).1 m k' fs e';refine⟨b,C,dx,vs,y1,y2,y3,y4,y5,y6,y7,λm' f d z=> ?_⟩;obtain⟨v,x1,x2⟩:=y8 m' f d z;refine⟨v,x1, ?_⟩;cases d with
  | tv t=>exact x2
  | tl ts=>
   obtain⟨l,xs,p1,p2,p3,p4,p5,p6,p7⟩:=x2;exact⟨l,xs,p1,p2,p3,p4,p5,no l p6,p7⟩
end
def mkA (q j k nn:Nat)(g:List (Str×Fd)->List T->R (T×List (Str×Fd)))(ga:En->R (List T)):En->R En:=λρ=>(ga ρ).bind λts=>if ts.length=nn/\q ≠ j/\q < ρ.length then (match ρ[j]? with
 | some (.st os)=>(match g [] ts with
  | .ok (.non,fs)=> .ok ((ρ.set j (.st (os++[(k,fs)]))).set q (.ob k os.length))
  | .ex c=> .ex c
  | _=> .bad)
 | _=> .bad) else .bad
end PV
namespace PV
open PySem PySem.Spec PyProof.Rows L2
end PV
namespace PV
open PySem PySem.Spec PyProof.Rows L2 PySem.W
noncomputable abbrev qlT (x:Str):Str:=x++".<locals>."++"<lambda>"
section
end
section
variable {js:List Nat}
theorem cd1 (hc:scope.names.lookup x=some .cell)(hy:Y.cl=cl)(h:((Gk scope X.env.scope && XG X.N (x :: nms X.N js) scope X.env.scope 1 js) && ndB (x :: nms X.N js))=true)(hx:((relabel scope X.env).names.lookup x == some .cell)=true)(cm:X.calm=true)(it:W4 X Y (.Name x p) iter fi)(tt:∀Y',Y'.cl=cl->zt Y.H0 Y'.H0->YA X scope (x :: nms X.N js) λXC=>Jc XC Y' ifs ft)
  (el:∀Y',Y'.cl=cl->zt Y.H0 Y'.H0->YA X scope (x :: nms X.N js) λXC=>Snd XC Y' elt fe) (hs:∀x,foldedSetIterable iter X.env x=pure x:=by intro _;rfl):u7 X Y (.Name x p) iter elt ifs scope (x :: nms X.N js) 1 js fi (JL 0) (zP 0) ft fe:=by
 subst hy;rw[ac]at h;have h1:(relabel scope X.env).names.lookup x=some .cell:=eq_of_beq hx;exact xN _ _ _ rfl rfl h.1 cm it (λ_ _ _ _ _ _=>ZE (Wt h.2) rfl (.inr h1) (.inl (by show (scope.names.lookup x == some .cell)=true;rw[hc];rfl))) (uC 0) (uE 0) tt el hs
end
def PoW (Y:Fx)(B:Hp)(q:Nat)(r:R En)(σ:Sg)(Q:VK):Prop:=match r with
 | .ok ρ' =>∀a H' B' k n,zt B B' ->SI Y B' ρ' (σ.set q (some (V.ref a))) H' ->ρ'[q]? =some (.ob k n)->Q (.ref a) H'
 | .ex c=>XP Y B c
 | .bad=>False
theorem PoW.up {r:R En}(s:zt B B')(h:PoW Y B q r σ Q):PoW Y B' q r σ Q:=by
 cases r with
 | ok ρ=>exact λa H' B2 k n s2=>h a H' B2 k n (s.trans s2)
 | ex c=>exact λd H' z1 z2=>h d H' z1 (s.trans z2)
 | bad=>exact h
def tW (Y:Fx)(q:Nat)(m:En->R En)(ρ:En):TE:=λσ H Q=>∃B,SI Y B ρ σ H/\PoW Y B q (m ρ) σ Q
structure xT (X:Cx) (Y:Fx) (e:Expr) (q:Nat) (m:En->R En):Prop where
 go:∀ρ,PE X e (tW Y q m ρ)
section
theorem q_mk {g:List (Str×Fd)->List T->R (T×List (Str×Fd))}(hy:Y.cl=cl)(hc:cl k= .ref C)(M:L2.Mk X.K C f)(F:ZX X.prog X.w X.K X.mg X.base (CX1 X.prog X.w) kj f fd ps (spM cl k nn g))(hr:Zy kk X.A)(hj:kj+1<=kk)(gl:Gl X c)(mg:X.mg c=some (.ref C))(bd:L2.Binds X.K fd ps [])(hp:Z9 (CX1 X.prog X.w) X Y.E)(ha:W3 X Y (a :: es) ga)
  (hd:(c == ("__debug__":Str))=false:=by decide) (hst:starEach (a :: es) X.env=(false,eval a X.env) :: starEach es X.env:=by exact zN rfl) (hpl:((backTo pos' (starEach es X.env)).any λx=>x.fst)=false:=by exact Zf rfl):
  xT X Y (.Call (.Name c pc) (a :: es) [] pos') q (mkA q j k nn g ga):= .mk λρ=>by
 refine PE.imp (Vv M F (hr.mono hj) gl mg bd .nil hp (ha ρ) hd hst hpl) λσ H Q ⟨B,I,po⟩=> ?_;generalize em:mkA q j k nn g ga ρ=mr at po;have em' :=em;unfold mkA at em';refine⟨B,I, ?_⟩;cases eg:ga ρ with
 | bad=>rw[eg]at em';subst em';exact po
 | ex c=>rw[eg]at em';subst em';exact po
 | ok ts=>
  rw[eg]at em';intro vs H1 s1 r1;have I1:=I.grow s1;have po1:=po.up (zH.ge I.sB s1);have em' :(if ts.length=nn/\q ≠ j/\q < ρ.length then (match ρ[j]? with
   | some (.st os)=>(match g [] ts with
    | .ok (.non,fs)=> .ok ((ρ.set j (.st (os++[(k,fs)]))).set q (.ob k os.length))
    | .ex c=> .ex c
    | _=> .bad)
   | _=> .bad) else .bad:R En)=mr:=em'
  subst hy;split at em'
  ·rename_i hn;intro y0 dx h1 h2 h3;rw[aW];split at em'
   ·rename_i os ej;have sd:zt H1 (upd H1 dx (.own y0)):=zt.new h2 _;have hy0:upd H1 dx (.own y0) y0=none:=by rw[zu (aX h3)];exact h1
    refine⟨y0,vs,ts,_,upd H1 dx (.own y0),[],rfl,hn.1,I1.sB.trans sd,zt.new hy0 _,⟨C,dx,[],λ_=>some 0,hc,zw,I1.sB.free h1,hy0,rfl,⟨rfl,λ_ _=>rfl⟩,λm f d z=>by cases z⟩,r1, ?_⟩
    revert em';cases g [] ts with
    | bad=>exact λe=>by subst e;exact po1
    | ex c2=>exact λe=>by subst e;exact λd H' z1 z2=>po1 d H' ((I1.sH.trans sd).trans z1) z2
    | ok p=>
     obtain⟨t,fs2⟩:=p;cases t with
     | non=>
      intro e v H' B' z1 z2 z3 z4 z5 z6;cases z6;refine⟨rfl, ?_⟩;have em2:mr= .ok ((ρ.set j (.st (os++[(k,fs2)]))).set q (.ob k os.length)):=e.symm;subst em2;have S1:=I1.made (i:=q) ej hn.2.1 hn.2.2 sd z1 z2 z3 z4 z5;exact(po1.up z2) y0 H' B' k os.length (zt.refl _) S1 (aU (by rw[aF];exact hn.2.2))
     | _=>exact λe=>by subst e;exact po1.elim
   ·subst em';exact po1.elim
  ·subst em';exact po1.elim
end
section
end
section
theorem QY (I:SI Y B ρ σ H)(h:obL k i j ρ=some fs)(hl:fs.lookup f=some (.tl ts)):∃a C dx vs l xs,σ[i]? =some (some (V.ref a))/\Y.cl k= .ref C/\H a=some (.ins C dx vs)/\vs.lookup f=some (.ref l)/\H l=some (.lst xs)/\zB B xs ts:=by
 obtain⟨a,C,dx,vs,e1,e2,e3,e4,e5⟩:=I.obL h;obtain⟨m',v,z1,z2,z3⟩:=u8 (λm g e he=>let ⟨v,z,_⟩:=e5 m g e he;⟨v,z⟩) hl;obtain⟨v',y1,l,xs,rfl,y3,y4⟩:=e5 m' _ _ z1;rw[z2]at y1;cases y1;exact⟨a,C,dx,vs,l,xs,e1,e2,e3,z3,y3,y4⟩
def lsV (k i j:Nat)(f:Str):En->Option (List T):=λρ=>match obL k i j ρ with
 | some fs=>(match fs.lookup f with
  | some (.tl ts)=>some ts
  | _=>none)
 | none=>none
theorem uT (I:SI Y B ρ σ H)(h:lsV k i j f ρ=some ts):∃a C dx vs l xs,σ[i]? =some (some (V.ref a))/\Y.cl k= .ref C/\H a=some (.ins C dx vs)/\vs.lookup f=some (.ref l)/\H l=some (.lst xs)/\zB B xs ts:=by
 unfold lsV at h;split at h
 ·rename_i fs e;split at h
  ·rename_i us el;cases h;exact QY I e el
  ·cases h
 ·cases h
def xU (k i j:Nat)(f:Str):En->R T:=λρ=>match lsV k i j f ρ with
 | some ts=> .ok (.lst ts)
 | none=> .bad
def ixV (k i j:Nat)(f:Str)(fb:En->R T):En->R T:=λρ=>match lsV k i j f ρ with
 | some ts=>(fb ρ).bind λt=>match t with
  | .int q=>atT ts q
  | _=> .bad
 | none=> .bad
abbrev lcpV:=xU
theorem KK (hv:PE X (.Name x px) (jK i))(hc:Y.cl k= .ref C)(c:L2.Cls X.K C)(n:L2.NoAttr X.K C f)(hb:attributeBase (.Name x px) f X.env (eval (.Name x px) X.env)=eval (.Name x px) X.env:=by rfl):ji X Y (.Attribute (.Name x px) f pos) (xU k i j f):= .mk λρ=>PE.imp (JV hv hb) λσ H Q ⟨B,I,q⟩=>by
 unfold xU at q;split at q
 ·rename_i ts e;obtain⟨a,C',dx,vs,l,xs,e1,e2,e3,e4,p4,p5⟩:=uT I e;rw[hc]at e2;cases e2;exact⟨.ref a,e1,a,C,dx,vs,_,rfl,e3,c,n,e4,q _ H (zt.refl _) (.lst p4 (p5.mono I.sB))⟩
 ·exact q.elim
theorem z16 (hv:PE X (.Name x px) (jK i))(hc:Y.cl k= .ref C)(c:L2.Cls X.K C)(n:L2.NoAttr X.K C f)(hb:Snd X Y b fb)(hbf:attributeBase (.Name x px) f X.env (eval (.Name x px) X.env)=eval (.Name x px) X.env:=by rfl)(hs:Jq b:=by exact λ_ _=>rfl):Snd X Y (.Subscript (.Attribute (.Name x px) f p) b pos) (ixV k i j f fb):= .mk λρ=>
 PE.imp (Qm uv (JV hv hbf) (hb ρ) hs) λσ H Q ⟨B,I,q⟩=>by
  unfold ixV at q;split at q
  ·rename_i ts e;obtain⟨a,C',dx,vs,l,xs,e1,e2,e3,e4,hh,rr⟩:=uT I e;rw[hc]at e2;cases e2;refine⟨.ref a,e1,a,C,dx,vs,_,rfl,e3,c,n,e4,step I q λt' v' H2 _ s2 r2 I2 q2=> ?_⟩;cases r2 with
   | int j=>
    have q2:Po Y rC _ H2 (atT ts j) Q:=q2;unfold atT at q2;split at q2
    ·rename_i t e8;obtain⟨w,e9,e10⟩:=JY (rr.mono (zH.ge I.sB s2)) e8;exact .inl ⟨_,xs,j,w,rfl,rfl,SqL.of (s2 _ _ hh),e9,po0 I2.sB q2 rfl e10⟩
    ·exact q2.elim
   | _=>exact q2.elim
  ·exact q.elim
theorem KL (hv:PE X (.Name x px) (jK i))(hc:Y.cl k= .ref C)(c:L2.Cls X.K C)(n:L2.NoAttr X.K C f)(gl:Gl X "list")(mg:X.mg "list"=none)(hbf:attributeBase (.Name x px) f X.env (eval (.Name x px) X.env)=eval (.Name x px) X.env:=by rfl):Snd X Y (.Call (.Name "list" p) [.Attribute (.Name x px) f pf] [] pos) (lcpV k i j f):= .mk λρ=>
 PE.imp (Zd Zp gl mg (PyProof.Rows.Boot.«list») (zx (JV hv hbf) zM (st1 rfl)) (by decide) (by decide) (st1 rfl) rfl) λσ H Q ⟨B,I,q⟩=>by
  have q:Po Y rC B H (xU k i j f ρ) Q:=q;unfold xU at q;split at q
  ·rename_i ts e;obtain⟨a,C',dx,vs,l,xs,e1,e2,e3,e4,hh,rr⟩:=uT I e;rw[hc]at e2;cases e2;exact⟨.ref a,e1,a,C,dx,vs,_,rfl,e3,c,n,e4,l,xs,rfl,.inl (SqL.of hh),λl' hl' =>q _ _ (zt.new hl' _) (.lst (by rw[zW hl'];exact zw) (rr.mono (zH.ge I.sB (zt.new hl' _))))⟩
  ·exact q.elim
end
section
end
section
variable {X:Cx}{Y:Fx}{a b:Expr}{rest:List Expr}{pos p px py pz pt pt2 p1 p2:Pos}{i j k kt k2:Nat}{x y z:Str}{fa:En->R T}
def Gm (i:Nat):En->R T:=λρ=>match ρ[i]? with
 | some (.ow ts)=> .ok (.lst ts)
 | _=> .bad
theorem KM (hv:PE X (.Name x px) (jK i))(gl:Gl X "list")(mg:X.mg "list"=none):Snd X Y (.Call (.Name "list" p) [.Name x px] [] pos) (Gm i):= .mk λρ=>
 PE.imp (Zd Zp gl mg (PyProof.Rows.Boot.«list») (zx hv zM (st1 rfl)) (by decide) (by decide) (st1 rfl) rfl) λσ H Q ⟨B,I,q⟩=>by
  unfold Gm at q;split at q
  ·rename_i ts e;obtain⟨a,xs,e1,e2,e3,e4,e5,_⟩:=I.ow i ts e;exact⟨.ref a,e1,a,xs,rfl,.inl (SqL.of e4),λl' hl' =>q _ _ (zt.new hl' _) (.lst (by rw[zW hl'];exact zw) (e5.mono (zH.ge I.sB (zt.new hl' _))))⟩
  ·exact q.elim
def Gn (i:Nat):En->R T:=λρ=>match ρ[i]? with
 | some (.ow ts)=> .ok (.tup ts)
 | _=> .bad
theorem KN (hv:PE X (.Name x px) (jK i))(gl:Gl X "tuple")(mg:X.mg "tuple"=none):Snd X Y (.Call (.Name "tuple" p) [.Name x px] [] pos) (Gn i):= .mk λρ=>
 PE.imp (Zd jw gl mg (PyProof.Rows.Boot.«tuple») (zx hv zM (st1 rfl)) (by decide) (by decide) (st1 rfl) rfl) λσ H Q ⟨B,I,q⟩=>by
  unfold Gn at q;split at q
  ·rename_i ts e;obtain⟨a,xs,e1,e2,e3,e4,e5,_⟩:=I.ow i ts e;exact⟨.ref a,e1,a,xs,rfl,.inl ⟨SqL.of e4,λl' hl' =>q _ _ (zt.new hl' _) (.tup (by rw[zW hl'];exact zw) (e5.mono (zH.ge I.sB (zt.new hl' _))))⟩⟩
  ·exact q.elim
end
end PV
namespace PV
open PySem PySem.Spec PyProof.Rows L2
section
end
section
end
end PV
namespace PV
open PySem PySem.Spec PyProof.Rows L2 PySem.W
section
end
section
end
section
variable {Z:Zz}{x:Str}{st:Stmt}{ps:List Str}{k n m:Nat}{fb:En->RS}{f c:Addr}{fd:FuncData}{Pt:Addr}
theorem z17 (C:Fn Z.K Z.mg x st ps f fd)(ec:fd.code= .ref c)(hd:codeHdIn Z.K c Pt=true)(hBT:Z.base.BuiltinsAt Z.mg Pt)(N:List Str) (hb:∀(A:Around) (outer:List Env) (s:Shared) (H:Hp) (E:XK) (Y:Fx),Lm (jv (CX1 Z.P Z.w) Z.P Z.w Z.K Z.mg Z.base N x (zq st) f (.ref c) A outer s H E) c Pt (qlT x)->Y.H0 Pt=some (.tbl #[] (qlT x))->Y.cl=Z.cl->Y.E=E->Zy k (A.deeper (envOfC x (zq st) s.heap.objs.size f (.ref c)))->N.Nodup->Z9 (CX1 Z.P Z.w) (jv (CX1 Z.P Z.w) Z.P Z.w Z.K Z.mg Z.base N x (zq st) f (.ref c) A outer s H E) Y.E->
   JZ (jv (CX1 Z.P Z.w) Z.P Z.w Z.K Z.mg Z.base N x (zq st) f (.ref c) A outer s H E) Y (zK st) fb)
  (S:Sc N ps st:=by refine⟨rfl,rfl,rfl, ?_,rfl, ?_, ?_⟩ <;> decide+kernel) (hn:n=ps.length:=by rfl) (hm:m=N.length:=by rfl):ZX Z.P Z.w Z.K Z.mg Z.base (CX1 Z.P Z.w) (k+1) f fd ps (vY Z.cl n (oS m fb) Pt (qlT x)):=by
 subst hm;exact xR C.F ec S hn (λA outer s H E Y hy hE hT hr=>hb A outer s H E Y ⟨rfl,hd,hBT,rfl⟩ hT hy hE hr S.nd (hE ▸ UB)) λ_ _=>rfl
end
section
end
def LamF (P:Program)(w:World)(K:Frag)(mg:Str->Option Value)(base:Heap)(k:Nat)(f:Addr)(H:Hp)(ts:List T):Prop:=∀(A:Around) (outer:List Env) (s:Shared) (H1:Hp) (Q' :VK),Zy (k+1) A->Uw P w K mg base A outer s H1->zt H H1->(∀a xs H',zt H1 H' ->H1 a=none->H' a=some (.lst xs)->zB (del H' a) xs ts->Q' (.ref a) H')->codeAny (model P w) A (.call (.ref f) ⟨[],[]⟩) (CR (CX1 P w) outer P w H1 s Q' (λ_ _ _=>False)) s
def spS (P:Program)(w:World)(K:Frag)(mg:Str->Option Value)(base:Heap)(k:Nat)(f:Addr)(o:Obj):Sp:=λvs H Q _=>vs=[V.ref f]/\H f=some (.frz o (.own f))/\∃ts b,ts.length < bnd/\eqC (.lst ts) (.lst ts)= .ok b/\LamF P w K mg base k f H ts/\∀H',zt H H' ->Q (.bl b) H'
structure QS (x:Str) (k:Nat) (Z:Zz):Prop where
 ex:∃st d f fd,Fn Z.K Z.mg x st [d] f fd/\∀(base:Heap) (fl c' :Addr) (q:Str) (params:Arguments) (body:Expr) (scope:Scope) (clos:List (Str×Addr)) (pm ctv:Value),Z.K.In base->ZX Z.P Z.w Z.K Z.mg base CX0 (k+2) f fd [d] (spS Z.P Z.w Z.K Z.mg base k fl (QW q params body scope clos pm ctv c'))
theorem okSt {Z:Zz}{x:Str}{st:Stmt}{k:Nat}{d n m:Str}{q1 q2 q3 q4 q5 q6 q7 q8 q9 q10 q11 q12 q13 q14 q15 q16 q17 q18 q19 q20 q21 q22 q23 q24 q25 q26 q27:Pos}{k1 k2:Nat}(F:FE Z.K Z.mg x st [d])(hlm:Z.mg "list"=none)(him:Z.mg "isinstance"=none)(hk:∀t,bi Z.K (.type (tyN t)) (.type "list")=some (isT "list" t))
  (S:Sc [d,n,m] [d] st) (hst:zK st=[.Assign [.Name n q1] (.Call (.Name d q2) [] [] q3) q4,
   .If (.UnaryOp .Not (.Call (.Name "isinstance" q5) [.Name n q6,.Name "list" q7] [] q8) q9) [.Return (some (.Constant (.bool false) k1 q10)) q11] [] q12,
   .Assign [.Name m q13] (.Call (.Name "list" q14) [.Name n q15] [] q16) q17,
   .Expr (.Call (.Attribute (.Name n q18) "append" q19) [.Constant (.str "?") k2 q20] [] q21) q22,
   .Return (some (.Compare (.Call (.Name d q23) [] [] q24) [.Eq] [.Name m q25] q26)) q27])
  (hd:(zq st).names.lookup d=some .local) (hn:(zq st).names.lookup n=some .local) (hm:(zq st).names.lookup m=some .local) (hgl:(zq st).names.lookup ("list":Str)=some .globalImplicit) (hgi:(zq st).names.lookup ("isinstance":Str)=some .globalImplicit) (hz:(q19.endLine == q21.line)=true)
  (h1:(d == ("__debug__":Str))=false:=by decide) (h2:(d == ("__classdict__":Str))=false:=by decide) (h3:(n == ("__debug__":Str))=false:=by decide) (h4:(n == ("__classdict__":Str))=false:=by decide) (h5:(m == ("__debug__":Str))=false:=by decide) (h6:(m == ("__classdict__":Str))=false:=by decide):QS x k Z:=by
 obtain⟨ft,fdt,F⟩:=F;refine⟨_,_,ft,fdt,F,λbase f c' q params body scope clos pm ctv KB=> ?_⟩;refine F.F.ok S (λvs H Q E ⟨e,_⟩=>by rw[e];rfl) λcdv A outer s H vs Q E hr ⟨e,hf,ts,b,hlen,heq,lam,hQ⟩=> ?_
 subst e;rw[hst];have gl:Gl (jv CX0 Z.P Z.w Z.K Z.mg base [d,n,m] x (zq st) ft cdv A outer s H E).nox "list":=hgl;have gi:Gl (jv CX0 Z.P Z.w Z.K Z.mg base [d,n,m] x (zq st) ft cdv A outer s H E).nox "isinstance":=hgi;have hx:Z9 (CX1 Z.P Z.w) (jv CX0 Z.P Z.w Z.K Z.mg base [d,n,m] x (zq st) ft cdv A outer s H E).nox (λ_ _ _=>False):=λ_ _ _ _ _ _ _ ⟨_,_,_,_,_,_,_,z⟩=>z.elim;have vd:∀{p},PE (jv CX0 Z.P Z.w Z.K Z.mg base [d,n,m] x (zq st) ft cdv A outer s H E).nox (.Name d p) (jK 0):=W6 rfl (.inl hd) h1 h2;have vn:∀{p},PE (jv CX0 Z.P Z.w Z.K Z.mg base [d,n,m] x (zq st) ft cdv A outer s H E).nox (.Name n p) (jK 1):=W6 rfl (.inl hn) h3 h4;have vm:∀{p},PE (jv CX0 Z.P Z.w Z.K Z.mg base [d,n,m] x (zq st) ft cdv A outer s H E).nox (.Name m p) (jK 2):=W6 rfl (.inl hm) h5 h6;have e1:(((((backTo q21 (starEach [.Constant (.str "?") k2 q20] (jv CX0 Z.P Z.w Z.K Z.mg base [d,n,m] x (zq st) ft cdv A outer s H E).nox.env)).all λx=> !x.fst) && (backToKw q21 (keywordEach [] (jv CX0 Z.P Z.w Z.K Z.mg base [d,n,m] x (zq st) ft cdv A outer s H E).nox.env)).all λx=>x.fst.isSome) && decide (([Expr.Constant (.str "?") k2 q20].length+([]:List Keyword).length+if ([]:List Keyword).isEmpty=true then 0 else 1) < 30))=true):=by rw[st1 rfl];rfl
 refine⟨_,j9 (JR S.nd (i:=1) rfl (.inl hn) (Yv (f:=f) (c' :=c') (q:=q) (params:=params) (body:=body) (scope:=scope) (clos:=clos) (pm:=pm) (ctv:=ctv) vd hx) rfl (.inr hn))
  (j9 (k3 (vx (uq (ZS uy gi him PyProof.Rows.Boot.«isinstance» (zx vn (zx (wt (v:= .ty "list") gl hlm PyProof.Rows.Boot.«list» rfl (by decide) (by decide)) zM (st1 rfl)) (zN rfl)) (by decide) (by decide) (zN rfl) (Zf rfl)) (by intro _;rfl))) (wu (jY XU)) WS)
  (j9 (JR S.nd (i:=2) rfl (.inl hm) (Zd Zp gl hlm PyProof.Rows.Boot.«list» (zx vn zM (st1 rfl)) (by decide) (by decide) (st1 rfl) rfl) rfl (.inr hm))
  (j9 (jL (UA bI cR cS jy vn (zx ym zM (st1 rfl)) rfl e1 hz (st1 rfl) rfl) rfl)
  (wu (jY (yw (yS hr.units) (Yv (f:=f) (c' :=c') (q:=q) (params:=params) (body:=body) (scope:=scope) (clos:=clos) (pm:=pm) (ctv:=ctv) vd hx) vm rfl)))))), ?_⟩
 refine⟨by unfold L2.start;rfl,hf,λs2 e0=>lam _ _ s2 H _ hr e0 (zt.refl _) λa xs H1 z1 n1 x1 r1=> ?_⟩
 have d1:zt (del H1 a) H1:=λb o h=>by
  by_cases hb:b=a
  ·rw[hb,xx]at h;cases h
  ·rw[QF hb]at h;exact h
 refine⟨.ref a,rfl,.ref a,"list",.lst ts,rfl,.lst x1 (r1.mono d1),hk _,true,rfl, ?_⟩;refine⟨.ref a,rfl,a,xs,rfl,.inl (SqL.of x1),λl hl=> ?_⟩;have hla:l ≠ a:=λz=>by rw[z,x1]at hl;cases hl
 have x2:upd H1 l (HO.lst xs) a=some (.lst xs):=by rw[zu (aX hla)];exact x1
 refine⟨.ref a,rfl,.inl ⟨rfl,_,SqL.of x2⟩,a,xs,_,rfl,rfl,x2,by rw[r1.length];exact Y1 hlen, ?_⟩
 have keep:∀b o,H1 b=some o->b ≠ a->upd (upd H1 l (HO.lst xs)) a (HO.lst (xs++[V.str "?"])) b=some o:=λb o h hb=>by
  rw[zu hb,zu (λz=>by rw[z,hl]at h;cases h)];exact h
 have s3:zt H (upd (upd H1 l (HO.lst xs)) a (HO.lst (xs++[V.str "?"]))):=λb o h=>keep b o (z1 b o h) λz=>by rw[z,n1]at h;cases h
 refine⟨rfl,s3 _ _ hf,λs3' e03=>lam _ _ s3' _ _ hr e03 s3 λa2 xs2 H4 z4 n4 x4 r4=>⟨.ref l,rfl,.lst ts,.lst ts,b,.lst x4 (r4.mono λb o h=> ?_),.lst (z4 _ _ (by rw[zu hla,zw])) (r1.mono λb o h=> ?_),heq,hQ _ (s3.trans z4)⟩⟩
 ·by_cases hb:b=a2
  ·rw[hb,xx]at h;cases h
  ·rw[QF hb]at h;exact h
 ·by_cases hb:b=a
  ·rw[hb,xx]at h;cases h
  ·rw[QF hb]at h;exact z4 _ _ (keep b o h hb)
def YF (k i j:Nat)(f:Str):En->RS:=λρ=>match lsV k i j f ρ with
 | some ts=> .rf ts
 | none=> .bad
def UQ (fa:En->R T):En->RS:=λρ=>(fa ρ).s λt=>match t with
 | .lst ts=> .rf ts
 | _=> .bad
section
theorem xV (hv:PE X (.Name x px) (jK i))(hc:Y.cl k= .ref C)(c:L2.Cls X.K C)(n:L2.NoAttr X.K C f)(gl:Gl X "list")(mg:X.mg "list"=none)(hbf:attributeBase (.Name x px) f X.env (eval (.Name x px) X.env)=eval (.Name x px) X.env:=by rfl):jA X Y (.Return (some (.Call (.Name "list" p) [.Attribute (.Name x px) f pf] [] pos)) rp) (YF k i j f):= .mk λρ=>
 PS.imp (jY (Zd Zp gl mg (PyProof.Rows.Boot.«list») (zx (JV hv hbf) zM (st1 rfl)) (by decide) (by decide) (st1 rfl) rfl)) λD σ H ⟨B,I,q⟩=>by
  unfold YF at q;split at q
  ·rename_i ts e;obtain⟨a,C',dx,vs,l,xs,e1,e2,e3,e4,hh,rr⟩:=uT I e;rw[hc]at e2;cases e2;exact⟨.ref a,e1,a,C,dx,vs,_,rfl,e3,c,n,e4,l,xs,rfl,.inl (SqL.of hh),λl' hl' =>q l' xs _ B (I.sH.trans (zt.new hl' _)) (I.sH.free hl') zw rr (I.sB.free hl') ((zH.ge I.sB (zt.new hl' _)).trans (Wn I.sH I.old (zt.new hl' _) I.sB))⟩
  ·exact q.elim
theorem xW (gl:Gl X "list")(mg:X.mg "list"=none)(ha:Snd X Y a fa)(hs:St1 X a:=by exact st1 rfl):jA X Y (.Return (some (.Call (.Name "list" p) [a] [] pos)) rp) (UQ fa):= .mk λρ=>
 PS.imp (jY (Zd Zp gl mg (PyProof.Rows.Boot.«list») (zx (ha ρ) zM hs) (by decide) (by decide) hs rfl)) λD σ H ⟨B,I,q⟩=>ZZ I q λt v H1 _ s1 r1 I1 q1=>by
  cases r1 with
  | @lst l xs ts hh rr=>exact⟨l,xs,rfl,.inl (SqL.of (I1.sB _ _ hh)),λl' hl' =>q1 l' xs _ _ (I1.sH.trans (zt.new hl' _)) (I1.sH.free hl') zw rr (I1.sB.free hl') ((zH.ge I1.sB (zt.new hl' _)).trans (Wn I1.sH I1.old (zt.new hl' _) I1.sB))⟩
  | _=>exact q1.elim
end
theorem V4:WR (YF k i j f):=λρ t e=>by
 unfold YF at e;split at e <;> cases e
theorem V5:WR (UQ fa):=λρ t e=>by
 unfold UQ at e;cases q:fa ρ with
 | ok t=>rw[q]at e;cases t <;> cases e
 | ex c=>rw[q]at e;cases e
 | bad=>rw[q]at e;cases e
def spOF (cl:Nat->Value)(k:Nat)(g:List (Str×Fd)->R T):Sp:=λvs H Q E=>∃(x C dx:Addr) (us:List (Str×V)) (B:Hp) (fs:List (Str×Fd)),vs=[.ref x]/\cl k= .ref C/\H x=some (.ins C dx us)/\InC us/\FsO B H us fs/\zt B H/\PoF ⟨B,H,E,cl,[]⟩ B H (g fs) Q
def oOF (k m:Nat)(b:En->RS):List (Str×Fd)->R T:=λfs=>zy (b (enO k m fs [] []))
abbrev qOF (Z:Zz)(c:Nat)(x:Str)(k:Nat)(g:List (Str×Fd)->R T):Prop:=QM x c k (spOF Z.cl c g) Z
theorem okOF {Z:Zz}{x q0:Str}{st:Stmt}{c k m:Nat}{fb:En->RS}{as:List Str}(nr:WR fb)(ca:CA c as Z.K Z.cl)(C:FM Z.K Z.cl c x st [q0])(N:List Str)(hb:∀q,BM Z k q st N λX Y=>JZ X Y (zK st) fb)
  (S:Sc N [q0] st:=by refine⟨rfl,rfl,rfl, ?_,rfl, ?_, ?_⟩ <;> decide+kernel) (hm:N.length=1+m:=by rfl):qOF Z c x (k+1) (oOF c m fb):=by
 obtain⟨C,q,f,fd,e,M⟩:=C;obtain⟨C',e',cl,_⟩:=ca;rw[e]at e';cases e';refine⟨C,q,_,_,f,fd,e,cl,M, ?_⟩;refine Fun.okX M.F S (λvs H Q E z=> ?_) λcdv A outer s H vs Q E hr z=> ?_
 ·obtain⟨x,C,dx,us,B,fs,e,_⟩:=z;rw[e];rfl
 obtain⟨x,C,dx,us,B,fs,e,hc,hx,hi,hf,sB,q1⟩:=z;subst e;exact⟨_,hb q f cdv A _ s H E _ rfl rfl hr S.nd UB _,B,SI.startO (vs1:=[]) (vs2:=[]) (N:=N) (by rw[hm];rfl) sB hc hx hi hf .nil .nil,vS (Y:=⟨B,H,E,Z.cl,[]⟩) (H:=H) (nr _) q1⟩
def wf (r:R T):R T:=match r with
 | .ok (.lst ts)=>if ts.length < bnd then (eqC (.lst ts) (.lst ts)).bind λb=> .ok (.bl b) else .bad
 | _=> .bad
theorem Wu (h:Po Y rC B H (wf r) Q):∃ts b,r= .ok (.lst ts)/\ts.length < bnd/\eqC (.lst ts) (.lst ts)= .ok b/\∀H',zt H H' ->Q (.bl b) H' :=by
 unfold wf at h;split at h
 ·rename_i ts;split at h
  ·rename_i hl;cases e:eqC (.lst ts) (.lst ts) with
   | bad=>rw[e]at h;exact h.elim
   | ex c=>exact absurd e (VP _ _ _)
   | ok b=>rw[e]at h;exact⟨ts,b,rfl,hl,e,λH' s=>h _ H' s (.bl b)⟩
  ·exact h.elim
 ·exact h.elim
def jE (k i j:Nat)(g:List (Str×Fd)->R T):En->R T:=λρ=>match obL k i j ρ with
 | some fs=>wf (g fs)
 | none=> .bad
def uU (js:List Nat)(n:Nat)(g:List T->R T)(ga:En->R (List T)):En->R T:=λρ=>wf (za n g ga (Jb 0 js ρ))
theorem V6 (sB:zt B H)(s:zt H H')(b0:B' a=none)(l:zt B' (zH B H H')):zt B' (del H' a):=λb o h=>by
 have hb:b ≠ a:=λz=>by rw[z,b0]at h;cases h
 rw[QF hb];have:=l b o h;cases q:H b with
 | none=>rw[zW q]at this;exact this
 | some u=>rw[Z1 q]at this;exact s _ _ (sB _ _ this)
section
theorem YG {P:Program}{w:World}{K:Frag}{mg:Str->Option Value}{base:Heap}{A:Around}{outer:List Env}{s:Shared}{H H2:Hp}{scope:Scope}{clos:List (Str×Addr)}{N:List Str}{σ:Sg}(L:Ws base H scope clos N σ)(e0:Uw P w K mg base A outer s H2):Ws base H2 scope clos N σ:=
 ⟨L.inj,L.has,λx c e=>let ⟨⟨v,o,ho,hd⟩,_⟩:=L.cell x c e;⟨⟨v,o,ho,hd⟩,(e0.bs c o ho).2⟩,L.loc,L.len⟩
theorem uV {gO:List (Str×Fd)->R T}{pl:Nat->Addr->Value->List (Str×Addr)->Sem Bool}(L:Lm X c P q)(hT:Y.H0 P=some (.tbl #[] q))(hy:Y.cl=cl)
  (O:QS x kE ⟨X.prog,X.w,X.K,X.mg,X.base,cl⟩) (UO:∀b,X.K.In b->QM m ko kO (spOF cl ko gO) ⟨X.prog,X.w,X.K,X.mg,b,cl⟩) (hr:Zy k X.A)
  (hck:V3 X.N (nms X.N [i]) X.env.scope scope 0 [i]=true) (hvx:(X.N[i]? == some v && !scope.isCoroutine && !scope.isGenerator)=true)
  (hj:kE+2<=k:=by omega) (hO:kO<=kE:=by omega) (gl:Gl X x:=by rfl) (hfn:∀x,X.fn x=true:=by exact λ_=>rfl)
  (hp:∀(body:Expr) (clos:List (Str×Addr)) (pm cd ctv:Value),bindArgs (kla_fn "<lambda>" q params body scope clos pm cd ctv) ⟨[],[]⟩=pure []:=by intros;rfl) (hdef:defaultsOf params X.env=([],[]):=by rfl) (hd:(x == ("__debug__":Str))=false:=by decide) (hd2:(v == ("__debug__":Str))=false:=by decide) (hd3:(v == ("__classdict__":Str))=false:=by decide) (hna:m ∉ vD:=by decide)
  (ht:∀n f cd clos,eval (.Call (.Attribute (.Name v px) m ap) [] [] pos') (envX q scope n f cd clos)=(do
   let ov ← eval (.Name v px) (envX q scope n f cd clos)
   standAt ap.atName
   let (f',first) ← holding [ov] (getMethod ov m (pl n f cd clos))
   callWith pos' f' first (backTo pos' (starEach [] (envX q scope n f cd clos))) (backToKw pos' (keywordEach [] (envX q scope n f cd clos)))):=by intros;rfl):
  Snd X Y (.Call (.Name x p) [.Lambda params (.Call (.Attribute (.Name v px) m ap) [] [] pos') scope lp] [] pos) (jE ko i j gO):= .mk λρ=>by
 intro pins s σ H Q I ⟨B,J,po⟩;subst hy;rw[V3,ac]at hck;have hck:=hck.1;rw[ac]at hck;rw[ac,ac]at hvx;have hNi:X.N[i]? =some v:=eq_of_beq hvx.1.1;have CS:=Y8 _ rfl hck.1;have CP:=wF _ _ rfl rfl hck.2;have hN' :nms X.N [i]=[v]:=by simp[nms,hNi]
 have S:LSc scope:=⟨CS.kind,by simpa using hvx.1.2,by simpa using hvx.2,CS.nocell⟩
 obtain⟨clos,ecl,hcl,hcf⟩:=wA λx hx hf=>I.ok.has x.1 (CS.fre x hx hf);obtain⟨⟨_,dn,ft,fdt,CT,O⟩⟩:=O;have po:Po Y rC B H (jE ko i j gO ρ) Q:=po;unfold jE at po;split at po
 case h_2=>exact po.elim
 rename_i fs eD;obtain⟨ts,b,eg,hlen,heq,hQ⟩:=Wu po;refine bq (Jl I gl CT.m ?_ hd);have hP:=J.sH _ _ hT;have hpa:=zx (vW (body:= .Call (.Attribute (.Name v px) m ap) [] [] pos') (pos:=lp) L hdef ecl) zM (st1 rfl) pos _ s σ H (λvs H1=>∃f c' pm ctv,vs=[V.ref f]/\zt H H1/\H1 f=some (.frz (QW q _ _ _ _ pm ctv c') (.own f))/\Jw H1 q c') I ⟨hP,λf c' pm ctv H' s1 hf hc=>⟨f,c',pm,ctv,rfl,s1,hf,hc⟩⟩;refine callWith_K I.ok.mod.kin CT.F.kp (thn hpa λus s1 ⟨vs,H1,I1,r,f,c',pm,ctv,e,sm,hf,hc⟩=>⟨I1.kIn, ?_⟩) (st1 rfl) rfl;subst e;have J1:=J.grow sm;obtain⟨a',C',dx,ws,e1,e2,e3,e4,e5⟩:=J1.obL eD;have hσ:(JK 0 [i] σ)[0]? =some (some (V.ref a')):=by simp[JK,e1]
 have fr:scope.names.lookup v=some .free:=by
  obtain⟨y,y1,y2,y3,y4,y5⟩:=CP.cap 0 i rfl;rw[hNi]at y2;cases y2;exact y4
 refine Yt (E:=Y.E) I1 (O _ f c' q _ _ _ _ pm ctv I1.big.mod.kin) (hr.mono hj) CT.b xi r ⟨rfl,hf,ts,b,hlen,heq,λA outer s2 H2 Q' hrm e0 sm2 hQ' => ?_,λH' s' =>hQ H' (sm.trans s')⟩;have hv:∀E',PE (cxL X.prog X.w X.K X.mg (Q5 s1 H1 (frs X.stack)) (nms X.N [i]) q scope f (.ref c') clos A outer s2 H2 E') (.Name v px) (jK 0):=λE' =>W6 (by show (nms X.N [i])[0]? =_;rw[hN'];rfl) (.inr (.inr fr)) hd2 hd3
 obtain⟨⟨C2,_,_,ps,fm,fdm,c1,c2,c3,FO⟩⟩:=UO _ e0.mod.kin;have e2:=(show Y.cl ko= .ref C2 from c1).symm.trans e2;cases e2;refine Yu S hrm e0 (YG (vX I1 hfn hcl hcf CP) e0) (sm2 _ _ hf) (hc.mono sm2) (hp _ _ pm _ ctv) (ut (hv _) c2 c3.m FO ((hrm.deeper _).mono hO) c3.b .nil Ky (ht _ _ _ _)) ⟨.ref a',hσ,a',dx,ws,rfl,sm2 _ _ e3,e4 m hna,a',_,dx,ws,_,fs,rfl,c1,sm2 _ _ e3,e4,e5.mono (zt.refl _) sm2,J1.sB.trans sm2, ?_⟩;rw[eg];exact λa xs H' B' z1 z2 z3 z4 z5 z6=>hQ' a xs H' z1 z2 z3 (z4.mono (V6 (J1.sB.trans sm2) z1 z5 z6))
theorem QZ {js:List Nat}(L:Lm X c P q)(hT:Y.H0 P=some (.tbl #[] q))(hy:Y.cl=cl)
  (O:QS x kE ⟨X.prog,X.w,X.K,X.mg,X.base,cl⟩) (UF:∀b,X.K.In b->QQ y (CX1 X.prog X.w) kF (spF cl n g) ⟨X.prog,X.w,X.K,X.mg,b,cl⟩) (hr:Zy k X.A)
  (hck:V3 X.N (nms X.N js) X.env.scope scope 0 js=true) (hvx:(!scope.isCoroutine && !scope.isGenerator)=true)
  (ha:∀(base:Heap) (A:Around) (outer:List Env) (s:Shared) (H:Hp) (E:XK) (f c' :Addr) (clos:List (Str×Addr)) (Y' :Fx),X.K.In base->Y'.cl=cl->Y'.E=E->Zy kE (A.deeper (envX q scope s.heap.objs.size f (.ref c') clos))->W3 (cxL X.prog X.w X.K X.mg base (nms X.N js) q scope f (.ref c') clos A outer s H E) Y' (a :: es) ga)
  (hgl:scope.names.lookup y=some .globalImplicit:=by rfl)
  (hj:kE+2<=k:=by omega) (hF:kF<=kE:=by omega) (gl:Gl X x:=by rfl) (hfn:∀x,X.fn x=true:=by exact λ_=>rfl)
  (hp:∀(body:Expr) (clos:List (Str×Addr)) (pm cd ctv:Value),bindArgs (kla_fn "<lambda>" q params body scope clos pm cd ctv) ⟨[],[]⟩=pure []:=by intros;rfl) (hdef:defaultsOf params X.env=([],[]):=by rfl) (hd:(x == ("__debug__":Str))=false:=by decide) (hd2:(y == ("__debug__":Str))=false:=by decide)
  (hs:∀e,starEach (a :: es) e=(false,eval a e) :: starEach es e:=by intro _;exact zN rfl) (hz:∀e,((backTo pos' (starEach es e)).any λx=>x.fst)=false:=by intro _;exact Zf rfl):
  Snd X Y (.Call (.Name x p) [.Lambda params (.Call (.Name y px) (a :: es) [] pos') scope lp] [] pos) (uU js n g ga):= .mk λρ=>by
 intro pins s σ H Q I ⟨B,J,po⟩;subst hy;rw[V3,ac]at hck;have hck:=hck.1;rw[ac]at hck;rw[ac]at hvx;have CS:=Y8 _ rfl hck.1;have CP:=wF _ _ rfl rfl hck.2;have S:LSc scope:=⟨CS.kind,by simpa using hvx.1,by simpa using hvx.2,CS.nocell⟩
 obtain⟨clos,ecl,hcl,hcf⟩:=wA λx hx hf=>I.ok.has x.1 (CS.fre x hx hf);obtain⟨⟨_,dn,ft,fdt,CT,O⟩⟩:=O;obtain⟨ts,b,eg,hlen,heq,hQ⟩:=Wu (show Po Y rC B H (wf (za n g ga (Jb 0 js ρ))) Q from po);refine bq (Jl I gl CT.m ?_ hd);have hP:=J.sH _ _ hT;have hpa:=zx (vW (body:= .Call (.Name y px) (a :: es) [] pos') (pos:=lp) L hdef ecl) zM (st1 rfl) pos _ s σ H (λvs H1=>∃f c' pm ctv,vs=[V.ref f]/\zt H H1/\H1 f=some (.frz (QW q _ _ _ _ pm ctv c') (.own f))/\Jw H1 q c') I ⟨hP,λf c' pm ctv H' s1 hf hc=>⟨f,c',pm,ctv,rfl,s1,hf,hc⟩⟩;refine callWith_K I.ok.mod.kin CT.F.kp (thn hpa λus s1 ⟨vs,H1,I1,r,f,c',pm,ctv,e,sm,hf,hc⟩=>⟨I1.kIn, ?_⟩) (st1 rfl) rfl;subst e;have J1:=J.grow sm;refine Yt (E:=Y.E) I1 (O _ f c' q _ _ _ _ pm ctv I1.big.mod.kin) (hr.mono hj) CT.b xi r ⟨rfl,hf,ts,b,hlen,heq,λA outer s2 H2 Q' hrm e0 sm2 hQ' => ?_,λH' s' =>hQ H' (sm.trans s')⟩;obtain⟨⟨_,ps,fm,fdm,CF,FF⟩⟩:=UF _ e0.mod.kin;have gy:Gl (cxL X.prog X.w X.K X.mg (Q5 s1 H1 (frs X.stack)) (nms X.N js) q scope f (.ref c') clos A outer s2 H2 (λ_ _ _=>False)) y:=hgl;refine Yu S hrm e0 (YG (vX I1 hfn hcl hcf CP) e0) (sm2 _ _ hf) (hc.mono sm2) (hp _ _ pm _ ctv) (yF FF ((hrm.deeper _).mono hF) gy CF.m CF.F.kp CF.b .nil Ky (ha _ A _ s2 H2 _ f c' _ ⟨zH B H H1,H1,λ_ _ _=>False,Y.cl,[]⟩ e0.mod.kin rfl rfl (hrm.deeper _) (Jb 0 js ρ)) hd2 (hs _) (hz _)) ⟨_,J1.blockS 0 js _ sm2, ?_⟩;unfold za at eg;cases ea:ga (Jb 0 js ρ) with
 | bad=>rw[ea]at eg;cases eg
 | ex c=>rw[ea]at eg;cases eg
 | ok us=>
  rw[ea]at eg;intro vs H3 s3 r3;have eg:(if us.length=n then g us else .bad)= .ok (.lst ts):=eg
  split at eg
  ·rename_i hn;rw[aW];have sG:=zH.le (J1.sB.trans sm2) s3;refine⟨_,us,hn,sG,r3, ?_⟩;rw[eg];exact λa xs H' B' z1 z2 z3 z4 z5 z6=>hQ' a xs H' (s3.trans z1) (s3.free z2) z3 (z4.mono (V6 sG z1 z5 z6))
  ·cases eg
end
def UR (i i2 i3 q:Nat)(fa:En->R T)(m:En->R En)(gb:En->R (List T)):En->RS:=λρ=>(fa ρ).s λt=>(m ρ).s λρ1=>(gb ρ1).s λts=>match ρ1[q]? with
 | some (.ob k n)=>if ts.length<=bnd then .nx ((((ρ1.set i (.vl t)).set i2 (.ob k n)).set i3 (.ow ts)).set q .un) else .bad
 | _=> .bad
theorem xX {m:En->R En}(hc' :X.calm=true)(hN:X.N.Nodup)(hi:X.N[i]? =some x)(hi2:X.N[i2]? =some y)(hi3:X.N[i3]? =some z)(h12:i2 ≠ i)(h13:i3 ≠ i)(h23:i3 ≠ i2)(hx:L2.Loc X.env.scope x)(hy:L2.Loc X.env.scope y)(hz:L2.Loc X.env.scope z)(hq:X.N[q]? =some w)(hw' :X.env.scope.names.lookup w=none)
  (ha:Snd X Y a fa) (hm:xT X Y b q m) (hb:W3 X Y es gb)
  (hf:X.fn x=true\/X.env.scope.names.lookup x=some .local:=by first | exact .inl rfl | exact .inr rfl) (hf2:X.fn y=true\/X.env.scope.names.lookup y=some .local:=by first | exact .inl rfl | exact .inr rfl) (hf3:X.fn z=true\/X.env.scope.names.lookup z=some .local:=by first | exact .inl rfl | exact .inr rfl)
  (hs1:starEach [a,b,.List es pl] X.env=(false,eval a X.env) :: starEach [b,.List es pl] X.env:=by exact zN rfl) (hs2:starEach [b,.List es pl] X.env=(false,eval b X.env) :: starEach [.List es pl] X.env:=by exact zN rfl) (hs3:starEach [.List es pl] X.env=(false,eval (.List es pl) X.env) :: starEach [] X.env:=by exact zN rfl)
  (hs:swapsWithSole [.Tuple [.Name x px,.Name y py,.Name z pz] kt pt] (.Tuple [a,b,.List es pl] k2 pt2) pos.line X.env=pure false:=by rfl) (hw:swappedStores [.Tuple [.Name x px,.Name y py,.Name z pz] kt pt] (.Tuple [a,b,.List es pl] k2 pt2) X.env=pure none:=by rfl)
  (h1:(assignEach [.Tuple [.Name x px,.Name y py,.Name z pz] kt pt] X.env).map (·.2)=[assign (.Tuple [.Name x px,.Name y py,.Name z pz] kt pt) X.env]:=by rfl):
  jA X Y (.Assign [.Tuple [.Name x px,.Name y py,.Name z pz] kt pt] (.Tuple [a,b,.List es pl] k2 pt2) pos) (UR i i2 i3 q fa m gb):= .mk λρ=>by
 have hrest:PA X [.List es pl] (match m ρ with | .ok ρ1=>(λσ H Q=>z03 (tS Y rCs gb ρ1) σ H λv H1=>Q [v] H1) | _=>λ_ _ _=>False):=by
  cases m ρ with
  | ok ρ1=>exact zx (ur (hb ρ1)) zM hs3
  | ex c=>exact λ_ _ _ _ _ _ _ h=>h.elim
  | bad=>exact λ_ _ _ _ _ _ _ h=>h.elim
 refine PS.imp (vy (yD (zx (ha ρ) (xS (hm.go ρ) hrest hq hw' hs2) hs1)) (yo hc' (ZR (ZE hN hi hx hf) (ZR (ZE hN hi2 hy hf2) (ZR (ZE hN hi3 hz hf3) WT)))) hs hw h1) λD σ H ⟨B,I,po⟩=> ?_;have nq:∀{i' :Nat} {x' :Str},X.N[i']? =some x' ->L2.Loc X.env.scope x' ->q ≠ i' :=λh1 h2 e=>by
  subst e;rw[hq]at h1;cases h1;rcases h2 with h2 | h2 <;> (rw[hw']at h2;cases h2)
 unfold UR at po;refine ZZ I po λt v H0 _ s0 r0 I0 q0=>⟨_,I0, ?_⟩;revert q0;cases e1:m ρ with
 | bad=>exact λpo=>po
 | ex c=>exact λpo=>po
 | ok ρ1=>
  intro q0 a1 H1 B1 k1 n1 sB1 I1 g1;show z03 (tS Y rCs gb ρ1) _ _ _;refine ZZ I1 (PoS.up sB1 q0) λus ws H3 _ s3 r3 I3 q3=> ?_;rw[g1]at q3;dsimp only at q3;split at q3
  ·rename_i hl;refine⟨by rw[r3.length];exact Zg hl,λp hp=>⟨Zg (by show 3<=bnd;decide),λp' hp' =>⟨p',_,rfl,SqT.of zw,rfl,_,_,rfl,_,_,rfl,_,_,rfl,rfl, ?_⟩⟩⟩
   refine(show ∀o:HO,D.nx _ (upd (upd H3 p (HO.lst ws)) p' o) from λo=> ?_) _;have hql:q < σ.length:=by have:=I1.len;rw[aF]at this;rw[← this];exact(am.mp g1).1
   have up:=(zH.ge I1.sB s3);have JA:=((I3.setV i ((r0.mono sB1).mono up)).cpO (q:=q) (k:=k1) (n:=n1) (a:=a1) (by rw[ay (aX (nq hi hx))];exact g1) (by rw[ay (aX (nq hi hx))];exact aU hql) i2).newO i3 hp r3
   have sp:=zt.new hp' o;have J:=(JA.grow sp).forget q σ[q];have es:∀A B:Option V,((((σ.set q (some (V.ref a1))).set i A).set i2 (some (V.ref a1))).set i3 B).set q σ[q]=((σ.set i A).set i2 (some (V.ref a1))).set i3 B:=λA B=>by
    rw[fg _ _ (nq hi3 hz).symm,fg _ _ (nq hi2 hy).symm,fg _ _ (nq hi hx).symm,uS (aj hql)]
   rw[es]at J;exact q3 _ _ _ (zH.ge JA.sB sp) J
  ·exact q3.elim
def KO (i:Nat)(fa:En->R T):En->RS:=λρ=>(fa (frz ρ)).s λt=>match t with
 | .int n=> .nx (ρ.set i (.vl (.int n)))
 | .non=> .nx (ρ.set i (.vl .non))
 | _=> .bad
theorem KP (hN:X.N.Nodup)(hi:X.N[i]? =some x)(hx:L2.Loc X.env.scope x)(ha:Snd X Y a fa)(hs:swapsWith a (some (.Name x p)) pos.line X.env=pure false:=by rfl)
  (hf:X.fn x=true\/X.env.scope.names.lookup x=some .local:=by first | exact .inl rfl | exact .inr rfl | assumption):jA X Y (.Assign [.Name x p] a pos) (KO i fa):= .mk λρ=>
 PS.imp (JR hN hi hx (ha (frz ρ)) hs hf) λD σ H ⟨B,I,q⟩=>⟨_,I.frz,by
  unfold KO at q;cases e:fa (frz ρ) with
  | bad=>rw[e]at q;exact q
  | ex c=>rw[e]at q;exact λd H' z1 z2=>q d H' z1 (I.up.trans z2)
  | ok t=>
   rw[e]at q;intro v H1 s1 r1;cases r1 with
   | int n=>exact(show PoS Y B (.nx _) D from q) _ _ _ (zH.ge I.sB s1) ((I.grow s1).setV i (.int n))
   | non=>exact(show PoS Y B (.nx _) D from q) _ _ _ (zH.ge I.sB s1) ((I.grow s1).setV i .non)
   | _=>exact q.elim⟩
def stI (i n:Nat)(fa:En->R T):En->RS:=λρ=>(fa ρ).s λt=>match ρ[i]? with
 | some (.ow ts)=>if n < ts.length then .nx (ρ.set i (.ow (ts.set n t))) else .bad
 | _=> .bad
theorem zB.set {B:Hp}{v:V}{t:T}(r:Rep B v t):∀{xs:List V} {ts:List T} (n:Nat),zB B xs ts->zB B (xs.set n v) (ts.set n t)
 | _,_,_,.nil=> .nil
 | _,_,0,.cons _ rr=> .cons r rr
 | _,_,n+1,.cons r1 rr=> .cons r1 (zB.set r n rr)
theorem z18 {X:Cx}{Y:Fx}{a:Expr}{i n:Nat}{x:Str}{px pi pos p:Pos}{kn:Nat}{fa:En->R T}(hv:PE X (.Name x px) (jK i))(ha:Snd X Y a fa)(hs:swapsWithSole [.Subscript (.Name x px) (.Constant (.int (n:Int)) kn pi) p] a pos.line X.env=pure false:=by rfl)(hw:swappedStores [.Subscript (.Name x px) (.Constant (.int (n:Int)) kn pi) p] a X.env=pure none:=by rfl)
  (h1:(assignEach [.Subscript (.Name x px) (.Constant (.int (n:Int)) kn pi) p] X.env).map (·.2)=[assign (.Subscript (.Name x px) (.Constant (.int (n:Int)) kn pi) p) X.env]:=by rfl) (hA:∀v,assign (.Subscript (.Name x px) (.Constant (.int (n:Int)) kn pi) p) X.env v=(do
   let ov ← holding [v] (eval (.Name x px) X.env)
   let iv ← holding [v,ov] (eval (.Constant (.int (n:Int)) kn pi) X.env)
   standAt p
   holding [v,ov,iv] (setItem ov iv v)
   release [v,ov,iv] []):=by intro _;rfl):jA X Y (.Assign [.Subscript (.Name x px) (.Constant (.int (n:Int)) kn pi) p] a pos) (stI i n fa):= .mk λρ=>
 PS.imp (vy (ha ρ) (k6 hv vw Qn hA) hs hw h1) λD σ H ⟨B,I,q⟩=>ZZ I q λt v H1 _ s1 r1 I1 q1=>by
  split at q1
  ·rename_i ts e;split at q1
   ·rename_i hn;obtain⟨l,xs,e1,b0,h0,hh,rr,d⟩:=I1.ow i ts e;refine⟨.ref l,e1,l,xs,(n:Int),n,rfl,rfl,hh, ?_,q1 _ _ _ (zt.refl _) (I1.chg i e e1 (zB.set r1 n rr))⟩;unfold ixN;rw[rr.length,if_pos (by omega),bw,if_pos (by omega)]
   ·exact q1.elim
  ·exact q1.elim
end PV
namespace G
open PySem PySem.Spec PyProof.Rows L2 PV
def b_1j:En->RS:=
  zA (ifS (zL ltC (vB 1) (ap1 Zw (vB 0))) (zF (zb ixT (vE 0) (vE 1))) (nxS))
  (zA (ifS (zL eqC (vB 0) (jb (zj))) (zF (cE (.int 0))) (nxS))
  (zF (zb zE (zb Z4 (zb ixT (vE 0) (zb jP (vE 1) (ap1 Zw (vB 0)))) (cE (.int 31))) (vE 1))))
def KQ:List T->R T:=λts=>zy (b_1j  (en0 2 ts))
def b_5 (c_1j:List T->R T):En->RS:=
  zA (zV 3 (zb jP (zb Z4 (zb zE (za 2 c_1j (z9 (vE 0) (z9 (vE 1) (zj)))) (zb Z4 (cE (.int 6151)) (zb zE (vE 1) (cE (.int 1))))) (cE (.int 40692))) (cE (.int 2147483399))))
  (zF (zb jP (zb jP (zb zE (zb Z4 (vE 3) (vE 3)) (zb wy (vE 3) (cE (.int 31)))) (cE (.int 2147483629))) (vE 2)))
def f_5:List T->R T:=λts=>zy (b_5 (KQ) (en0 4 ts))
def Go (c_5:List T->R T):En->RS:=
  zA (zV 2 (cE (.str "abcdefghijklmnopqrstuvwxyz")))
  (zA (ifS (zL gtC (za 3 c_5 (z9 (vE 0) (z9 (vE 1) (z9 (cE (.int 6)) (zj))))) (cE (.int 0))) (zF (zb ixT (jb (z9 (cE (.str "a")) (z9 (cE (.str "b")) (z9 (cE (.str "ab")) (z9 (cE (.str "cab")) (zj)))))) (za 3 c_5 (z9 (vE 0) (z9 (zb zE (vE 1) (cE (.int 1))) (z9 (cE (.int 4)) (zj))))))) (nxS))
  (zF (ap1 (K6 "") (Z6 (ZN (zb zE (cE (.int 1)) (za 3 c_5 (z9 (vE 0) (z9 (zb zE (vE 1) (cE (.int 1))) (z9 (cE (.int 3)) (zj))))))) (zP 0) (Zi) (zb ixT (vE 3) (za 3 c_5 (z9 (vE 1) (z9 (zb zE (zb zE (vE 2) (cE (.int 2))) (vE 0)) (z9 (cE (.int 26)) (zj)))))) 1 [0,1,2]))))
def XI:List T->R T:=λts=>zy (Go (f_5) (en0 3 ts))
def Gp (c_5:List T->R T)(c_14:List T->R T):En->RS:=
  zA (ifS (zL gtC (za 3 c_5 (z9 (vE 0) (z9 (vE 1) (z9 (cE (.int 3)) (zj))))) (cE (.int 0))) (zA (zV 2 (zb ju (za 3 c_5 (z9 (vE 0) (z9 (zb zE (vE 1) (cE (.int 1))) (z9 (cE (.int 7)) (zj))))) (cE (.int 3))))
  (zA (ifS (zL eqC (za 3 c_5 (z9 (vE 0) (z9 (zb zE (vE 1) (cE (.int 3))) (z9 (cE (.int 8)) (zj))))) (cE (.int 0))) (zV 2 (zb ixT (jb (z9 (JX (cE (.int 20))) (z9 (cE (.int 17)) (z9 (cE (.int 20)) (zj))))) (za 3 c_5 (z9 (vE 0) (z9 (zb zE (vE 1) (cE (.int 4))) (z9 (cE (.int 3)) (zj))))))) (nxS))
  (zF (Zt (z9 (cE (.str "whole")) (z9 (vE 2) (z9 (zb yY (cE (.int 20)) (zb zE (vE 2) (za 3 c_5 (z9 (vE 0) (z9 (zb zE (vE 1) (cE (.int 2))) (z9 (cE (.int 4)) (zj))))))) (zj)))))))) (nxS))
  (zA (WX 3 (zj))
  (zA (jJ (ZN (zb zE (cE (.int 1)) (za 3 c_5 (z9 (vE 0) (z9 (zb zE (vE 1) (cE (.int 1))) (z9 (cE (.int 4)) (zj))))))) (zP 4) (zA (zV 5 (za 2 c_14 (z9 (vE 0) (z9 (zb zE (zb zE (vE 1) (cE (.int 5))) (zb Z4 (cE (.int 5)) (vE 4))) (zj)))))
  (ifS (zL Qr (vB 5) (vB 3)) (UG 3 (vE 5)) (nxS))))
  (zF (Zt (z9 (cE (.str "pick")) (z9 (ap1 Gf (Z6 (xg (vE 3)) (Ze 0 1) (Zi) (Zt (z9 (vE 1) (z9 (zb zE (cE (.int 1)) (za 3 c_5 (z9 (vE 2) (z9 (zb zE (zb zE (vE 3) (cE (.int 30))) (vE 0)) (z9 (cE (.int 20)) (zj)))))) (zj)))) 2 [0,1])) (zj)))))))
def KR:List T->R T:=λts=>zy (Gp (f_5) (XI) (en0 6 ts))
def b_i (c_5:List T->R T)(c_19:List T->R T)(c_i:List T->R T):En->RS:=
  zA (zV 3 (za 3 c_5 (z9 (vE 0) (z9 (vE 1) (z9 (cE (.int 5)) (zj))))))
  (zA (ifS (orT (zL eqC (vB 2) (cE (.int 1))) (zL ltC (vB 3) (cE (.int 2)))) (zF (za 2 c_19 (z9 (vE 0) (z9 (zb zE (vE 1) (cE (.int 1))) (zj))))) (nxS))
  (zA (ifS (zL ltC (vB 3) (cE (.int 4))) (zA (zV 4 (Z6 (ZN (zb zE (cE (.int 1)) (za 3 c_5 (z9 (vE 0) (z9 (zb zE (vE 1) (cE (.int 1))) (z9 (cE (.int 3)) (zj))))))) (zP 0) (Zi) (za 3 c_i (z9 (vE 1) (z9 (zb zE (zb zE (zb Z4 (cE (.int 3)) (vE 2)) (cE (.int 40))) (zb Z4 (cE (.int 50)) (vE 0))) (z9 (zb ju (vE 3) (cE (.int 1))) (zj))))) 1 [0,1,2]))
  (zF (Zt (z9 (cE (.str "row")) (z9 (ap1 Gf (vE 4)) (zj)))))) (nxS))
  (zA (zV 5 (za 3 c_5 (z9 (vE 0) (z9 (zb zE (vE 1) (cE (.int 1))) (z9 (cE (.int 3)) (zj))))))
  (zF (Zt (z9 (cE (.str "many")) (z9 (za 3 c_i (z9 (vE 0) (z9 (zb zE (zb Z4 (cE (.int 3)) (vE 1)) (cE (.int 40))) (z9 (zb ju (vE 2) (cE (.int 1))) (zj))))) (z9 (vE 5) (z9 (zb yY (cE (.int 3)) (zb zE (vE 5) (za 3 c_5 (z9 (vE 0) (z9 (zb zE (vE 1) (cE (.int 2))) (z9 (cE (.int 3)) (zj))))))) (zj))))))))))
def S_i:Nat->Nat->List T->R T
 | 0,_=>λ_=> .bad
 | n+1,_=>λts=>zy (b_i (f_5) (KR) (S_i n 0) (en0 6 ts))
abbrev f_i (n:Nat):List T->R T:=S_i n 0
def b_k:En->RS:=
  zA (zV 1 (jb (z9 (Zt (zj)) (zj))))
  (zA (jJ (jc (vE 0)) (zP 2) (zA (WX 3 (zj))
  (zA (jJ (jc (vE 1)) (zP 4) (Q3 3 (Z6 (jc (vE 2)) (zP 0) (Zi) (zb zE (vE 1) (Zt (z9 (vE 0) (zj)))) 1 [4])))
  (mvS 1 3))))
  (zF (vE 1)))
def f_k:List T->R T:=λts=>zy (b_k  (en0 5 ts))
def b_6 (c_6:List T->R T)(c_k:List T->R T):En->RS:=
  zA (ifS (zL eqC (zb ixT (vE 0) (cE (.int 0))) (cE (.str "whole"))) (zF (Gi (jh (zb ixT (vE 0) (cE (.int 1))) (zb zE (zb ixT (vE 0) (cE (.int 2))) (cE (.int 1)))))) (nxS))
  (zA (ifS (zL eqC (zb ixT (vE 0) (cE (.int 0))) (cE (.str "pick"))) (zF (Z6 (jc (zb ixT (vE 0) (cE (.int 1)))) (Ze 0 1) (Zi) (vE 0) 2 [])) (nxS))
  (zA (ifS (zL eqC (zb ixT (vE 0) (cE (.int 0))) (cE (.str "row"))) (zF (za 1 c_k (z9 (Z6 (jc (zb ixT (vE 0) (cE (.int 1)))) (zP 0) (Zi) (za 1 c_6 (z9 (vE 0) (zj))) 1 []) (zj)))) (nxS))
  (zA (WX 1 (zj))
  (zA (jJ (jh (zb ixT (vE 0) (cE (.int 2))) (zb zE (zb ixT (vE 0) (cE (.int 3))) (cE (.int 1)))) (zP 2) (Q3 1 (za 1 c_k (z9 (zb Z4 (jb (z9 (za 1 c_6 (z9 (zb ixT (vE 0) (cE (.int 1))) (zj))) (zj))) (vE 2)) (zj)))))
  (zF (vE 1))))))
def S_6:Nat->Nat->List T->R T
 | 0,_=>λ_=> .bad
 | n+1,_=>λts=>zy (b_6 (S_6 n 0) (f_k) (en0 3 ts))
abbrev f_6 (n:Nat):List T->R T:=S_6 n 0
def b_h (c_6:List T->R T)(c_h:List T->R T):En->RS:=
  zA (ifS (zL inC (zb ixT (vE 0) (cE (.int 0))) (Zt (z9 (cE (.str "whole")) (z9 (cE (.str "pick")) (zj))))) (zF (ap1 Zw (za 1 c_6 (z9 (vE 0) (zj))))) (nxS))
  (zA (zV 1 (ifE (zL eqC (zb ixT (vE 0) (cE (.int 0))) (cE (.str "row"))) (Z6 (jc (zb ixT (vE 0) (cE (.int 1)))) (zP 0) (Zi) (za 1 c_h (z9 (vE 0) (zj))) 1 []) (jb (zj))))
  (zA (zV 2 (cE (.int 1)))
  (zA (jJ (jc (vE 1)) (zP 3) (zV 2 (zb Z4 (vE 2) (vE 3))))
  (zA (ifS (zL eqC (zb ixT (vE 0) (cE (.int 0))) (cE (.str "many"))) (zA (zV 4 (za 1 c_h (z9 (zb ixT (vE 0) (cE (.int 1))) (zj))))
  (zA (zV 2 (zb zE (ap1 Yb (ZL eqC (zb ixT (vE 0) (cE (.int 2))) (cE (.int 0)))) (zb Z4 (vE 4) (ap1 Yb (chE leC leC (zb ixT (vE 0) (cE (.int 2))) (cE (.int 1)) (zb ixT (vE 0) (cE (.int 3))))))))
  (zA (zV 2 (zb zE (vE 2) (zb Z4 (zb Z4 (vE 4) (vE 4)) (ap1 Yb (chE leC leC (zb ixT (vE 0) (cE (.int 2))) (cE (.int 2)) (zb ixT (vE 0) (cE (.int 3))))))))
  (zV 2 (zb zE (vE 2) (zb Z4 (zb Z4 (zb Z4 (vE 4) (vE 4)) (vE 4)) (ap1 Yb (ZL eqC (zb ixT (vE 0) (cE (.int 3))) (cE (.int 3)))))))))) (nxS))
  (zF (vE 2))))))
def S_h:Nat->Nat->List T->R T
 | 0,_=>λ_=> .bad
 | n+1,_=>λts=>zy (b_h (f_6 8) (S_h n 0) (en0 5 ts))
abbrev f_h (n:Nat):List T->R T:=S_h n 0
def Gq (c_i:List T->R T)(c_h:List T->R T):En->RS:=
  zA (zV 3 (za 3 c_i (z9 (vE 0) (z9 (vE 1) (z9 (cE (.int 3)) (zj))))))
  (zA (jJ (ZN (cE (.int 3))) (zP 4) (zA (ifS (zL leC (za 1 c_h (z9 (vE 3) (zj))) (vB 2)) (zF (vE 3)) (nxS))
  (zV 3 (za 3 c_i (z9 (vE 0) (z9 (zb zE (zb zE (vE 1) (cE (.int 500))) (zb Z4 (cE (.int 700)) (vE 4))) (z9 (cE (.int 2)) (zj))))))))
  (zF (ifE (zL leC (za 1 c_h (z9 (vE 3) (zj))) (vB 2)) (vE 3) (Zt (z9 (cE (.str "whole")) (z9 (JX (cE (.int 1))) (z9 (cE (.int 2)) (zj))))))))
def KS:List T->R T:=λts=>zy (Gq (f_i 8) (f_h 8) (en0 5 ts))
def b_9:En->RS:=
  zF (ZM (ap1 (yg "int") (vB 0)) (Qu (ap1 (yg "bool") (vB 0))))
def f_9:List T->R T:=λts=>zy (b_9  (en0 1 ts))
def b_12 (c_9:List T->R T):En->RS:=
  zF (ZM (za 1 c_9 (z9 (vE 0) (zj))) (ZM (za 1 c_9 (z9 (vE 1) (zj))) (ch3E leC leC leC (vB 2) (vB 0) (vB 1) (vB 3))))
def KT:List T->R T:=λts=>zy (b_12 (f_9) (en0 4 ts))
def b_a:En->RS:=
  zF (ZM (ap1 (yg "tuple") (vB 0)) (chE leC leC (vB 1) (ap1 Zw (vB 0)) (vB 2)))
def f_a:List T->R T:=λts=>zy (b_a  (en0 3 ts))
def b_q:En->RS:=
  zA (ifS (orT (WQ (JN (ap1 (yg "str") (vB 0)))) (WQ (chT leC leC (cE (.int 1)) (ap1 Zw (vB 0)) (cE (.int 3))))) (zF (cE (.bl false))) (nxS))
  (zF (ap1 vH (Z6 (jc (vE 0)) (zP 0) (Zi) (chE leC leC (cE (.str "a")) (vB 0) (cE (.str "z"))) 1 [])))
def f_q:List T->R T:=λts=>zy (b_q  (en0 1 ts))
def b_y (c_9:List T->R T)(c_a:List T->R T)(c_q:List T->R T):En->RS:=
  zF (ZM (za 3 c_a (z9 (vE 0) (z9 (cE (.int 2)) (z9 (cE (.int 2)) (zj))))) (ZM (za 1 c_q (z9 (zb ixT (vE 0) (cE (.int 0))) (zj))) (ZM (za 1 c_9 (z9 (zb ixT (vE 0) (cE (.int 1))) (zj))) (chE leC leC (cE (.int 1)) (zb ixT (vE 0) (cE (.int 1))) (cE (.int 20))))))
def f_y:List T->R T:=λts=>zy (b_y (f_9) (f_a) (f_q) (en0 1 ts))
def b_w (c_a:List T->R T)(c_y:List T->R T):En->RS:=
  zA (ifS (orT (WQ (JN (za 3 c_a (z9 (vE 0) (z9 (cE (.int 1)) (z9 (cE (.int 4)) (zj))))))) (WQ (JN (ap1 vH (Z6 (jc (vE 0)) (zP 0) (Zi) (za 1 c_y (z9 (vE 0) (zj))) 1 []))))) (zF (cE (.bl false))) (nxS))
  (zA (zV 1 (Z6 (jc (vE 0)) (zP 0) (Zi) (zb ixT (vE 0) (cE (.int 0))) 1 []))
  (zF (ZL eqC (ap1 QB (vB 1)) (ap1 Zw (vB 1)))))
def f_w:List T->R T:=λts=>zy (b_w (f_a) (f_y) (en0 2 ts))
def b_7 (c_12:List T->R T)(c_7:List T->R T)(c_w:List T->R T)(c_17:List T->R T):En->RS:=
  zA (ifS (orT (zL eqC (vB 1) (cE (.int 0))) (orT (WQ (JN (ap1 (yg "tuple") (vB 0)))) (zL eqC (ap1 Zw (vB 0)) (cE (.int 0))))) (zF (cE (.bl false))) (nxS))
  (zA (ifS (zL eqC (zb ixT (vE 0) (cE (.int 0))) (cE (.str "whole"))) (zF (ZM (ZL eqC (ap1 Zw (vB 0)) (cE (.int 3))) (za 4 c_12 (z9 (zb ixT (vE 0) (cE (.int 1))) (z9 (zb ixT (vE 0) (cE (.int 2))) (z9 (JX (cE (.int 20))) (z9 (cE (.int 20)) (zj)))))))) (nxS))
  (zA (ifS (zL eqC (zb ixT (vE 0) (cE (.int 0))) (cE (.str "pick"))) (zF (ZM (ZL eqC (ap1 Zw (vB 0)) (cE (.int 2))) (za 1 c_w (z9 (zb ixT (vE 0) (cE (.int 1))) (zj))))) (nxS))
  (zA (ifS (zL eqC (zb ixT (vE 0) (cE (.int 0))) (cE (.str "row"))) (zF (ZM (ZL eqC (ap1 Zw (vB 0)) (cE (.int 2))) (za 2 c_17 (z9 (zb ixT (vE 0) (cE (.int 1))) (z9 (zb ju (vE 1) (cE (.int 1))) (zj)))))) (nxS))
  (zA (ifS (zL eqC (zb ixT (vE 0) (cE (.int 0))) (cE (.str "many"))) (zF (ZM (ZL eqC (ap1 Zw (vB 0)) (cE (.int 4))) (ZM (za 4 c_12 (z9 (zb ixT (vE 0) (cE (.int 2))) (z9 (zb ixT (vE 0) (cE (.int 3))) (z9 (cE (.int 0)) (z9 (cE (.int 3)) (zj)))))) (za 2 c_7 (z9 (zb ixT (vE 0) (cE (.int 1))) (z9 (zb ju (vE 1) (cE (.int 1))) (zj))))))) (nxS))
  (zF (cE (.bl false)))))))
def Gr (c_a:List T->R T)(c_7:List T->R T):En->RS:=
  zF (ZM (za 3 c_a (z9 (vE 0) (z9 (cE (.int 1)) (z9 (cE (.int 3)) (zj))))) (ap1 vH (Z6 (jc (vE 0)) (zP 0) (Zi) (za 2 c_7 (z9 (vE 0) (z9 (vE 1) (zj)))) 1 [1])))
def S_7:Nat->Nat->List T->R T
 | 0,_=>λ_=> .bad
 | n+1,0=>λts=>zy (b_7 (KT) (S_7 n 0) (f_w) (S_7 n 1) (en0 2 ts))
 | n+1,_=>λts=>zy (Gr (f_a) (S_7 n 0) (en0 2 ts))
abbrev f_7 (n:Nat):List T->R T:=S_7 n 0
abbrev f_17 (n:Nat):List T->R T:=S_7 n 1
def b_2 (c_7:List T->R T):En->RS:=
  zF (za 2 c_7 (z9 (vE 0) (z9 (cE (.int 3)) (zj))))
def f_2:List T->R T:=λts=>zy (b_2 (f_7 20) (en0 1 ts))
def b_p (c_2:List T->R T):En->RS:=
  ifS (WQ (JN (za 1 c_2 (z9 (vE 0) (zj))))) (vR) (nxS)
def f_p:List T->R T:=λts=>zy (b_p (f_2) (en0 1 ts))
def b_1 (c_u:List T->R T)(c_j:List T->R T):En->RS:=
  zA (ifS (zL eqC (zb ixT (vE 0) (cE (.int 0))) (cE (.str "whole"))) (zF (zb zE (zb ju (zb ixT (vE 0) (cE (.int 2))) (zb ixT (vE 0) (cE (.int 1)))) (cE (.int 1)))) (nxS))
  (zA (ifS (zL eqC (zb ixT (vE 0) (cE (.int 0))) (cE (.str "pick"))) (zF (ap1 Zw (zb ixT (vE 0) (cE (.int 1))))) (nxS))
  (zA (ifS (zL eqC (zb ixT (vE 0) (cE (.int 0))) (cE (.str "row"))) (zF (za 1 c_u (z9 (zb ixT (vE 0) (cE (.int 1))) (zj)))) (nxS))
  (zF (za 2 c_j (z9 (vE 0) (z9 (zb zE (zb ixT (vE 0) (cE (.int 3))) (cE (.int 1))) (zj)))))))
def b_u (c_1:List T->R T):En->RS:=
  zA (zV 1 (cE (.int 1)))
  (zA (jJ (jc (vE 0)) (zP 2) (zV 1 (zb Z4 (vE 1) (za 1 c_1 (z9 (vE 2) (zj))))))
  (zF (vE 1)))
def b_j (c_u:List T->R T):En->RS:=
  zF (ap1 xw (Z6 (jh (zb ixT (vE 0) (cE (.int 2))) (vE 1)) (zP 0) (Zi) (za 1 c_u (z9 (zb Z4 (jb (z9 (zb ixT (vE 1) (cE (.int 1))) (zj))) (vE 0)) (zj))) 1 [0]))
def S_1:Nat->Nat->List T->R T
 | 0,_=>λ_=> .bad
 | n+1,0=>λts=>zy (b_1 (S_1 n 1) (S_1 n 2) (en0 1 ts))
 | n+1,1=>λts=>zy (b_u (S_1 n 0) (en0 3 ts))
 | n+1,_=>λts=>zy (b_j (S_1 n 1) (en0 2 ts))
abbrev f_1 (n:Nat):List T->R T:=S_1 n 0
abbrev f_u (n:Nat):List T->R T:=S_1 n 1
abbrev f_j (n:Nat):List T->R T:=S_1 n 2
def b_g:En->RS:=
  zF (Z6 (jc (zb ixT (vE 0) (cE (.int 1)))) (zP 0) (Zi) (zb ixT (vE 0) (cE (.int 0))) 1 [])
def f_g:List T->R T:=λts=>zy (b_g  (en0 1 ts))
def b_4 (c_g:List T->R T)(c_16:List T->R T)(c_v:List T->R T):En->RS:=
  zA (ifS (zL eqC (zb ixT (vE 0) (cE (.int 0))) (cE (.str "whole"))) (zF (zb zE (zb ixT (vE 0) (cE (.int 1))) (vE 1))) (nxS))
  (zA (ifS (zL eqC (zb ixT (vE 0) (cE (.int 0))) (cE (.str "pick"))) (zF (zb ixT (za 1 c_g (z9 (vE 0) (zj))) (vE 1))) (nxS))
  (zA (ifS (zL eqC (zb ixT (vE 0) (cE (.int 0))) (cE (.str "row"))) (zF (za 2 c_v (z9 (zb ixT (vE 0) (cE (.int 1))) (z9 (vE 1) (zj))))) (nxS))
  (zF (za 2 c_16 (z9 (vE 0) (z9 (vE 1) (zj)))))))
def KU (c_j:List T->R T)(c_v:List T->R T):En->RS:=
  zA (zV 2 (zb ixT (vE 0) (cE (.int 2))))
  (zA (jj (zL leC (za 2 c_j (z9 (vE 0) (z9 (zb zE (vE 2) (cE (.int 1))) (zj)))) (vB 1)) (zV 2 (zb zE (vE 2) (cE (.int 1)))) (8))
  (zF (za 2 c_v (z9 (zb Z4 (jb (z9 (zb ixT (vE 0) (cE (.int 1))) (zj))) (vE 2)) (z9 (zb ju (vE 1) (za 2 c_j (z9 (vE 0) (z9 (vE 2) (zj))))) (zj))))))
def b_v (c_1:List T->R T)(c_4:List T->R T):En->RS:=
  zA (WX 2 (zj))
  (zA (zV 3 (vE 1))
  (zA (jJ (z0R (vE 0)) (zP 4) (zA (zV 5 (za 1 c_1 (z9 (vE 4) (zj))))
  (zA (UG 2 (za 2 c_4 (z9 (vE 4) (z9 (zb jP (vE 3) (vE 5)) (zj)))))
  (zV 3 (zb wy (vE 3) (vE 5))))))
  (zF (ap1 QR (vE 2)))))
def S_4:Nat->Nat->List T->R T
 | 0,_=>λ_=> .bad
 | n+1,0=>λts=>zy (b_4 (f_g) (S_4 n 1) (S_4 n 2) (en0 2 ts))
 | n+1,1=>λts=>zy (KU (f_j 20) (S_4 n 2) (en0 3 ts))
 | n+1,_=>λts=>zy (b_v (f_1 20) (S_4 n 0) (en0 6 ts))
abbrev f_4 (n:Nat):List T->R T:=S_4 n 0
abbrev f_16 (n:Nat):List T->R T:=S_4 n 1
abbrev f_v (n:Nat):List T->R T:=S_4 n 2
def b_o (c_p:List T->R T)(c_1:List T->R T)(c_4:List T->R T):En->RS:=
  zA (jn (za 1 c_p (z9 (vE 0) (zj))))
  (zA (zV 1 (za 1 c_1 (z9 (vE 0) (zj))))
  (zA (ifS (zL gtC (vB 1) (cE (.int 500))) (vR) (nxS))
  (vQ (ZN (vE 1)) (zP 0) (Zi) (za 2 c_4 (z9 (vE 1) (z9 (vE 0) (zj)))) 1 [0])))
def f_o:List T->R T:=λts=>zy (b_o (f_p) (f_1 20) (f_4 20) (en0 2 ts))
def Gs (c_o:List T->R T):En->R (T×En):=
  jp (stF 101 0 2 "kind" (vE 1))
  (jp (Q7 101 0 2 "remaining" (z9 (za 1 c_o (z9 (vE 1) (zj))) (zj)))
  (jp (Q7 101 0 2 "done" (zj))
  (jp (Q7 101 0 2 "undone" (zj))
  (z0Z))))
def xY:List (Str×Fd)->List T->R (T×List (Str×Fd)):=λfs ts=>uN 101 2 (Gs (f_o) (enM 101 2 fs ts))
def b_m (c_5:List T->R T)(c_m:List T->R T):En->RS:=
  zA (zV 3 (za 3 c_5 (z9 (vE 0) (z9 (vE 1) (z9 (cE (.int 9)) (zj))))))
  (zA (ifS (kI (zL gtC (vB 2) (cE (.int 1))) (zL gtC (vB 3) (cE (.int 5)))) (zA (zV 4 (za 3 c_m (z9 (vE 0) (z9 (zb zE (zb Z4 (cE (.int 2)) (vE 1)) (cE (.int 11))) (z9 (zb ju (vE 2) (cE (.int 1))) (zj))))))
  (zA (ifS (zL eqC (vB 3) (cE (.int 6))) (zF (Zt (z9 (cE (.str "no")) (z9 (vE 4) (zj))))) (nxS))
  (zF (Zt (z9 (zb ixT (jb (z9 (cE (.str "all")) (z9 (cE (.str "some")) (zj)))) (zb ju (vE 3) (cE (.int 7)))) (z9 (vE 4) (z9 (za 3 c_m (z9 (vE 0) (z9 (zb zE (zb Z4 (cE (.int 2)) (vE 1)) (cE (.int 24))) (z9 (zb ju (vE 2) (cE (.int 1))) (zj))))) (zj)))))))) (nxS))
  (zA (zV 5 (zb ju (za 3 c_5 (z9 (vE 0) (z9 (zb zE (vE 1) (cE (.int 1))) (z9 (cE (.int 9)) (zj))))) (cE (.int 4))))
  (zA (ifS (zL ltC (zb jP (vE 3) (cE (.int 6))) (cE (.int 2))) (zF (Zt (z9 (cE (.str "sum")) (z9 (vE 5) (z9 (zb ju (zb zE (vE 5) (za 3 c_5 (z9 (vE 0) (z9 (zb zE (vE 1) (cE (.int 2))) (z9 (cE (.int 5)) (zj)))))) (cE (.int 1))) (zj)))))) (nxS))
  (zA (ifS (zL eqC (zb jP (vE 3) (cE (.int 6))) (cE (.int 2))) (zF (Zt (z9 (cE (.str "size")) (z9 (za 3 c_5 (z9 (vE 0) (z9 (zb zE (vE 1) (cE (.int 1))) (z9 (cE (.int 3)) (zj))))) (z9 (za 3 c_5 (z9 (vE 0) (z9 (zb zE (vE 1) (cE (.int 2))) (z9 (cE (.int 4)) (zj))))) (zj)))))) (nxS))
  (zA (ifS (zL eqC (zb jP (vE 3) (cE (.int 6))) (cE (.int 3))) (zF (Zt (z9 (cE (.str "word")) (z9 (zb ixT (jb (z9 (cE (.str "a")) (z9 (cE (.str "b")) (z9 (cE (.str "ab")) (z9 (cE (.str "zz")) (zj)))))) (za 3 c_5 (z9 (vE 0) (z9 (zb zE (vE 1) (cE (.int 1))) (z9 (cE (.int 4)) (zj)))))) (zj))))) (nxS))
  (zF (ifE (zL eqC (zb jP (vE 3) (cE (.int 6))) (cE (.int 4))) (Zt (z9 (cE (.str "rising")) (zj))) (Zt (z9 (cE (.str "unlike")) (zj))))))))))
def S_m:Nat->Nat->List T->R T
 | 0,_=>λ_=> .bad
 | n+1,_=>λts=>zy (b_m (f_5) (S_m n 0) (en0 6 ts))
abbrev f_m (n:Nat):List T->R T:=S_m n 0
def z19 (c_9:List T->R T):En->RS:=
  zF (ZM (za 1 c_9 (z9 (vE 0) (zj))) (chE leC leC (JX (cE (.int 50))) (vB 0) (cE (.int 50))))
def Gu:List T->R T:=λts=>zy (z19 (f_9) (en0 1 ts))
def b_n (c_q:List T->R T)(c_n:List T->R T)(c_1h:List T->R T):En->RS:=
  zA (ifS (orT (zL eqC (vB 1) (cE (.int 0))) (orT (WQ (JN (ap1 (yg "tuple") (vB 0)))) (zL eqC (ap1 Zw (vB 0)) (cE (.int 0))))) (zF (cE (.bl false))) (nxS))
  (zA (ifS (orT (zL eqC (zb ixT (vE 0) (cE (.int 0))) (cE (.str "sum"))) (zL eqC (zb ixT (vE 0) (cE (.int 0))) (cE (.str "size")))) (zF (ZM (ZL eqC (ap1 Zw (vB 0)) (cE (.int 3))) (ZM (za 1 c_1h (z9 (zb ixT (vE 0) (cE (.int 1))) (zj))) (za 1 c_1h (z9 (zb ixT (vE 0) (cE (.int 2))) (zj)))))) (nxS))
  (zA (ifS (zL eqC (zb ixT (vE 0) (cE (.int 0))) (cE (.str "word"))) (zF (ZM (ZL eqC (ap1 Zw (vB 0)) (cE (.int 2))) (za 1 c_q (z9 (zb ixT (vE 0) (cE (.int 1))) (zj))))) (nxS))
  (zA (ifS (orT (zL eqC (zb ixT (vE 0) (cE (.int 0))) (cE (.str "rising"))) (zL eqC (zb ixT (vE 0) (cE (.int 0))) (cE (.str "unlike")))) (zF (ZL eqC (ap1 Zw (vB 0)) (cE (.int 1)))) (nxS))
  (zA (ifS (zL eqC (zb ixT (vE 0) (cE (.int 0))) (cE (.str "no"))) (zF (ZM (ZL eqC (ap1 Zw (vB 0)) (cE (.int 2))) (za 2 c_n (z9 (zb ixT (vE 0) (cE (.int 1))) (z9 (zb ju (vE 1) (cE (.int 1))) (zj)))))) (nxS))
  (zA (ifS (orT (zL eqC (zb ixT (vE 0) (cE (.int 0))) (cE (.str "all"))) (zL eqC (zb ixT (vE 0) (cE (.int 0))) (cE (.str "some")))) (zF (ZM (ZL eqC (ap1 Zw (vB 0)) (cE (.int 3))) (ZM (za 2 c_n (z9 (zb ixT (vE 0) (cE (.int 1))) (z9 (zb ju (vE 1) (cE (.int 1))) (zj)))) (za 2 c_n (z9 (zb ixT (vE 0) (cE (.int 2))) (z9 (zb ju (vE 1) (cE (.int 1))) (zj))))))) (nxS))
  (zF (cE (.bl false))))))))
def S_n:Nat->Nat->List T->R T
 | 0,_=>λ_=> .bad
 | n+1,_=>λts=>zy (b_n (f_q) (S_n n 0) (Gu) (en0 2 ts))
abbrev f_n (n:Nat):List T->R T:=S_n n 0
def b_b (c_n:List T->R T):En->RS:=
  zF (za 2 c_n (z9 (vE 0) (z9 (cE (.int 3)) (zj))))
def f_b:List T->R T:=λts=>zy (b_b (f_n 8) (en0 1 ts))
def b_c (c_b:List T->R T):En->RS:=
  ifS (WQ (JN (za 1 c_b (z9 (vE 0) (zj))))) (vR) (nxS)
def f_c:List T->R T:=λts=>zy (b_c (f_b) (en0 1 ts))
def b_1f:En->RS:=
  zF (ap1 Zw (ixV 101 0 1 "remaining" (JX (cE (.int 1)))))
def KW:List (Str×Fd)->List T->R T:=λfs ts=>zy (b_1f  (enO 101 1 fs (ts.take 0) (ts.drop 0)))
def b_l (c_l:List T->R T):En->RS:=
  zA (ifS (WQ (JN (ap1 (yg "tuple") (vB 0)))) (zF (jb (z9 (vE 0) (zj)))) (nxS))
  (zA (WX 1 (zj))
  (zA (jJ (jc (vE 0)) (zP 2) (Q3 1 (za 1 c_l (z9 (vE 2) (zj)))))
  (zF (vE 1))))
def S_l:Nat->Nat->List T->R T
 | 0,_=>λ_=> .bad
 | n+1,_=>λts=>zy (b_l (S_l n 0) (en0 3 ts))
abbrev f_l (n:Nat):List T->R T:=S_l n 0
def z1a (c_9:List T->R T)(c_l:List T->R T):En->RS:=
  zF (Z6 (jc (za 1 c_l (z9 (vE 0) (zj)))) (zP 0) (JN (za 1 c_9 (z9 (vE 0) (zj)))) (vE 0) 1 [])
def Gv:List T->R T:=λts=>zy (z1a (f_9) (f_l 8) (en0 1 ts))
def b_1k:En->RS:=
  zF (ifE (JN (ap1 (yg "tuple") (vB 0))) (vE 0) (Zt (z9 (vE 0) (zj))))
def Gw:List T->R T:=λts=>zy (b_1k  (en0 1 ts))
def z1b:En->RS:=
  zF (ap1 vH (Z6 (xt (vE 0) (slE (vE 0) (UD (cE (.int 1))) (noO))) (Ze 0 1) (Zi) (ZL leC (vB 0) (vB 1)) 2 []))
def z1c:List T->R T:=λts=>zy (z1b  (en0 1 ts))
def z1d:En->RS:=
  zF (Qu (ap1 z0T (Z6 (uK (vE 0)) (Ze 0 1) (Zi) (ZL inC (vB 1) (slE (vE 2) (noO) (UD (vE 0)))) 2 [0])))
def z1e:List T->R T:=λts=>zy (z1d  (en0 1 ts))
def Gx (c_1k:List T->R T)(c_l:List T->R T)(c_1g:List T->R T)(c_1m:List T->R T)(c_1n:List T->R T):En->RS:=
  zA (ifS (zL eqC (zb ixT (vE 0) (cE (.int 0))) (cE (.str "sum"))) (zF (chE leC leC (zb ixT (vE 0) (cE (.int 1))) (ap1 xw (za 1 c_1g (z9 (vE 1) (zj)))) (zb ixT (vE 0) (cE (.int 2))))) (nxS))
  (zA (ifS (zL eqC (zb ixT (vE 0) (cE (.int 0))) (cE (.str "size"))) (zF (chE leC leC (zb ixT (vE 0) (cE (.int 1))) (ap1 Zw (za 1 c_1k (z9 (vE 1) (zj)))) (zb ixT (vE 0) (cE (.int 2))))) (nxS))
  (zA (ifS (zL eqC (zb ixT (vE 0) (cE (.int 0))) (cE (.str "word"))) (zF (ZL inC (zb ixT (vE 0) (cE (.int 1))) (za 1 c_l (z9 (vE 1) (zj))))) (nxS))
  (zA (ifS (zL eqC (zb ixT (vE 0) (cE (.int 0))) (cE (.str "rising"))) (zF (za 1 c_1m (z9 (za 1 c_1g (z9 (vE 1) (zj))) (zj)))) (nxS))
  (zF (za 1 c_1n (z9 (za 1 c_1k (z9 (vE 1) (zj))) (zj)))))))
def KY:List T->R T:=λts=>zy (Gx (Gw) (f_l 8) (Gv) (z1c) (z1e) (en0 2 ts))
def b_d (c_d:List T->R T)(c_1b:List T->R T):En->RS:=
  zA (ifS (zL eqC (zb ixT (vE 0) (cE (.int 0))) (cE (.str "no"))) (zF (Qu (za 2 c_d (z9 (zb ixT (vE 0) (cE (.int 1))) (z9 (vE 1) (zj)))))) (nxS))
  (zA (ifS (zL eqC (zb ixT (vE 0) (cE (.int 0))) (cE (.str "all"))) (zF (ZM (za 2 c_d (z9 (zb ixT (vE 0) (cE (.int 1))) (z9 (vE 1) (zj)))) (za 2 c_d (z9 (zb ixT (vE 0) (cE (.int 2))) (z9 (vE 1) (zj)))))) (nxS))
  (zA (ifS (zL eqC (zb ixT (vE 0) (cE (.int 0))) (cE (.str "some"))) (zF (orE (za 2 c_d (z9 (zb ixT (vE 0) (cE (.int 1))) (z9 (vE 1) (zj)))) (za 2 c_d (z9 (zb ixT (vE 0) (cE (.int 2))) (z9 (vE 1) (zj)))))) (nxS))
  (zF (za 2 c_1b (z9 (vE 0) (z9 (vE 1) (zj)))))))
def S_d:Nat->Nat->List T->R T
 | 0,_=>λ_=> .bad
 | n+1,_=>λts=>zy (b_d (S_d n 0) (KY) (en0 2 ts))
abbrev f_d (n:Nat):List T->R T:=S_d n 0
def Gy (c_d:List T->R T):En->RS:=
  zA (zV 2 (ZL eqC (zb ixT (vE 0) (cE (.int 0))) (cE (.str "keep"))))
  (zF (Z6 (jc (vE 1)) (zP 0) (zL eqC (za 2 c_d (z9 (zb ixT (vE 1) (cE (.int 1))) (z9 (vE 0) (zj)))) (vB 2)) (vE 0) 1 [0,2]))
def KZ:List T->R T:=λts=>zy (Gy (f_d 8) (en0 3 ts))
def Gz (c_1e:List T->R T):En->R (T×En):=
  jp (XH 101 0 2 "remaining" (za 2 c_1e (z9 (vE 1) (z9 (ixF 101 0 2 "remaining" (JX (cE (.int 1)))) (zj)))))
  (jp (XH 101 0 2 "done" (vE 1))
  (z0Z))
def XJ:List (Str×Fd)->List T->R (T×List (Str×Fd)):=λfs ts=>uN 101 2 (Gz (KZ) (enM 101 2 fs ts))
def GA (c_c:List T->R T)(c_1f:List (Str×Fd)->List T->R T)(c_13:List (Str×Fd)->List T->R (T×List (Str×Fd))):En->R (T×En):=
  jp (jn (za 1 c_c (z9 (vE 2) (zj))))
  (jp (zV 3 (u9 101 0 4 0 c_1f zj))
  (jp (drM (Q8 101 0 4 "do_step" 1 c_13 (z9 (Zt (z9 (vE 1) (z9 (vE 2) (zj)))) (zj))))
  (jp (Q7 101 0 4 "undone" (zj))
  (xQ (zb ju (vE 3) (u9 101 0 4 0 c_1f zj))))))
def g9:List (Str×Fd)->List T->R (T×List (Str×Fd)):=λfs ts=>uN 101 4 (GA (f_c) (KW) (XJ) (enM 101 4 fs ts))
def b_1i (c_18:List (Str×Fd)->List T->R (T×List (Str×Fd))):En->R (T×En):=
  Q8 101 0 2 "new_step" 2 c_18 (z9 (cE (.str "keep")) (z9 (vE 1) (zj)))
def gc:List (Str×Fd)->List T->R (T×List (Str×Fd)):=λfs ts=>uN 101 2 (b_1i (g9) (enM 101 2 fs ts))
def b_8 (c_9:List T->R T)(c_a:List T->R T)(c_g:List T->R T)(c_15:List T->R T):En->RS:=
  zA (ifS (zL eqC (zb ixT (vE 0) (cE (.int 0))) (cE (.str "whole"))) (zF (ZM (za 1 c_9 (z9 (vE 1) (zj))) (chE leC leC (zb ixT (vE 0) (cE (.int 1))) (vB 1) (zb ixT (vE 0) (cE (.int 2)))))) (nxS))
  (zA (ifS (zL eqC (zb ixT (vE 0) (cE (.int 0))) (cE (.str "pick"))) (zF (ZL inC (vB 1) (za 1 c_g (z9 (vE 0) (zj))))) (nxS))
  (zA (ifS (zL eqC (zb ixT (vE 0) (cE (.int 0))) (cE (.str "row"))) (zF (ZM (za 3 c_a (z9 (vE 1) (z9 (ap1 Zw (zb ixT (vE 0) (cE (.int 1)))) (z9 (ap1 Zw (zb ixT (vE 0) (cE (.int 1)))) (zj))))) (za 2 c_15 (z9 (zb ixT (vE 0) (cE (.int 1))) (z9 (vE 1) (zj)))))) (nxS))
  (zF (ZM (za 3 c_a (z9 (vE 1) (z9 (zb ixT (vE 0) (cE (.int 2))) (z9 (zb ixT (vE 0) (cE (.int 3))) (zj))))) (za 2 c_15 (z9 (zb Z4 (jb (z9 (zb ixT (vE 0) (cE (.int 1))) (zj))) (ap1 Zw (vB 1))) (z9 (vE 1) (zj))))))))
def GB (c_8:List T->R T):En->RS:=
  zF (ap1 vH (Z6 (xt (vE 0) (vE 1)) (Ze 0 1) (Zi) (za 2 c_8 (z9 (vE 0) (z9 (vE 1) (zj)))) 2 []))
def S_8:Nat->Nat->List T->R T
 | 0,_=>λ_=> .bad
 | n+1,0=>λts=>zy (b_8 (f_9) (f_a) (f_g) (S_8 n 1) (en0 2 ts))
 | n+1,_=>λts=>zy (GB (S_8 n 0) (en0 2 ts))
abbrev f_8 (n:Nat):List T->R T:=S_8 n 0
abbrev f_15 (n:Nat):List T->R T:=S_8 n 1
def GC (c_p:List T->R T)(c_8:List T->R T):En->RS:=
  zA (jn (za 1 c_p (z9 (vE 0) (zj))))
  (zF (za 2 c_8 (z9 (vE 0) (z9 (vE 1) (zj)))))
def gf:List T->R T:=λts=>zy (GC (f_p) (f_8 20) (en0 2 ts))
def b_r (c_10:List T->R T):En->RS:=
  ifS (WQ (JN (za 2 c_10 (z9 (vE 0) (z9 (vE 1) (zj)))))) (vR) (nxS)
def f_r:List T->R T:=λts=>zy (b_r (gf) (en0 2 ts))
def b_3 (c_g:List T->R T)(c_j:List T->R T)(c_z:List T->R T):En->RS:=
  zA (ifS (zL eqC (zb ixT (vE 0) (cE (.int 0))) (cE (.str "whole"))) (zF (zb ju (vE 1) (zb ixT (vE 0) (cE (.int 1))))) (nxS))
  (zA (ifS (zL eqC (zb ixT (vE 0) (cE (.int 0))) (cE (.str "pick"))) (zF (Gj Ye (za 1 c_g (z9 (vE 0) (zj))) (vB 1))) (nxS))
  (zA (ifS (zL eqC (zb ixT (vE 0) (cE (.int 0))) (cE (.str "row"))) (zF (za 2 c_z (z9 (zb ixT (vE 0) (cE (.int 1))) (z9 (vE 1) (zj))))) (nxS))
  (zA (zV 2 (ap1 Zw (vB 1)))
  (zF (zb zE (za 2 c_j (z9 (vE 0) (z9 (vE 2) (zj)))) (za 2 c_z (z9 (zb Z4 (jb (z9 (zb ixT (vE 0) (cE (.int 1))) (zj))) (vE 2)) (z9 (vE 1) (zj)))))))))
def b_z (c_1:List T->R T)(c_3:List T->R T):En->RS:=
  zA (zV 2 (cE (.int 0)))
  (zA (jJ (xt (vE 0) (vE 1)) (Ze 3 4) (zV 2 (zb zE (zb Z4 (vE 2) (za 1 c_1 (z9 (vE 3) (zj)))) (za 2 c_3 (z9 (vE 3) (z9 (vE 4) (zj)))))))
  (zF (vE 2)))
def S_3:Nat->Nat->List T->R T
 | 0,_=>λ_=> .bad
 | n+1,0=>λts=>zy (b_3 (f_g) (f_j 20) (S_3 n 1) (en0 3 ts))
 | n+1,_=>λts=>zy (b_z (f_1 20) (S_3 n 0) (en0 5 ts))
abbrev f_3 (n:Nat):List T->R T:=S_3 n 0
abbrev f_z (n:Nat):List T->R T:=S_3 n 1
def b_e (c_r:List T->R T)(c_4:List T->R T)(c_3:List T->R T):En->RS:=
  zA (jn (za 2 c_r (z9 (vE 0) (z9 (vE 1) (zj)))))
  (zA (jn (za 2 c_r (z9 (vE 0) (z9 (vE 2) (zj)))))
  (zA (zV 3 (za 2 c_3 (z9 (vE 0) (z9 (vE 1) (zj)))))
  (zA (zV 4 (za 2 c_3 (z9 (vE 0) (z9 (vE 2) (zj)))))
  (zA (ifS (zL gtC (zb zE (zb ju (vE 4) (vE 3)) (cE (.int 1))) (cE (.int 500))) (vR) (nxS))
  (vQ (jh (vE 3) (zb zE (vE 4) (cE (.int 1)))) (zP 0) (Zi) (za 2 c_4 (z9 (vE 1) (z9 (vE 0) (zj)))) 1 [0])))))
def f_e:List T->R T:=λts=>zy (b_e (f_r) (f_4 20) (f_3 20) (en0 5 ts))
def b_s:En->RS:=
  UQ (ixV 101 0 1 "remaining" (JX (cE (.int 1))))
def f_s:List (Str×Fd)->R T:=λfs=>zy (b_s  (enO 101 1 fs [] []))
def b_t:En->RS:=
  YF 101 0 1 "done"
def f_t:List (Str×Fd)->R T:=λfs=>zy (b_t  (enO 101 1 fs [] []))
def GD (c_c:List T->R T):En->RS:=
  zA (ifS (WQ (JN (ap1 (Ks "list" "tuple") (vE 0)))) (vR) (nxS))
  (jJ (jc (vE 0)) (zP 1) (jn (za 1 c_c (z9 (vE 1) (zj)))))
def gh:List T->R T:=λts=>zy (GD (f_c) (en0 2 ts))
def GE (c_d:List T->R T):En->RS:=
  zF (Z6 (jc (vE 1)) (zP 0) (Zi) (ap1 Zw (Z6 (jc (vE 1)) (zP 0) (JN (za 2 c_d (z9 (vE 1) (z9 (vE 0) (zj))))) (vE 0) 1 [0])) 1 [0])
def gj:List T->R T:=λts=>zy (GE (f_d 8) (en0 2 ts))
def b_x (c_o:List T->R T)(c_1d:List T->R T)(c_1a:List T->R T):En->RS:=
  zA (jn (za 1 c_1d (z9 (vE 1) (zj))))
  (zA (zV 2 (za 1 c_o (z9 (vE 0) (zj))))
  (zA (zV 3 (Z6 (jc (za 2 c_1a (z9 (vE 2) (z9 (vE 1) (zj))))) (zP 0) (Zi) (zb xH (vE 0) (zb ju (ap1 Zw (vB 1)) (vE 0))) 1 [2]))
  (zF (ifE (zL gtC (ap1 Zw (vB 3)) (cE (.int 0))) (Gj Ye (vB 3) (ap1 Yo (vB 3))) (cE .non)))))
def f_x:List T->R T:=λts=>zy (b_x (f_o) (gh) (gj) (en0 4 ts))
def b_f:En->RS:=
  zF (lcpV 101 0 1 "done")
def f_f:List (Str×Fd)->List T->R T:=λfs ts=>zy (b_f  (enO 101 1 fs (ts.take 0) (ts.drop 0)))
def b_1l:En->RS:=
  zF (Zt (z9 (ap1 Zw (xU 101 0 1 "done")) (z9 (ap1 Zw (xU 101 0 1 "undone")) (zj))))
def GF:List (Str×Fd)->List T->R T:=λfs ts=>zy (b_1l  (enO 101 1 fs (ts.take 0) (ts.drop 0)))
def b_0 (c_6:List T->R T)(c_1c:List T->R T)(c_m:List T->R T)(c_e:List T->R T)(c_x:List T->R T)(c_11:List (Str×Fd)->List T->R (T×List (Str×Fd)))(c_1i:List (Str×Fd)->List T->R (T×List (Str×Fd)))(c_s:List (Str×Fd)->R T)(c_f:List (Str×Fd)->List T->R T)(c_t:List (Str×Fd)->R T)(c_1l:List (Str×Fd)->List T->R T):En->RS:=
  zA (zV 1 (za 3 c_1c (z9 (vE 0) (z9 (cE (.int 10)) (z9 (cE (.int 40)) (zj))))))
  (zA (UR 2 3 4 8 (za 1 c_6 (z9 (vE 1) (zj))) (mkA 8 9 101 1 c_11 (z9 (vE 1) (zj))) (z9 (za 3 c_m (z9 (vE 0) (z9 (cE (.int 4000)) (z9 (cE (.int 2)) (zj))))) (z9 (Zt (z9 (cE (.str "unlike")) (zj))) (zj))))
  (zA (drM (Q8 101 3 9 "keep" 1 c_1i (z9 (ixO 4 (cE (.int 0))) (zj))))
  (zA (WX 5 (z9 (uU [1,2] 3 c_e (z9 (vE 0) (z9 (zb ixT (vE 1) (cE (.int 0))) (z9 (zb ixT (vE 1) (JX (cE (.int 1)))) (zj))))) (zj)))
  (zA (UG 5 (jE 101 3 9 c_s))
  (zA (UG 5 (jE 101 3 9 c_t))
  (zA (zV 6 (Gm 4))
  (zA (KO 7 (za 2 c_x (z9 (vE 1) (z9 (vE 4) (zj)))))
  (zA (ifS (orT (zL neC (vB 4) (vB 6)) (zL neC (za 2 c_x (z9 (vE 1) (z9 (Gn 4) (zj)))) (vB 7))) (zF (cE (.bl false))) (nxS))
  (zA (stI 4 0 (Zt (z9 (cE (.str "rising")) (zj))))
  (KI (xQ (ZM (ZL eqC (vB 5) (zb Z4 (jb (z9 (cE (.bl true)) (zj))) (cE (.int 3)))) (ZM (ZL eqC (u9 101 3 9 0 c_f zj) (jb (z9 (Zt (z9 (cE (.str "keep")) (z9 (zb ixT (vE 6) (cE (.int 0))) (zj)))) (zj)))) (ZL eqC (u9 101 3 9 0 c_1l zj) (Zt (z9 (cE (.int 1)) (z9 (cE (.int 0)) (zj))))))))))))))))))
def f_0:List T->R T:=λts=>zy (b_0 (f_6 8) (KS) (f_m 8) (f_e) (f_x) (xY) (gc) (f_s) (f_f) (f_t) (GF) (enS 10 ts))
end G
namespace G
open PySem L2 PV
noncomputable abbrev scr (ns:List Int):T:= .fz (ns.map T.int)
theorem xZ (ns:List Int)(k:Int)(h0:0<=k):∃c,KQ [scr ns,.int k]= .ok (.int c):=by
 have e1:KQ [scr ns,.int k]=zy (if decide (k < ((ns.map T.int).length))=true then (atT (ns.map T.int) k).s (λt=> .rt t) else
   match (eqC (scr ns) (.lst [])).s (λb=>if b=true then RS.rt (.int 0) else .nx [.vl (scr ns),.vl (.int k)]) with
   | .nx ρ' =>zF (zb zE (zb Z4 (zb ixT (vE 0) (zb jP (vE 1) (ap1 Zw (vB 0)))) (cE (.int 31))) (vE 1)) ρ'
   | r=>r):=by
  show zy (match (if decide _=true then (atT _ k).s (λt=>RS.rt t) else .nx _) with
   | .nx ρ' =>_
   | r=>r)=_
  cases decide (k < ((ns.map _).length:Int)) with
  | true=>
   unfold atT;cases atI _ k <;> rfl
  | false=>rfl
 rw[e1,ae]
 by_cases hk:k < (ns.length)
 ·obtain⟨v,hv⟩:∃v,ns[k.toNat]? =some v:=⟨ns[k.toNat]'(by omega),aj (by omega)⟩
  have ea:atI (ns.map T.int) k=some (.int v):=by
   have:k=((k.toNat):Int):=by omega
   rw[this];exact ZY (by rw[ak,hv];rfl)
  rw[decide_eq_true hk];exact⟨v,by unfold atT;rw[ea];rfl⟩
 ·rw[decide_eq_false hk];cases ns with
  | nil=>exact⟨0,rfl⟩
  | cons x xs=>
   have hm0:=i8 k (show (((x :: xs).length):Int) ≠ 0 by simp only[ar];omega)
   have hm1:=fv k (show (0) < (((x :: xs).length):Int) by simp only[ar];omega)
   obtain⟨v,hv⟩:∃v,(x :: xs)[(k % (((x :: xs).length):Int)).toNat]? =some v:=⟨_,aj (by omega)⟩
   have ea:atI ((x :: xs).map T.int) (k % (((x :: xs).length):Int))=some (.int v):=by
    have e:k % (((x :: xs).length):Int)=(((k % (((x :: xs).length):Int)).toNat:Nat):Int):=by omega
    rw[e];exact ZY (by rw[ak,hv];rfl)
   have cm:WP v 31:= .inr ⟨by decide,by decide⟩
   have hp:(0:Int) < (((x :: xs).map T.int).length):=by simp only[ae,ar];omega
   refine⟨v*31+k, ?_⟩;show zy (((((if 0 < (((x :: xs).map _).length:Int) then R.ok _ else .bad).bind λy=>ixT _ y).bind λa=>Z4 a _).bind λa=>zE a _).s λt=> .rt t)=_
   rw[if_pos hp];show zy ((((atT _ _).bind λa=>Z4 a _).bind λa=>zE a _).s λt=> .rt t)=_;rw[ae];unfold atT;rw[ea];show zy ((((if WP v 31 then R.ok _ else .bad)).bind λa=>zE a _).s λt=> .rt t)=_
   rw[if_pos cm];rfl
theorem zT (ns:List Int)(k m:Int)(h0:0<=k)(hm:0 < m):∃p,f_5 [scr ns,.int k,.int m]= .ok (.int p)/\0<=p/\p < m:=by
 obtain⟨c,hc⟩:=xZ ns k h0;have cm2:WP (c+6151*(k+1)) 40692:= .inr ⟨by decide,by decide⟩
 generalize hd:(c+6151*(k+1))*40692 % 2147483399=d;have cm3:WP d d:= .inl ⟨by omega,by omega⟩
 refine⟨(d*d+d / 31) % 2147483629 % m, ?_,i8 _ (by omega),fv _ hm⟩
 have e1:f_5 [scr ns,.int k,.int m]=zy (match ((((((KQ _).bind λx=>(Z4 (.int 6151) (.int _)).bind λy=>zE x y).bind λx=>Z4 x _).bind λx=>jP x _)).s λt=>RS.nx _) with
   | .nx ρ' =>zF _ ρ'
   | r=>r):=rfl
 rw[e1,hc];show zy (match ((((if WP _ _ then R.ok _ else .bad)).bind λx=>jP x _).s λt=>RS.nx _) with
   | .nx ρ' =>_
   | r=>r)=_
 rw[if_pos cm2];show zy (zF _ _)=_;rw[hd];show zy (((((if WP d d then R.ok _ else .bad).bind λx=>zE x _).bind λx=>jP x _).bind λx=>jP x _).s λt=>RS.rt t)=_
 rw[if_pos cm3];show zy ((if 0 < m then R.ok _ else .bad).s λt=>RS.rt t)=_
 rw[if_pos hm];rfl
theorem YH:∀(ts:List T) (ρ:En) (x:Sl),zG (zP 0) ft fe ts (ρ.set 0 x)=zG (zP 0) ft fe ts ρ
 | [],_,_=>rfl
 | t :: ts,ρ,x=>by
  unfold zG zP;rw[List.set_set]
theorem j3 {p:T->Bool}{h:T->T}:∀(ts:List T) (ρ:En),(∀t∈ts,ft (ρ.set 0 (.vl t))= .ok (p t)/\(p t=true->fe (ρ.set 0 (.vl t))= .ok (h t)))->zG (zP 0) ft fe ts ρ= .ok ((ts.filter p).map h)
 | [],_,_=>rfl
 | t :: ts,ρ,H=>by
  obtain⟨h1,h2⟩:=H t ab;have ih:=j3 ts ρ λu hu=>H u (a8 _ hu);have e:zG (zP 0) ft fe (t :: ts) ρ=(ft _).bind λk=>if k=true then (fe _).bind λv=>(zG _ ft fe ts _).bind λvs=> .ok _ else zG _ ft fe ts _:=rfl
  rw[e,h1,YH,ih];show (if p t=true then _ else _)=_
  cases hp:p t with
  | true=>rw[h2 hp,List.filter_cons_of_pos hp];rfl
  | false=>rw[if_neg aH,List.filter_cons_of_neg (by rw[hp];exact aH)]
theorem YI {h:T->T}(ts:List T)(ρ:En)(H:∀t∈ts,fe (ρ.set 0 (.vl t))= .ok (h t)):zG (zP 0) Zi fe ts ρ= .ok (ts.map h):=by
 have:=j3 (ft:=Zi) ts ρ λt ht=>⟨rfl,λ_=>H t ht⟩;rw[this,List.filter_eq_self.mpr (λ_ _=>rfl)]
theorem Z2 {h:T->T}{js:List Nat}(ts:List T)(hl:ts.length<=bnd)(H:∀t∈ts,fe ((Jb k js ρ).set 0 (.vl t))= .ok (h t)):zD (zP 0) Zi fe k js ρ ts= .ok (ts.map h):=by
 unfold zD;rw[if_pos hl,YI ts _ H];rfl
theorem Jd (p:T->Bool):∀ts:List T,Wl (ts.map λt=>T.bl (p t))=some (ts.all p)
 | []=>rfl
 | t :: ts=>by
  show (match Wl (ts.map λt=>T.bl _) with | some j=>some _ | none=>none)=_
  rw[Jd p ts];rfl
noncomputable def isW:T->Bool
 | .int _=>true
 | _=>false
theorem wL (t:T):f_9 [t]= .ok (.bl (isW t)):=by cases t <;> rfl
noncomputable def v6 (a b:Nat):T->Bool
 | .tup xs=>decide (a<=xs.length) && decide (xs.length<=b)
 | _=>false
theorem ZA (t:T)(a b:Nat):f_a [t,.int a,.int b]= .ok (.bl (v6 a b t)):=by
 cases t with
 | tup xs=>
  show zy ((if decide _=true then R.ok _ else .ok _).s λt=> .rt t)=_
  have e1:decide ((a:Int)<=(xs.length))=decide (a<=xs.length):=by simp
  have e2:decide ((xs.length:Int)<=(b))=decide (xs.length<=b):=by simp
  rw[e1,e2];show _=R.ok (T.bl (decide _ && decide _));cases decide (a<=xs.length) <;> rfl
 | _=>rfl
noncomputable def J4 (lo hi:Int):T->T->Bool
 | .int i,.int j=>decide (lo<=i) && decide (i<=j) && decide (j<=hi)
 | _,_=>false
theorem YJ (t u:T)(lo hi:Int):KT [t,u,.int lo,.int hi]= .ok (.bl (J4 lo hi t u)):=by
 cases t with
 | int i=>
  cases u with
  | int j=>
   show zy ((if decide _=true then (if decide _=true then R.ok _ else .ok _) else .ok _).s λt=> .rt t)=_
   show _=R.ok (T.bl (decide _ && decide _ && decide _));cases decide (lo<=i) <;> cases decide (i<=j) <;> rfl
  | _=>rfl
 | _=>cases u <;> rfl
noncomputable def Zv (c:Nat):Bool:=decide (97<=c) && decide (c<=122)
def Zr:T->Bool
 | .str x=>decide (1<=x.length) && decide (x.length<=3) && x.cps.toList.all Zv
 | _=>false
theorem V7 (a b:Nat):decide ([a] < [b])=decide (a < b):=by
 by_cases h:a < b
 ·rw[decide_eq_true h];exact decide_eq_true (List.Lex.rel h)
 ·rw[decide_eq_false h];refine decide_eq_false λz=> ?_;cases z with
  | rel h' =>exact h h'
  | cons h' =>cases h'
theorem X0 (c:Nat)(ρ:En):chE leC leC (cE (.str "a")) (vB 0) (cE (.str "z")) ((Sl.vl (.str ⟨#[c]⟩)) :: ρ)= .ok (.bl (Zv c)):=by
 have e1:leC (.str "a") (.str ⟨#[c]⟩)= .ok (decide (97<=c)):=by
  show R.ok (!decide ([c] < [97]))=_;rw[V7]
  by_cases h:c < 97
  ·rw[decide_eq_true h,decide_eq_false (by omega)];rfl
  ·rw[decide_eq_false h,decide_eq_true (by omega)];rfl
 have e2:leC (.str ⟨#[c]⟩) (.str "z")= .ok (decide (c<=122)):=by
  show R.ok (!decide ([122] < [c]))=_;rw[V7]
  by_cases h:122 < c
  ·rw[decide_eq_true h,decide_eq_false (by omega)];rfl
  ·rw[decide_eq_false h,decide_eq_true (by omega)];rfl
 show (leC (.str "a") (.str _)).bind (λk=>if k=true then (leC (.str _) (.str "z")).bind λk' =>R.ok (T.bl k') else R.ok _)=_
 rw[e1,e2];unfold Zv;cases decide (97<=c) <;> rfl
def X1:T->Prop
 | .str x=>x.length<=bnd
 | _=>True
theorem YK (t:T)(ht:X1 t):f_q [t]= .ok (.bl (Zr t)):=by
 cases t with
 | str x=>
  have hx:=ht;have e0:Zw (.str x)= .ok _:=if_pos hx;have ec:zD (zP 0) Zi (chE leC leC (cE (.str "a")) (vB 0) (cE (.str "z"))) 1 [] [.vl (.str x)] (Jv x)= .ok (x.cps.toList.map λc=>T.bl (Zv c)):=by
   have hs:(Jv x).length<=bnd:=by unfold Jv;rw[ae];exact hx
   have:=Z2 (h:=λt=>match t with | .str y=>T.bl (Zv (y.cps.toList.headD 0)) | t=>t) (k:=1) (js:=[]) (ρ:=[.vl (.str x)]) _ hs λt ht=>by
    obtain⟨c,_,rfl⟩:=aN.mp ht;exact X0 c []
   rw[this];unfold Jv;rw[bb];rfl
  have ea:Wl (x.cps.toList.map λc=>T.bl (Zv c))=some (x.cps.toList.all Zv):=by
   have:=Jd (λt=>match t with | .str y=>Zv (y.cps.toList.headD 0) | _=>true) (Jv x)
   unfold Jv at this;rw[bb,fI]at this;exact this
  have e1:f_q [.str x]=zy (match ((((Zw (.str x)).bind λy=>(leC _ y).bind λk=>if k=true then leC y _ else .ok _).bind λb=> .ok _).s λk=>if k=true then RS.rt _ else .nx _) with
    | .nx ρ' =>zF _ ρ'
    | r=>r):=rfl
  rw[e1,e0];have c1:decide ((1:Int)<=(x.length))=decide (1<=x.length):=by
   by_cases h:1<=x.length
   ·rw[decide_eq_true h];exact decide_eq_true (by omega)
   ·rw[decide_eq_false h];exact decide_eq_false (by omega)
  have c2:decide ((x.length:Int)<=(3))=decide (x.length<=3):=by
   by_cases h:x.length<=3
   ·rw[decide_eq_true h];exact decide_eq_true (by omega)
   ·rw[decide_eq_false h];exact decide_eq_false (by omega)
  show zy (match ((((if decide _=true then R.ok _ else .ok _)).bind λb=> .ok _).s λk=>if k=true then RS.rt _ else .nx _) with
    | .nx ρ' =>_
    | r=>r)=_
  rw[c1,c2];show _=R.ok (T.bl (decide _ && decide _ && x.cps.toList.all _));cases decide (1<=x.length) with
  | false=>rfl
  | true=>
   cases decide (x.length<=3) with
   | false=>rfl
   | true=>
    show zy ((((zD _ _ _ 1 [] [.vl _] _).bind λvs=> .ok _).bind vH).s λt=> .rt t)=_;rw[ec];show zy ((match Wl (x.cps.toList.map λc=>T.bl _) with | some k=>R.ok _ | none=> .bad).s λt=> .rt t)=_
    rw[ea];rfl
 | _=>rfl
theorem bOk {α β:Type}(a:α)(f:α->R β):(R.ok a).bind f=f a:=rfl
theorem ZC {α:Type}(a:α)(f:α->RS):(R.ok a).s f=f a:=rfl
theorem J6 (r:R T):zy (r.s λt=> .rt t)=r:=by cases r <;> rfl
theorem Zh (f:En->R T)(ρ:En):zF f ρ=(f (frz ρ)).s λt=> .rt t:=rfl
theorem zQ:za 1 g (z9 f zj) ρ=(f ρ).bind λx=>g [x]:=by
 unfold za z9 zj;cases f ρ <;> rfl
theorem zS:za 2 g (z9 f (z9 f' zj)) ρ=(f ρ).bind λx=>(f' ρ).bind λy=>g [x,y]:=by
 unfold za z9 zj;cases f ρ with
 | ok a=>cases f' ρ <;> rfl
 | ex c=>rfl
 | bad=>rfl
theorem Zj:za 3 g (z9 f (z9 f' (z9 f'' zj))) ρ=(f ρ).bind λx=>(f' ρ).bind λy=>(f'' ρ).bind λz=>g [x,y,z]:=by
 unfold za z9 zj;cases f ρ with
 | ok a=>
  cases f' ρ with
  | ok b=>cases f'' ρ <;> rfl
  | ex c=>rfl
  | bad=>rfl
 | ex c=>rfl
 | bad=>rfl
theorem z1f:za 4 g (z9 f (z9 f' (z9 f'' (z9 f3 zj)))) ρ=(f ρ).bind λx=>(f' ρ).bind λy=>(f'' ρ).bind λz=>(f3 ρ).bind λw=>g [x,y,z,w]:=by
 unfold za z9 zj;cases f ρ with
 | ok a=>
  cases f' ρ with
  | ok b=>
   cases f'' ρ with
   | ok c=>cases f3 ρ <;> rfl
   | ex c=>rfl
   | bad=>rfl
  | ex c=>rfl
  | bad=>rfl
 | ex c=>rfl
 | bad=>rfl
def GG (r k:R T):R T:=r.bind λx=>match x with
 | .bl true=>k
 | .bl false=> .ok (.bl false)
 | _=> .bad
theorem jF (f g:En->R T)(ρ:En):ZM f g ρ=GG (f ρ) (g ρ):=rfl
theorem Zu (a:Bool)(k:R T):GG (.ok (.bl a)) k=if a=true then k else .ok (.bl false):=by cases a <;> rfl
theorem v0:vE 0 (.vl t :: ρ)= .ok t:=rfl
theorem v1:vE 1 (a :: .vl t :: ρ)= .ok t:=rfl
theorem w0:vB 0 (.vl t :: ρ)= .ok t:=rfl
theorem w1:vB 1 (a :: .vl t :: ρ)= .ok t:=rfl
theorem zZ:cE t ρ= .ok t:=rfl
theorem zv:zb g f f' ρ=(f ρ).bind λx=>(f' ρ).bind λy=>g x y:=rfl
theorem j4:frz (.vl t :: ρ)= .vl t :: frz ρ:=rfl
theorem wM:frz (.un :: ρ)= .un :: frz ρ:=rfl
theorem jq:frz []=[]:=rfl
theorem YL:chE g g' fa fb fc ρ=(fa ρ).bind λx=>(fb ρ).bind λy=>(g x y).bind λk=>if k=true then (fc ρ).bind λz=>(g' y z).bind λk' => .ok (.bl k') else .ok (.bl false):=rfl
theorem ZO {g:T->R T}:ap1 g f ρ=(f ρ).bind g:=rfl
theorem wN:leC (.int i) (.int j)= .ok (decide (i<=j)):=rfl
theorem ZT:ZL g f f' ρ=(f ρ).bind λx=>(f' ρ).bind λy=>(g x y).bind λb=> .ok (.bl b):=rfl
theorem wO:Zw (.tup xs)= .ok (.int xs.length):=rfl
theorem gm:Zw (.lst xs)= .ok (.int xs.length):=rfl
mutual
noncomputable def sOk:T->Prop
 | .str x=>x.length<=bnd
 | .tup xs=>uW xs
 | .lst xs=>uW xs
 | .fz xs=>uW xs
 | _=>True
noncomputable def uW:List T->Prop
 | []=>True
 | t :: ts=>sOk t/\uW ts
end
theorem jG:∀{ts:List T} {t:T},uW ts->t∈ts->sOk t
 | u :: ts,t,h,hm=>by
  have h' :=by simpa only[uW] using h
  rcases ah.mp hm with rfl | hm
  ·exact h'.1
  ·exact jG h'.2 hm
theorem sOk.str (h:sOk t):X1 t:=by
 cases t with
 | str x=>
  have h' :=by simpa only[sOk] using h
  exact h'
 | _=>trivial
theorem wP {xs:List T}(h:sOk (.tup xs)):uW xs:=by simpa only[sOk] using h
def Z0:T->Bool
 | .tup [w,.int i]=>Zr w && decide (1<=i) && decide (i<=20)
 | _=>false
theorem YM (t:T)(ht:sOk t):f_y [t]= .ok (.bl (Z0 t)):=by
 have e:f_y [t]=zy (b_y _ _ _ [.vl t]):=rfl;rw[e,b_y];simp only[Zh,J6,j4,jq,jF,Zj,zQ,v0,zZ,bOk,zv,YL];rw[show f_a [t,.int 2,.int 2]= .ok _ from ZA t 2 2,Zu];cases t with
 | tup xs=>
  match xs,ht with
  | [],_=>rfl
  | [_],_=>rfl
  | _ :: _ :: _ :: _,_=>simp[v6,Z0]
  | [w,n],ht=>
   have hw:sOk w:=jG (wP ht) (by simp)
   show (if true=true then GG (f_q [w]) (GG (f_9 [n]) ((leC _ n).bind λk=>if k=true then (leC n _).bind λk' =>R.ok _ else .ok _)) else _)=_
   rw[YK w hw.str,wL,Zu,Zu];cases n with
   | int i=>
    show (if Zr w=true then (if true=true then (if decide _=true then R.ok _ else .ok _) else _) else _)=R.ok (T.bl (Zr w && decide _ && decide _))
    cases Zr w <;> cases decide (1<=i) <;> rfl
   | _=>
    cases Zr w <;> rfl
 | _=>rfl
theorem Z5 (f g:En->RS)(ρ:En):zA f g ρ=match f ρ with | .nx ρ' =>g ρ' | r=>r:=rfl
theorem ZV (g:En->R Bool)(f1 f2:En->RS)(ρ:En):ifS g f1 f2 ρ=(g ρ).s λk=>if k=true then f1 ρ else f2 ρ:=rfl
theorem YN (f g:En->R Bool)(ρ:En):orT f g ρ=(f ρ).bind λx=>if x=true then .ok true else g ρ:=rfl
theorem Wv (f:En->R Bool)(ρ:En):WQ f ρ=(f ρ).bind λx=> .ok (!x):=rfl
theorem Jx (f:En->R T)(ρ:En):JN f ρ=(f ρ).bind tru:=rfl
theorem YO (k:Bool):tru (.bl k)= .ok k:=rfl
theorem J7 (i:Nat)(f:En->R T)(ρ:En):zV i f ρ=(f ρ).s λt=> .nx (ρ.set i (.vl t)):=rfl
theorem zU:zL g f f' ρ=(f ρ).bind λx=>(f' ρ).bind λy=>g x y:=rfl
theorem Zb {g:T->En->R En}{js:List Nat}:Z6 fi g ft fe k js ρ=(fi ρ).bind λts=>(zD g ft fe k js ρ ts).bind λvs=> .ok (.lst vs):=rfl
theorem jk:jc f ρ=(f ρ).bind jZ:=rfl
noncomputable def ZP:T->Str
 | .tup (.str w :: _)=>w
 | _=>⟨#[]⟩
def uX:T->Bool
 | .tup cs=>decide (1<=cs.length) && decide (cs.length<=4) && cs.all Z0 && decide ((dd [] (cs.map ZP)).length=cs.length)
 | _=>false
theorem Ww (h:Z0 c=true):∃w n,c= .tup [.str w,n]:=by
 unfold Z0 at h;split at h
 ·rename_i w i;cases w with
  | str x=>exact⟨x,_,rfl⟩
  | _=>cases h
 ·cases h
theorem wg:∀{cs:List T},cs.all Z0=true->yh (cs.map λc=>T.str (ZP c))=some (cs.map ZP)
 | [],_=>rfl
 | c :: cs,h=>by
  rw[cu,ac]at h;have ih:=wg h.2;show (match yh (cs.map λc=>T.str _) with | some ys=>some _ | none=>none)=_
  rw[ih];rfl
theorem US (t:T)(ht:sOk t):f_w [t]= .ok (.bl (uX t)):=by
 have e:f_w [t]=zy (b_w _ _ [.vl t,.un]):=rfl;rw[e,b_w];simp only[Z5,ZV,YN,Wv,Jx,Zj,v0,zZ,bOk];rw[show f_a [t,.int 1,.int 4]= .ok _ from ZA t 1 4];cases t with
 | tup cs=>
  have hl:v6 1 4 (.tup cs)=(decide _ && decide _):=rfl;rw[hl];show _=R.ok (T.bl (decide _ && decide _ && cs.all _ && decide _));cases h14:(decide (1<=cs.length) && decide (cs.length<=4)) with
  | false=>rfl
  | true=>
   rw[ac,decide_eq_true_eq,decide_eq_true_eq]at h14;have hb:cs.length<=bnd:=aC h14.2 (by decide)
   have ec:zD _ _ (za 1 f_y (z9 (vE 0) zj)) 1 [] [.vl (.tup cs),.un] cs= .ok (cs.map λc=>T.bl _):=
    Z2 cs hb λc hc=>by
     exact YM c (jG (wP ht) hc)
   simp only[dL,aO,if_false,ZO,Zb,jk,v0,bOk,jZ,ec];have ea:vH (.lst (cs.map λc=>T.bl (Z0 c)))= .ok (.bl (cs.all Z0)):=by
    show (match Wl (cs.map λc=>T.bl _) with | some k=>R.ok _ | none=> .bad)=_
    rw[Jd]
   rw[ea];simp only[bOk,YO,ZC];cases hall:cs.all _ with
   | false=>rfl
   | true=>
    have ew:zD _ _ (zb ixT (vE 0) (cE (.int 0))) 1 [] [.vl (.tup cs),.un] cs= .ok (cs.map λc=>T.str (ZP c)):=
     Z2 cs hb λc hc=>by
      obtain⟨w,n,rfl⟩:=Ww (aQ.mp hall c hc);rfl
    simp only[dL,aO,if_false,nxS,J7,Zb,jk,v0,bOk,jZ,ew,ZC,Zh];show zy (((QB (.lst (cs.map λc=>T.str _))).bind λx=>(Zw (.lst (cs.map λc=>T.str _))).bind λy=>(eqC x y).bind λb=>R.ok _).s λt=> .rt t)=_;have el:QB (.lst (cs.map λc=>T.str (ZP c)))= .ok (.int (dd [] (cs.map ZP)).length):=by
     show (match yh (cs.map λc=>T.str _) with | some ys=>if (cs.map λc=>T.str _).length+1 < 4096 then R.ok _ else .bad | none=> .bad)=_
     rw[wg hall];exact if_pos (by rw[ae];omega)
    rw[el,gm,ae];show R.ok _=_;congr 2
    by_cases hq:(dd [] (cs.map ZP)).length=cs.length
    ·rw[hq];simp
    ·rw[decide_eq_false hq];simp only[fj,beq_eq_false_iff_ne];omega
 | _=>rfl
noncomputable def isS (w:Str):T->Bool
 | .str s=>s == w
 | _=>false
theorem eqS (h:T)(w:Str):eqC h (.str w)= .ok (isS w h):=by cases h <;> rfl
theorem eqI (i j:Int):eqC (.int i) (.int j)= .ok (i == j):=rfl
theorem at0:ixT (.tup (h :: r)) (.int 0)= .ok h:=by
 show atT _ 0=_;unfold atT;rw[show atI _ 0=some h from ZY rfl]
theorem at1:ixT (.tup (h :: a :: r)) (.int 1)= .ok a:=by
 show atT _ 1=_;unfold atT;rw[show atI _ 1=some a from ZY rfl]
theorem at2:ixT (.tup (h :: a :: b :: r)) (.int 2)= .ok b:=by
 show atT _ 2=_;unfold atT;rw[show atI _ 2=some b from ZY rfl]
theorem at3:ixT (.tup (h :: a :: b :: c :: r)) (.int 3)= .ok c:=by
 show atT _ 3=_;unfold atT;rw[show atI _ 3=some c from ZY rfl]
noncomputable def Jy (k:T->Bool):T->Bool
 | .tup ks=>decide (1<=ks.length) && decide (ks.length<=3) && ks.all k
 | _=>false
def Wx:List T->Bool
 | [a,b]=>J4 (-20) 20 a b
 | _=>false
def YQ:List T->Bool
 | [c]=>uX c
 | _=>false
def gp (k:T->Bool):List T->Bool
 | [c]=>Jy k c
 | _=>false
def YR (k:T->Bool):List T->Bool
 | [c,a,b]=>J4 0 3 a b && k c
 | _=>false
def UT (k:T->Bool):T->Bool
 | .tup (h :: r)=>if isS "whole" h=true then Wx r else if isS "pick" h=true then YQ r else if isS "row" h=true then gp k r else if isS "many" h=true then YR k r else false
 | _=>false
def isK:Nat->T->Bool
 | 0,_=>false
 | d+1,t=>UT (isK d) t
theorem YS {α:Type}(xs:List α)(n:Nat):((xs.length:Int) == (n:Int))=decide (xs.length=n):=by
 by_cases h:xs.length=n
 ·rw[h];simp
 ·rw[decide_eq_false h,beq_eq_false_iff_ne];omega
theorem V8:JX f ρ=(f ρ).bind λx=>match x with | .int i=> .ok (.int (-i)) | _=> .bad:=rfl
theorem Zk:ju (.int i) (.int j)= .ok (.int (i - j)):=rfl
set_option maxHeartbeats 1000000 in
theorem X2 {n:Nat}{d:Nat}{k:T->Bool}(H0:∀t,sOk t->S_7 n 0 [t,.int d]= .ok (.bl (k t)))(H1:∀t,sOk t->S_7 n 1 [t,.int d]= .ok (.bl (Jy k t)))(t:T)(ht:sOk t):
  S_7 (n+1) 0 [t,.int ((d+1:Nat):Int)]= .ok (.bl (UT k t)):=by
 have e:S_7 (n+1) 0 [t,.int ((d+1:Nat))]=zy (b_7 KT _ f_w _ [.vl t,.vl (.int _)]):=rfl;have hL:(((d+1:Nat):Int) == 0)=false:=by rw[beq_eq_false_iff_ne];omega
 have hL1:((d+1:Nat)) - 1=(d:Int):=by omega
 rw[e,b_7];simp only[Z5,ZV,YN,Wv,Jx,zU,w0,w1,zZ,bOk,eqI,hL,aO,if_false,ZO];cases t with
 | tup xs=>
  cases xs with
  | nil=>rfl
  | cons h r=>
   have hs:=wP ht;have hm:∀u∈r,sOk u:=λu hu=>jG hs (a8 _ hu);have z0:(((h :: r).length:Int) == 0)=false:=by rw[beq_eq_false_iff_ne];simp only[ar];omega
   have ti:yg "tuple" (.tup (h :: r))= .ok (.bl true):=rfl;simp only[ti,bOk,YO,dL,aO,if_false,wO,eqI,z0,ZC,nxS,zv,v0,v1,zZ,at0,eqS,Zh,j4,jq,jF,ZT,ZO,w0,z1f,zQ,zS,V8,Zk,hL1];show _=R.ok (T.bl (if isS "whole" h=true then Wx r else if isS "pick" h=true then YQ r else if isS "row" h=true then gp k r else if isS "many" h=true then YR k r else false))
   have l3:(((h :: r).length:Int) == 3)=decide _:=YS (h :: r) 3;have l2:(((h :: r).length:Int) == 2)=decide _:=YS (h :: r) 2;have l4:(((h :: r).length:Int) == 4)=decide _:=YS _ 4;simp only[l2,l3,l4,Zu];cases isS _ h with
   | true=>
    match r,hm with
    | [],_=>rfl
    | [_],_=>rfl
    | _ :: _ :: _ :: _,_=>simp[Wx,ZC,zy]
    | [a,b],_=>
     simp only[at1,at2,bOk,YJ];rfl
   | false=>
    simp only[aO,if_false,v0,v1,w0,bOk,at0,ZC,j4,jq,wO,eqI,l2,l4,Zu,Zk,hL1];cases isS _ h with
    | true=>
     match r,hm with
     | [],_=>rfl
     | _ :: _ :: _,_=>simp[YQ,ZC,zy]
     | [c],hm=>
      simp only[at1,bOk,US c (hm c (by simp))]
      rfl
    | false=>
     simp only[aO,if_false,v0,v1,w0,bOk,at0,ZC,j4,jq,wO,eqI,l2,l4,Zu,Zk,hL1];cases isS _ h with
     | true=>
      match r,hm with
      | [],_=>rfl
      | _ :: _ :: _,_=>simp[gp,ZC,zy]
      | [c],hm=>
       simp only[at1,bOk,H1 c (hm c (by simp))]
       rfl
     | false=>
      simp only[aO,if_false,v0,v1,w0,bOk,at0,ZC,j4,jq,wO,eqI,l2,l4,Zu,Zk,hL1];cases isS _ h with
      | true=>
       match r,hm with
       | [],_=>rfl
       | [_],_=>rfl
       | [_,_],_=>rfl
       | _ :: _ :: _ :: _ :: _,_=>simp[YR,ZC,zy]
       | [c,a,b],hm=>
        simp only[at1,at2,at3,bOk,YJ,H0 c (hm c (by simp)),Zu]
        show zy (match (if J4 0 3 a b=true then R.ok _ else .ok _).s (λt=>RS.rt t) with | .nx _=>RS.rt _ | r=>r)=R.ok (T.bl (J4 0 3 a b && k c))
        cases J4 0 3 a b <;> rfl
      | false=>rfl
 | _=>rfl
theorem gq {k:T->Bool}(H0:∀t,sOk t->S_7 n 0 [t,.int d]= .ok (.bl (k t)))(t:T)(ht:sOk t):S_7 (n+1) 1 [t,.int d]= .ok (.bl (Jy k t)):=by
 have e:S_7 (n+1) 1 [t,.int d]=zy (Gr f_a (S_7 n 0) [.vl t,.vl (.int d)]):=rfl;rw[e,Gr];simp only[Zh,J6,j4,jq,jF,Zj,v0,zZ,bOk];rw[show f_a [t,.int 1,.int 3]= .ok (.bl (v6 1 3 t)) from ZA t 1 3,Zu];cases t with
 | tup ks=>
  show (if (decide (1<=ks.length) && decide (ks.length<=3))=true then _ else _)=R.ok (T.bl (decide (1<=ks.length) && decide (ks.length<=3) && ks.all k))
  cases h13:(decide (1<=ks.length) && decide (ks.length<=3)) with
  | false=>rfl
  | true=>
   rw[ac,decide_eq_true_eq,decide_eq_true_eq]at h13;have hb:ks.length<=bnd:=aC h13.2 (by decide)
   have ec:zD (zP 0) Zi (za 2 (S_7 n 0) (z9 (vE 0) (z9 (vE 1) zj))) 1 [1] [.vl (.tup ks),.vl (.int d)] ks= .ok (ks.map λc=>T.bl (k c)):=
    Z2 (h:=λc=>T.bl (k c)) ks hb λc hc=>by
     show za 2 (S_7 n 0) (z9 (vE 0) (z9 (vE 1) zj)) [.vl c,.vl (.int d)]=_;rw[zS,v0,v1,bOk,bOk];exact H0 c (jG (wP ht) hc)
   simp only[if_true,ZO,Zb,jk,v0,bOk,jZ,ec];show (match Wl (ks.map λc=>T.bl (k c)) with | some k=>R.ok (T.bl k) | none=> .bad)=_
   rw[Jd];rfl
 | _=>rfl
theorem ua:∀(d n:Nat),2*d+1<=n->∀t,sOk t->S_7 n 0 [t,.int d]= .ok (.bl (isK d t))
 | 0,n+1,_,t,_=>rfl
 | d+1,n+2,h,t,ht=>X2 (n:=n+1) (λu hu=>ua d (n+1) (by omega) u hu) (λu hu=>gq (λv hv=>ua d n (by omega) v hv) u hu) t ht
theorem UU (t:T)(ht:sOk t):f_2 [t]= .ok (.bl (isK 3 t)):=by
 have e:f_2 [t]=zy (b_2 (f_7 20) [.vl t]):=rfl;rw[e,b_2];simp only[Zh,J6,j4,jq,zS,v0,zZ,bOk];exact ua 3 20 (by omega) t ht
noncomputable def inR (lo hi:Int):T->Bool
 | .int i=>decide (lo<=i) && decide (i<=hi)
 | _=>false
theorem Wy:∀(ws acc:List Str),(dd acc ws).length<=acc.length+ws.length
 | [],acc=>ai _
 | w :: ws,acc=>by
  unfold dd;have:=Wy ws (if w∈acc then acc else acc++[w])
  by_cases h:w∈acc
  ·rw[if_pos h]at this ⊢;simp only[ar];omega
  ·rw[if_neg h]at this ⊢;rw[aA,aK]at this;simp only[ar];omega
theorem wQ:∀(ws acc:List Str),((dd acc ws).length=acc.length+ws.length)↔∀(k:Nat) (w:Str),ws[k]? =some w->w ∉ acc++ws.take k
 | [],acc=>by simp[dd]
 | w :: ws,acc=>by
  unfold dd
  by_cases h:w∈acc
  ·rw[if_pos h];have:=Wy ws acc;constructor
   ·intro e;simp only[ar]at e;omega
   ·intro H;exact absurd (cC _ h) (H 0 w rfl)
  ·rw[if_neg h];have ih:=wQ ws (acc++[w]);rw[aA,aK]at ih;rw[show acc.length+(w :: ws).length=acc.length+1+ws.length by simp only[ar];omega,ih]
   constructor
   ·intro H k v e;cases k with
    | zero=>simp at e;subst e;simpa using h
    | succ k=>
     have:=H k v (by simpa using e)
     simpa[bf] using this
   ·intro H k v e;have:=H (k+1) v (by simpa using e)
    simpa[bf] using this
theorem ltI (i j:Int):ltC (.int i) (.int j)= .ok (decide (i < j)):=rfl
theorem v2 {t:T}{a b:Sl}{ρ:En}:vE 2 (a :: b :: .vl t :: ρ)= .ok t:=rfl
theorem v3 {t:T}{a b c:Sl}{ρ:En}:vE 3 (a :: b :: c :: .vl t :: ρ)= .ok t:=rfl
theorem w2 {t:T}{a b:Sl}{ρ:En}:vB 2 (a :: b :: .vl t :: ρ)= .ok t:=rfl
theorem w3 {t:T}{a b c:Sl}{ρ:En}:vB 3 (a :: b :: c :: .vl t :: ρ)= .ok t:=rfl
theorem w5 {t:T}{a b c d e:Sl}{ρ:En}:vB 5 (a :: b :: c :: d :: e :: .vl t :: ρ)= .ok t:=rfl
theorem v4 {t:T}{a b c d:Sl}{ρ:En}:vE 4 (a :: b :: c :: d :: .vl t :: ρ)= .ok t:=rfl
theorem X3 (f g:En->R Bool)(ρ:En):kI f g ρ=(f ρ).bind λx=>if x=true then g ρ else .ok false:=rfl
theorem uY (w:Str):∀ws:List Str,JJ (λy=>eqF 30 y (.str w)) (ws.map T.str)=some (decide (w∈ws))
 | []=>rfl
 | x :: ws=>by
  have ih:=uY w ws;show (match JJ (λy=>eqF 30 y (.str w)) (ws.map T.str) with | none=>none | some c=>some ((x == w) || c))=_
  rw[ih];show some ((x == w) || decide (w∈ws))=_
  congr 1
  by_cases h:x=w
  ·subst h;simp
  ·have h' :¬ w=x:=λz=>h z.symm;simp[h,h']
theorem gtI (i j:Int):gtC (.int i) (.int j)= .ok (decide (i > j)):=rfl
theorem Z3 (i j:Int):zE (.int i) (.int j)= .ok (.int (i+j)):=rfl
theorem gr (p:Int)(h0:0<=p)(h1:p < 26):ixT (.str "abcdefghijklmnopqrstuvwxyz") (.int p)= .ok (.str ⟨#[97+p.toNat]⟩):=by
 obtain⟨n,rfl⟩:=c9 h0;have h:n < 26:=by omega
 iterate 26 (refine(Nat.lt_or_eq_of_le (Nat.le_of_lt_succ h)).elim (λh=> ?_) (λe=>e ▸ rfl))
 exact absurd h (i9 _)
abbrev letE:En->R T:=zb ixT (vE 3) (za 3 f_5 (z9 (vE 1) (z9 (zb zE (zb zE (vE 2) (cE (.int 2))) (vE 0)) (z9 (cE (.int 26)) (zj)))))
theorem gs (ns:List Int)(k:Int)(h0:0<=k)(j:Nat):∃c:Nat,(97<=c/\c<=122)/\letE [.vl (.int (j:Int)),.vl (scr ns),.vl (.int k),.vl (.str "abcdefghijklmnopqrstuvwxyz")]= .ok (.str ⟨#[c]⟩):=by
 obtain⟨p,e,p0,p1⟩:=zT ns (k+2+j) 26 (by omega) (by omega)
 refine⟨97+p.toNat,⟨by omega,by omega⟩, ?_⟩
 simp only[letE,zv,v3,bOk,Zj,v1,v2,v0,zZ,Z3,e];exact gr p p0 p1
theorem UV (ns:List Int)(k:Int)(h0:0<=k):∃w:Str,XI [scr ns,.int k]= .ok (.str w)/\Zr (.str w)=true:=by
 have e:XI [scr ns,.int k]=zy (Go _ [.vl _,.vl _,.un]):=rfl;obtain⟨p,e0,p0,p1⟩:=zT ns k 6 h0 (by omega)
 have hset:∀t,([Sl.vl (scr ns),Sl.vl (.int k),.un]).set 2 _=[Sl.vl _,Sl.vl _,.vl t]:=λ_=>rfl;rw[e,Go];simp only[Z5,ZV,J7,zZ,ZC,hset,zU,Zj,v0,v1,bOk,e0,gtI];cases hp:decide (p > 0) with
 | true=>
  obtain⟨q,e1,q0,q1⟩:=zT ns (k+1) 4 (by omega) (by omega)
  simp only[if_true,Zh,j4,jq,zv,Zj,v0,v1,zZ,bOk,Z3,e1];have hq:q=0\/q=1\/q=2\/q=3:=by omega
  rcases hq with rfl | rfl | rfl | rfl
  ·exact⟨"a",rfl,by decide⟩
  ·exact⟨"b",rfl,by decide⟩
  ·exact⟨"ab",rfl,by decide⟩
  ·exact⟨"cab",rfl,by decide⟩
 | false=>
  obtain⟨q,e1,q0,q1⟩:=zT ns (k+1) 3 (by omega) (by omega)
  simp only[aO,if_false,nxS,Zh,J6,j4,jq,ZO,Zb];obtain⟨g,hg⟩:=f_.mp (gs ns k h0);have ei:ZN (zb zE (cE (.int 1)) (za 3 f_5 (z9 (vE 0) (z9 (zb zE (vE 1) (cE (.int 1))) (z9 (cE (.int 3)) (zj)))))) [Sl.vl (scr ns),Sl.vl (.int k),.vl (.str "abcdefghijklmnopqrstuvwxyz")]= .ok (rng 0 (1+q).toNat):=by
   unfold ZN;simp only[zv,Zj,v0,v1,zZ,bOk,Z3,e1];rw[if_pos ⟨by omega,by omega⟩]
  have ec:∀n,n<=3->zD _ _ _ 1 [0,1,2] [Sl.vl _,Sl.vl _,.vl _] _= .ok ((rng 0 n).map λt=>match t with | .int j=> .str ⟨#[g j.toNat]⟩ | t=>t):=λn hn=>
   Z2 _ (by unfold rng;rw[ae,bx];exact aC hn (by decide)) λt ht=>by
    obtain⟨j,_,rfl⟩:=aN.mp ht;rw[Int.zero_add];exact(hg j).2
  rw[ei,bOk,ec _ (by omega),bOk]
  have hw:∀j,Zv _=true:=λj=>by
   obtain⟨a,b⟩:=(hg j).1;unfold Zv;rw[decide_eq_true a,decide_eq_true b];rfl
  have hq:q=0\/q=1\/q=2:=by omega
  rcases hq with rfl | rfl | rfl
  ·refine⟨⟨#[g 0]⟩,rfl, ?_⟩;show (Zv _ && true)=true;rw[hw 0];rfl
  ·refine⟨⟨#[g 0,g 1]⟩,rfl, ?_⟩;show (Zv _ && (Zv _ && true))=true;rw[hw 0,hw 1];rfl
  ·refine⟨⟨#[g 0,g 1,g 2]⟩,rfl, ?_⟩;show (Zv _ && (Zv _ && (Zv _ && true)))=true;rw[hw 0,hw 1,hw 2];rfl
theorem z1g (j:Int):Z4 (.int 5) (.int j)= .ok (.int (5*j)):=by
 show (if WP 5 j then R.ok _ else .bad)=_
 rw[if_pos (.inl ⟨by decide,by decide⟩)]
theorem Q9 (hf:f ρ= .ok x)(hg:g ρ= .ok y):Zt (z9 f (z9 g zj)) ρ= .ok (.tup [x,y]):=by
 unfold Zt z9 zj;rw[hf,hg];rfl
theorem gu (hf:f ρ= .ok x)(hg:g ρ= .ok y)(hh:h ρ= .ok z):Zt (z9 f (z9 g (z9 h zj))) ρ= .ok (.tup [x,y,z]):=by
 unfold Zt z9 zj;rw[hf,hg,hh];rfl
theorem tup4 (hf:f ρ= .ok x)(hg:g ρ= .ok y)(hh:h ρ= .ok z)(hi:i ρ= .ok w):Zt (z9 f (z9 g (z9 h (z9 i zj)))) ρ= .ok (.tup [x,y,z,w]):=by
 unfold Zt z9 zj;rw[hf,hg,hh,hi];rfl
noncomputable def Dst (ws:List Str):Prop:=∀(k:Nat) (w:Str),ws[k]? =some w->w ∉ ws.take k
theorem Dst.add (h:Dst ws)(hw:w ∉ ws):Dst (ws++[w]):=λk x hx=>by
 by_cases hk:k < ws.length
 ·rw[aB hk]at hx;rw[List.take_append_of_le_length (by omega)]
  exact h k x hx
 ·rw[au (by omega)]at hx
  have hk' :k=ws.length:=by
   rcases Nat.lt_or_ge (k - ws.length) 1 with z | z
   ·omega
   ·rw[aR (by simpa using z)]at hx;cases hx
  subst hk';rw[dr]at hx;cases hx;rw[List.take_left']
  ·exact hw
  ·rfl
abbrev Wz:En->RS:=zA (zV 5 (za 2 XI (z9 (vE 0) (z9 (zb zE (zb zE (vE 1) (cE (.int 5))) (zb Z4 (cE (.int 5)) (vE 4))) (zj)))))
  (ifS (zL Qr (vB 5) (vB 3)) (UG 3 (vE 5)) (nxS))
theorem Jz (ns:List Int)(k:Int)(h0:0<=k):∀(js:List Nat) (ws:List Str) (x4 x5:Sl),js.length+ws.length<=4->Dst ws->(∀w∈ws,Zr (.str w)=true)->
  ∃ws' y4 y5,Zn (zP 4) Wz (js.map λ(j:Nat)=>T.int (0+(j:Int))) [.vl (scr ns),.vl (.int k),.un,.ow (ws.map T.str),x4,x5]= .nx [.vl (scr ns),.vl (.int k),.un,.ow (ws'.map T.str),y4,y5]/\ws'.length<=4/\Dst ws' /\(∀w∈ws',Zr (.str w)=true)/\(0 < js.length+ws.length->0 < ws'.length)
 | [],ws,x4,x5,hl,hd,hw=>⟨ws,x4,x5,rfl,by simpa using hl,hd,hw,λh=>by simpa using h⟩
 | j :: js,ws,x4,x5,hl,hd,hw=>by
  obtain⟨w,ew,hw'⟩:=UV ns (k+5+5*(0+(j:Int))) (by omega)
  have hl' :js.length+ws.length+1<=4:=by simpa[ar,Nat.add_right_comm] using hl
  have e:Zn (zP 4) Wz ((j :: js).map λ(j:Nat)=>T.int (0+(j:Int))) [.vl (scr ns),.vl (.int k),.un,.ow (ws.map T.str),x4,x5]=match Wz [.vl (scr ns),.vl (.int k),.un,.ow (ws.map T.str),.vl (.int (0+(j:Int))),x5] with
   | .nx ρ2=>Zn (zP 4) Wz (js.map λ(j:Nat)=>T.int (0+(j:Int))) ρ2
   | .ct ρ2=>Zn (zP 4) Wz (js.map λ(j:Nat)=>T.int (0+(j:Int))) ρ2
   | .bk ρ2=> .nx ρ2
   | r=>r:=rfl
  have eb:Wz [.vl (scr ns),.vl (.int k),.un,.ow (ws.map T.str),.vl (.int (0+(j:Int))),x5]= .nx [.vl (scr ns),.vl (.int k),.un,.ow ((if w∈ws then ws else ws++[w]).map T.str),.vl (.int (0+(j:Int))),.vl (.str w)]:=by
   have w3o:∀(a b c:Sl) (ts:List T) (ρ:En),vB 3 (a :: b :: c :: .ow ts :: ρ)= .ok _:=λ_ _ _ _ _=>rfl;have hset:∀t,([.vl _,.vl (.int k),.un,.ow (ws.map T.str),.vl (.int (0+(j:Int))),x5]:En).set 5 (.vl t)=[.vl (scr ns),.vl (.int k),.un,.ow (ws.map T.str),.vl _,.vl t]:=λ_=>rfl;have en:Qr (.str w) (.lst (ws.map T.str))= .ok (!decide (w∈ws)):=by
    show ((match JJ (λy=>eqF 30 y (.str w)) (ws.map _) with | some b=>R.ok b | none=> .bad)).bind (λb=>R.ok _)=_
    rw[uY];rfl
   simp only[Wz,Z5,J7,zS,v0,v1,v4,zv,zZ,bOk,Z3,z1g,ew,ZC,hset,ZV,zU,w5,w3o,en]
   by_cases hm:w∈ws
   ·rw[decide_eq_true hm,if_pos hm];rfl
   ·rw[decide_eq_false hm,if_neg hm];have hb:(ws.map T.str).length < bnd:=by rw[ae];exact bB (show ws.length<=4 by omega) (by decide)
    show (if (ws.map _).length < bnd then RS.nx _ else .bad)=_
    rw[if_pos hb,bA];rfl
  rw[e,eb]
  by_cases hm:w∈ws
  ·rw[if_pos hm];obtain⟨ws',y4,y5,r1,r2,r3,r4,r5⟩:=Jz ns k h0 js ws _ _ (by omega) hd hw
   exact⟨ws',y4,y5,r1,r2,r3,r4,λ_=>r5 (by have:=List.length_pos_of_mem hm;omega)⟩
  ·rw[if_neg hm];obtain⟨ws',y4,y5,r1,r2,r3,r4,r5⟩:=Jz ns k h0 js _ _ _ (by simp only[aA,ar,bM];omega) (hd.add hm) (λx hx=>by
    rcases dh.mp hx with z | z
    ·exact hw x z
    ·rw[aT.mp z];exact hw')
   exact⟨ws',y4,y5,r1,r2,r3,r4,λ_=>r5 (by simp only[aA,ar,bM];omega)⟩
abbrev GH:En->R T:=Zt (z9 (vE 1) (z9 (zb zE (cE (.int 1)) (za 3 f_5 (z9 (vE 2) (z9 (zb zE (zb zE (vE 3) (cE (.int 30))) (vE 0)) (z9 (cE (.int 20)) (zj)))))) (zj)))
theorem uZ (ns:List Int)(k:Int)(h0:0<=k):∀(ws:List Str) (i:Nat) (x0 x1:Sl),(∀w∈ws,Zr (.str w)=true)->∃cs:List T,zG (Ze 0 1) Zi GH (((ws.map T.str).zipIdx i).map λp=>T.tup [.int (p.2:Nat),p.1]) [x0,x1,.vl (scr ns),.vl (.int k)]= .ok cs/\cs.all Z0=true/\cs.map ZP=ws
 | [],i,x0,x1,_=>⟨[],rfl,rfl,rfl⟩
 | w :: ws,i,x0,x1,hw=>by
  obtain⟨p,e,p0,p1⟩:=zT ns (k+30+i) 20 (by omega) (by omega)
  obtain⟨cs,r1,r2,r3⟩:=uZ ns k h0 ws _ _ _ λx hx=>hw x (a8 _ hx);have ec:GH [.vl (.int (i)),.vl (.str w),.vl (scr ns),.vl (.int k)]= .ok (.tup [.str w,.int (1+p)]):=by
   have ea:za 3 f_5 (z9 (vE 2) (z9 (zb zE (zb zE (vE 3) (cE (.int 30))) (vE 0)) (z9 (cE (.int 20)) (zj)))) [.vl (.int (i)),.vl (.str w),.vl (scr ns),.vl (.int k)]= .ok (.int p):=by
    simp only[Zj,v2,v3,v0,zv,zZ,bOk,Z3,e]
   have eb:zb zE (cE (.int 1)) (za 3 f_5 (z9 (vE 2) (z9 (zb zE (zb zE (vE 3) (cE (.int 30))) (vE 0)) (z9 (cE (.int 20)) (zj))))) [.vl (.int (i)),.vl (.str w),.vl (scr ns),.vl (.int k)]= .ok (.int (1+p)):=by
    rw[zv,ea];rfl
   exact Q9 v1 eb
  refine⟨.tup [.str w,.int (1+p)] :: cs, ?_, ?_, ?_⟩
  ·show ((GH [.vl _,.vl _,.vl _,.vl _]).bind λv=>(zG _ _ _ (((ws.map _).zipIdx _).map λp=>T.tup _) [.vl _,.vl _,.vl _,.vl _]).bind λvs=>R.ok _)=_;rw[ec,r1];rfl
  ·rw[cu,r2,Bool.and_true];show (Zr _ && decide _ && decide _)=true;rw[hw w ab,decide_eq_true (by omega),decide_eq_true (by omega)];rfl
  ·rw[aI,r3];rfl
theorem V9 (i j:Int):yY (.int i) (.int j)= .ok (.int (if j < i then j else i)):=rfl
theorem X4 (ns:List Int)(k:Int)(h0:0<=k):∃t,KR [scr ns,.int k]= .ok t/\∀d,isK (d+1) t=true:=by
 have e:KR [scr ns,.int k]=zy (Gp f_5 XI [.vl (scr ns),.vl (.int k),.un,.un,.un,.un]):=rfl;obtain⟨p,e0,p0,p1⟩:=zT ns k 3 h0 (by omega)
 rw[e,Gp,Z5];simp only[ZV,zU,Zj,v0,v1,zZ,bOk,e0,gtI,ZC];cases hp:decide (p > 0) with
 | true=>
  obtain⟨q,e1,q0,q1⟩:=zT ns (k+1) 7 (by omega) (by omega)
  obtain⟨q3,e3,_,_⟩:=zT ns (k+3) 8 (by omega) (by omega)
  obtain⟨q4,e4,a4,b4⟩:=zT ns (k+4) 3 (by omega) (by omega)
  obtain⟨q2,e2,a2,b2⟩:=zT ns (k+2) 4 (by omega) (by omega)
  have hset:∀t x,([.vl (scr ns),.vl (.int k),x,.un,.un,.un]:En).set 2 (.vl t)=[.vl (scr ns),.vl (.int k),.vl t,.un,.un,.un]:=λ_ _=>rfl;have fin:∀low:Int, -20<=low->low<=20->∃t,zy (zF (Zt (z9 (cE (.str "whole")) (z9 (vE 2) (z9 (zb yY (cE (.int 20)) (zb zE (vE 2) (za 3 f_5 (z9 (vE 0) (z9 (zb zE (vE 1) (cE (.int 2))) (z9 (cE (.int 4)) (zj))))))) (zj))))) [.vl (scr ns),.vl (.int k),.vl (.int low),.un,.un,.un])= .ok t/\∀d,isK (d+1) t=true:=by
   intro low hl1 hl2;refine⟨.tup [.str "whole",.int low,.int (if low+q2 < 20 then low+q2 else 20)], ?_,λd=> ?_⟩
   ·rw[Zh,J6];refine gu rfl rfl ?_;simp only[j4,wM,jq,zv,v2,v0,v1,Zj,zZ,bOk,Z3,e2,V9]
   ·show (decide (-20<=low) && decide (low<=_) && decide (_<=(20:Int)))=true;rw[decide_eq_true hl1,decide_eq_true (by split <;> omega),decide_eq_true (by split <;> omega)];rfl
  simp only[if_true,Z5,J7,ZV,zv,Zj,v0,v1,zZ,bOk,Z3,e1,Zk,ZC,hset,zU,e3,eqI];cases hq:(q3 == 0) with
  | true=>
   have h3:q4=0\/q4=1\/q4=2:=by omega
   rcases h3 with rfl | rfl | rfl
   ·obtain⟨t,r,s⟩:=fin (-20) (by omega) (by omega)
    refine⟨t, ?_,s⟩;rw[← r];simp only[if_true,e4,bOk];have hv:∀ρ,(jb (z9 (JX (cE (.int 20))) (z9 (cE (.int 17)) (z9 (cE (.int 20)) (zj)))) ρ)= .ok (.lst [.int (-20),.int 17,.int 20]):=λ_=>rfl;simp only[hv,bOk];have hx:ixT (.lst [.int (-20),.int 17,.int 20]) (.int 0)= .ok (.int (-20)):=rfl;simp only[hx,ZC,hset,Zh];generalize Zt _ _=z;cases z <;> rfl
   ·obtain⟨t,r,s⟩:=fin (17) (by omega) (by omega)
    refine⟨t, ?_,s⟩;rw[← r];simp only[if_true,e4,bOk];have hv:∀ρ,(jb (z9 (JX (cE (.int 20))) (z9 (cE (.int 17)) (z9 (cE (.int 20)) (zj)))) ρ)= .ok (.lst [.int (-20),.int 17,.int 20]):=λ_=>rfl;simp only[hv,bOk];have hx:ixT (.lst [.int (-20),.int 17,.int 20]) (.int 1)= .ok (.int (17)):=rfl;simp only[hx,ZC,hset,Zh];generalize Zt _ _=z;cases z <;> rfl
   ·obtain⟨t,r,s⟩:=fin (20) (by omega) (by omega)
    refine⟨t, ?_,s⟩;rw[← r];simp only[if_true,e4,bOk];have hv:∀ρ,(jb (z9 (JX (cE (.int 20))) (z9 (cE (.int 17)) (z9 (cE (.int 20)) (zj)))) ρ)= .ok (.lst [.int (-20),.int 17,.int 20]):=λ_=>rfl;simp only[hv,bOk];have hx:ixT (.lst [.int (-20),.int 17,.int 20]) (.int 2)= .ok (.int (20)):=rfl;simp only[hx,ZC,hset,Zh];generalize Zt _ _=z;cases z <;> rfl
  | false=>
   obtain⟨t,r,s⟩:=fin (q - 3) (by omega) (by omega)
   refine⟨t, ?_,s⟩;rw[← r];simp only[aO,if_false,nxS,Zh];generalize Zt _ _=z;cases z <;> rfl
 | false=>
  obtain⟨q,e1,q0,q1⟩:=zT ns (k+1) 4 (by omega) (by omega)
  simp only[aO,if_false,nxS,Z5];have ei:ZN (zb zE (cE (.int 1)) (za 3 f_5 (z9 (vE 0) (z9 (zb zE (vE 1) (cE (.int 1))) (z9 (cE (.int 4)) (zj)))))) [.vl (scr ns),.vl (.int k),.un,.ow [],.un,.un]= .ok (rng 0 (1+q).toNat):=by
   unfold ZN;simp only[zv,Zj,v0,v1,zZ,bOk,Z3,e1];rw[if_pos ⟨by omega,by omega⟩]
  have el:WX 3 zj [.vl (scr ns),.vl (.int k),.un,.un,.un,.un]= .nx [.vl (scr ns),.vl (.int k),.un,.ow [],.un,.un]:=rfl;rw[el];have hn:(a_ (1+q).toNat).length=(1+q).toNat:=bx;obtain⟨ws,y4,y5,r1,r2,r3,r4,r5⟩:=Jz ns k h0 (a_ (1+q).toNat) [] .un .un (by rw[hn,bM];omega) (λk w h=>by cases h) (λw h=>by cases h)
  have hpos:0 < ws.length:=r5 (by rw[hn,bM];omega)
  have ef:jJ (ZN (zb zE (cE (.int 1)) (za 3 f_5 (z9 (vE 0) (z9 (zb zE (vE 1) (cE (.int 1))) (z9 (cE (.int 4)) (zj))))))) (zP 4) Wz [.vl (scr ns),.vl (.int k),.un,.ow [],.un,.un]= .nx [.vl (scr ns),.vl (.int k),.un,.ow (ws.map T.str),y4,y5]:=by
   unfold jJ;rw[ei,ZC];exact r1
  obtain⟨cs,s1,s2,s3⟩:=uZ ns k h0 ws 0 .un .un r4;have hcl:cs.length=ws.length:=by rw[← s3,ae]
  refine⟨.tup [.str "pick",.tup cs], ?_,λd=> ?_⟩
  ·dsimp only;rw[ef];dsimp only;rw[Zh,J6];refine Q9 rfl ?_;rw[ZO,Zb];have ee:xg (vE 3) (frz [.vl (scr ns),.vl (.int k),.un,.ow (ws.map T.str),y4,y5])= .ok (jC (ws.map T.str)):=rfl;rw[ee,bOk];unfold zD;rw[if_pos (by unfold jC;rw[ae,fw,ae];exact aC r2 (by decide))]
   have ec:zG (Ze 0 1) Zi GH (jC (ws.map T.str)) (Jb 2 [0,1] (frz [.vl (scr ns),.vl (.int k),.un,.ow (ws.map T.str),y4,y5]))= .ok cs:=s1;rw[ec];rfl
  ·show (decide (1<=cs.length) && decide (cs.length<=4) && cs.all Z0 && decide ((dd [] (cs.map ZP)).length=cs.length))=true;have hd:(dd [] (cs.map ZP)).length=cs.length:=by
    rw[s3,hcl];have:=(wQ ws []).mpr (λk w h=>by simpa using r3 k w h)
    simpa using this
   rw[decide_eq_true (by omega),decide_eq_true (by omega),s2,decide_eq_true hd];rfl
theorem YT (c:Int)(j:Int)(hc:WP c j):Z4 (.int c) (.int j)= .ok (.int (c*j)):=by
 show (if WP c j then R.ok _ else .bad)=_
 rw[if_pos hc]
theorem gv (j:Int):Z4 (.int 3) (.int j)= .ok (.int (3*j)):=YT _ _ (.inl ⟨by decide,by decide⟩)
theorem gw (j:Int):Z4 (.int 50) (.int j)= .ok (.int (50*j)):=YT _ _ (.inl ⟨by decide,by decide⟩)
abbrev GI (c:List T->R T):En->R T:=za 3 c (z9 (vE 1) (z9 (zb zE (zb zE (zb Z4 (cE (.int 3)) (vE 2)) (cE (.int 40))) (zb Z4 (cE (.int 50)) (vE 0))) (z9 (zb ju (vE 3) (cE (.int 1))) (zj))))
theorem ub (ns:List Int):∀(d n:Nat),d<=n->1<=d->∀k:Int,0<=k->∃t,S_i n 0 [scr ns,.int k,.int (d:Int)]= .ok t/\isK d t=true
 | d+1,n+1,hn,_,k,h0=>by
  have e:S_i (n+1) 0 [scr ns,.int k,.int ((d+1:Nat))]=zy (b_i f_5 KR (S_i n 0) [.vl (scr ns),.vl (.int k),.vl _,.un,.un,.un]):=rfl;obtain⟨p,e0,p0,p1⟩:=zT ns k 5 h0 (by omega)
  obtain⟨l,el,hl⟩:=X4 ns (k+1) (by omega)
  have hset:([.vl (scr ns),.vl (.int k),.vl (.int ((d+1:Nat))),.un,.un,.un]:En).set 3 (.vl (.int p))=[.vl (scr ns),.vl (.int k),.vl _,.vl (.int p),.un,.un]:=rfl;rw[e,b_i];simp only[Z5,J7,ZV,YN,zU,Zj,zS,v0,v1,v2,zZ,bOk,e0,ZC,hset,w2,w3,eqI,ltI,Z3,Zh,j4,wM,jq,zv,el];have hd1:((((d+1:Nat):Int) == 1))=decide (d=0):=by
   by_cases h:d=0
   ·subst h;rfl
   ·rw[decide_eq_false h,beq_eq_false_iff_ne];omega
  rw[hd1]
  by_cases hleaf:d=0\/p < 2
  ·refine⟨l, ?_,hl d⟩;rcases hleaf with h | h
   ·rw[decide_eq_true h];rfl
   ·rw[decide_eq_true h];cases decide (d=0) <;> rfl
  ·have hd0:¬ d=0:=λz=>hleaf (.inl z);have hp2:¬ p < 2:=λz=>hleaf (.inr z);have hsub:((d+1:Nat)) - 1=(d:Int):=by omega
   rw[decide_eq_false hd0,decide_eq_false hp2];simp only[aO,if_false,ZC,nxS,w3,v0,v1,v2,bOk,ltI,zZ];cases hp:decide (p < 4) with
   | true=>
    obtain⟨q,e1,q0,q1⟩:=zT ns (k+1) 3 (by omega) (by omega)
    have hj:∀j:Nat,∃t,GI (S_i n 0) [.vl (.int (0+(j:Int))),.vl (scr ns),.vl (.int k),.vl (.int ((d+1:Nat)))]= .ok t/\isK d t=true:=λj=>by
     obtain⟨t,r,s⟩:=ub ns d n (by omega) (by omega) (3*k+40+50*(0+(j:Int))) (by omega)
     refine⟨t, ?_,s⟩;simp only[GI,Zj,v0,v1,v2,v3,zv,zZ,bOk,gv,gw,Z3,Zk,hsub,r]
    obtain⟨g,hg⟩:=f_.mp hj;have ei:ZN (zb zE (cE (.int 1)) (za 3 f_5 (z9 (vE 0) (z9 (zb zE (vE 1) (cE (.int 1))) (z9 (cE (.int 3)) (zj)))))) [.vl (scr ns),.vl (.int k),.vl (.int ((d+1:Nat))),.vl (.int p),.un,.un]= .ok (rng 0 (1+q).toNat):=by
     unfold ZN;simp only[zv,Zj,v0,v1,zZ,bOk,Z3,e1];rw[if_pos ⟨by omega,by omega⟩]
    have ec:zD (zP 0) Zi (GI (S_i n 0)) 1 [0,1,2] [.vl (scr ns),.vl (.int k),.vl _,.vl (.int p),.un,.un] _= .ok ((rng 0 (1+q).toNat).map λt=>match t with | .int j=>g j.toNat | t=>t):=
     Z2 _ (by unfold rng;rw[ae,bx];exact aC (show (1+q).toNat<=3 by omega) (by decide)) λt ht=>by
      obtain⟨j,_,rfl⟩:=aN.mp ht;show GI (S_i n 0) [.vl _,.vl (scr ns),.vl (.int k),.vl _]= .ok (g _);rw[(hg j).1,Int.zero_add,bw]
    generalize hcs:((rng 0 (1+q).toNat).map λt=>match t with | .int j=>g j.toNat | t=>t)=cs at ec
    have hlen:cs.length=(1+q).toNat:=by rw[← hcs];unfold rng;rw[ae,ae,bx]
    have hall:∀t∈cs,isK d t=true:=λt ht=>by
     rw[← hcs]at ht;obtain⟨u,hu,rfl⟩:=aN.mp ht;obtain⟨j,_,rfl⟩:=aN.mp hu;exact(hg _).2
    refine⟨.tup [.str "row",.tup cs], ?_, ?_⟩
    ·have hs4:([.vl (scr ns),.vl (.int k),.vl (.int ((d+1:Nat))),.vl (.int p),.un,.un]:En).set 4 (.vl (.lst cs))=[.vl (scr ns),.vl (.int k),.vl _,.vl (.int p),.vl (.lst cs),.un]:=rfl;simp only[if_true,Zb,ei,bOk,ec,ZC,hs4,j4,wM,jq];rfl
    ·show (decide _ && decide _ && cs.all _)=true;rw[decide_eq_true (by omega),decide_eq_true (by omega),aQ.mpr hall];rfl
   | false=>
    obtain⟨q,e1,q0,q1⟩:=zT ns (k+1) 3 (by omega) (by omega)
    obtain⟨q2,e2,_,_⟩:=zT ns (k+2) 3 (by omega) (by omega)
    obtain⟨t,r,s⟩:=ub ns d n (by omega) (by omega) (3*k+40) (by omega)
    refine⟨.tup [.str "many",t,.int q,.int (if q+q2 < 3 then q+q2 else 3)], ?_, ?_⟩
    ·have hs5:([.vl (scr ns),.vl (.int k),.vl (.int ((d+1:Nat))),.vl (.int p),.un,.un]:En).set 5 (.vl (.int q))=[.vl _,.vl _,.vl _,.vl _,.un,.vl _]:=rfl;simp only[aO,if_false,v0,v1,zv,zZ,bOk,Z3,e1,ZC,hs5,j4,wM,jq,J6];refine tup4 rfl ?_ rfl ?_
     ·simp only[Zj,v0,v1,v2,zv,zZ,bOk,gv,Z3,Zk,hsub,r]
     ·have v5:∀{t:T} {a b c d e:Sl} {ρ:En},vE 5 (a :: b :: c :: d :: e :: .vl t :: ρ)= .ok t:=rfl;simp only[Zj,v0,v1,v5,zv,zZ,bOk,Z3,e2,V9]
    ·show (J4 0 3 _ _ && isK d t)=true;rw[s,Bool.and_true];show (decide _ && decide _ && decide _)=true;rw[decide_eq_true (by omega),decide_eq_true (by split <;> omega),decide_eq_true (by split <;> omega)];rfl
mutual
noncomputable def dep:T->Nat
 | .tup xs=>Qa xs+1
 | .lst xs=>Qa xs+1
 | _=>1
noncomputable def Qa:List T->Nat
 | []=>0
 | t :: ts=>max (dep t) (Qa ts)
end
mutual
noncomputable def siz:T->Nat
 | .tup xs=>Qb xs+1
 | .lst xs=>Qb xs+1
 | _=>1
noncomputable def Qb:List T->Nat
 | []=>0
 | t :: ts=>siz t+Qb ts
end
theorem J8 (h:isS w t=true):t= .str w:=by
 cases t with
 | str s=>
  have:=h;rw[eq_of_beq this]
 | _=>cases h
theorem X5 (h:inR lo hi t=true):∃i,t= .int i:=by
 cases t with
 | int i=>exact⟨i,rfl⟩
 | _=>cases h
theorem Je (h:J4 lo hi a b=true):∃i j,a= .int i/\b= .int j:=by
 cases a with
 | int i=>
  cases b with
  | int j=>exact⟨i,j,rfl,rfl⟩
  | _=>cases h
 | _=>cases h
structure Fit (D S:Nat) (t:T):Prop where
 so:sOk t
 dp:dep t<=D
 sz:siz t<=S
theorem UW (h:Z0 c=true):Fit 2 3 c:=by
 unfold Z0 at h;split at h
 ·rename_i w i;have hw:=by
   rw[ac,ac]at h;exact h.1.1
  cases w with
  | str x=>
   have hx:(decide _ && decide _ && x.cps.toList.all _)=true:=hw;rw[ac,ac,decide_eq_true_eq,decide_eq_true_eq]at hx;refine⟨?_, ?_, ?_⟩
   ·simp only[sOk,uW,and_true];exact aC hx.1.2 (by decide)
   ·simp[dep,Qa]
   ·simp[siz,Qb]
  | _=>cases hw
 ·cases h
theorem z1h {D S:Nat}:∀{cs:List T},(∀c∈cs,Fit D S c)->uW cs/\Qa cs<=D/\Qb cs<=S*cs.length
 | [],_=>⟨by simp only[uW],bg _,bg _⟩
 | c :: cs,h=>by
  obtain⟨a,b,d⟩:=z1h λx hx=>h x (a8 _ hx);obtain⟨x,y,z⟩:=h c ab;refine⟨?_, ?_, ?_⟩
  ·exact⟨x,a⟩
  ·simp only[Qa];omega
  ·simp only[Qb,ar,Nat.mul_add,Nat.mul_one];omega
theorem wR:∀(d:Nat) (t:T),isK d t=true->Fit (2*d+2) (15*4 ^ d) t
 | 0,_,h=>by cases h
 | d+1,t,h=>by
  have hone:1<=4 ^ d:=Nat.pow_pos (by omega)
  have h:UT _ t=true:=h;unfold UT at h;split at h
  ·rename_i hd r;split at h
   ·rename_i e;rw[J8 e];unfold Wx at h;split at h
    ·obtain⟨i,j,rfl,rfl⟩:=Je h;refine⟨by simp only[sOk,uW,and_true];decide,by simp only[dep,Qa];omega,by simp only[siz,Qb];omega⟩
    ·cases h
   ·split at h
    ·rename_i e;rw[J8 e];unfold YQ at h;split at h
     ·unfold uX at h;split at h
      ·rw[ac,ac,ac,decide_eq_true_eq,decide_eq_true_eq]at h;obtain⟨a,b,z⟩:=z1h λc hc=>UW (aQ.mp h.1.2 c hc);refine⟨by simp only[sOk,uW,and_true];exact⟨by decide,a⟩,by simp only[dep,Qa];omega,by simp only[siz,Qb];omega⟩
      ·cases h
     ·cases h
    ·split at h
     ·rename_i e;rw[J8 e];unfold gp at h;split at h
      ·unfold Jy at h;split at h
       ·rename_i cs;rw[ac,ac,decide_eq_true_eq,decide_eq_true_eq]at h;obtain⟨a,b,z⟩:=z1h λc hc=>wR d c (aQ.mp h.2 c hc);have:15*4 ^ d*cs.length<=15*4 ^ d*3:=Nat.mul_le_mul_left _ h.1.2;refine⟨by simp only[sOk,uW,and_true];exact⟨by decide,a⟩,by simp only[dep,Qa];omega,by simp only[siz,Qb];omega⟩
       ·cases h
      ·cases h
     ·split at h
      ·rename_i e;rw[J8 e];unfold YR at h;split at h
       ·rename_i c a b;rw[ac]at h;obtain⟨i,j,rfl,rfl⟩:=Je h.1;obtain⟨x,y,z⟩:=wR d c h.2;refine⟨by simp only[sOk,uW,and_true];exact⟨by decide,x⟩,by simp only[dep,Qa];omega,by simp only[siz,Qb];omega⟩
       ·cases h
      ·cases h
  ·cases h
theorem gx (h:xs.length+ys.length<=bnd):zE (.tup xs) (.tup ys)= .ok (.tup (xs++ys)):=if_pos h
theorem X6 {xs:List T}{j:Nat}{x:T}(h:xs[j]? =some x):ixT (.lst xs) (.int (j:Int))= .ok x:=by
 show atT xs j=_;unfold atT;rw[ZY h]
theorem wj (ρ:En):nxS ρ= .nx ρ:=rfl
inductive Kd where
 | whole (lo hi:Int)
 | pick (cs:List (Str×Int))
 | row (ks:List Kd)
 | many (k:Kd) (lo hi:Nat)
noncomputable def wS (c:Str×Int):T:= .tup [.str c.1,.int c.2]
mutual
noncomputable def Kd.t:Kd->T
 | .whole lo hi=> .tup [.str "whole",.int lo,.int hi]
 | .pick cs=> .tup [.str "pick",.tup (cs.map wS)]
 | .row ks=> .tup [.str "row",.tup (Kd.ts ks)]
 | .many k lo hi=> .tup [.str "many",k.t,.int (lo:Int),.int (hi:Int)]
noncomputable def Kd.ts:List Kd->List T
 | []=>[]
 | k :: ks=>k.t :: Kd.ts ks
end
theorem Kd.ts_map:∀ks:List Kd,Kd.ts ks=ks.map Kd.t
 | []=>by simp only[Kd.ts,cI]
 | k :: ks=>by simp only[Kd.ts,aI,Kd.ts_map ks]
def Kd.Ok:Nat->Kd->Prop
 | 0,_=>False
 | _+1,.whole lo hi=> -20<=lo/\lo<=hi/\hi<=20
 | _+1,.pick cs=>1<=cs.length/\cs.length<=4/\(∀c∈cs,Zr (.str c.1)=true/\1<=c.2/\c.2<=20)/\Dst (cs.map (·.1))
 | d+1,.row ks=>1<=ks.length/\ks.length<=3/\∀k∈ks,Kd.Ok d k
 | d+1,.many k lo hi=>lo<=hi/\hi<=3/\Kd.Ok d k
theorem YU (h:Z0 c=true):∃p:Str×Int,c=wS p/\Zr (.str p.1)=true/\1<=p.2/\p.2<=20:=by
 unfold Z0 at h;split at h
 ·rename_i w i;rw[ac,ac,decide_eq_true_eq,decide_eq_true_eq]at h;cases w with
  | str x=>exact⟨(x,i),rfl,h.1.1,h.1.2,h.2⟩
  | _=>cases h.1.1
 ·cases h
theorem uc {α:Type}{P:T->Prop}{Q:α->Prop}{f:α->T}(H:∀t,P t->∃a,t=f a/\Q a):∀(ts:List T),(∀t∈ts,P t)->∃as:List α,ts=as.map f/\∀a∈as,Q a
 | [],_=>⟨[],rfl,λ_ h=>nomatch h⟩
 | t :: ts,h=>by
  obtain⟨a,rfl,ha⟩:=H t (h t ab);obtain⟨as,rfl,has⟩:=uc H ts λu hu=>h u (a8 _ hu);exact⟨a :: as,rfl,λb hb=>by
   rcases ah.mp hb with rfl | hb
   ·exact ha
   ·exact has b hb⟩
theorem ud:∀(d:Nat) (t:T),isK d t=true->∃k:Kd,t=k.t/\k.Ok d
 | 0,_,h=>by cases h
 | d+1,t,h=>by
  have h:UT _ t=true:=h;unfold UT at h;split at h
  ·rename_i hd r;split at h
   ·rename_i e;rw[J8 e];unfold Wx at h;split at h
    ·obtain⟨i,j,rfl,rfl⟩:=Je h;have h:(decide _ && decide _ && decide _)=true:=h;rw[ac,ac,decide_eq_true_eq,decide_eq_true_eq,decide_eq_true_eq]at h;exact⟨.whole i j,by simp only[Kd.t],h.1.1,h.1.2,h.2⟩
    ·cases h
   ·split at h
    ·rename_i e;rw[J8 e];unfold YQ at h;split at h
     ·unfold uX at h;split at h
      ·rename_i cs;rw[ac,ac,ac,decide_eq_true_eq,decide_eq_true_eq,decide_eq_true_eq]at h;obtain⟨⟨⟨h1,h2⟩,h3⟩,h4⟩:=h;obtain⟨as,rfl,has⟩:=uc (λt ht=>YU ht) cs λc hc=>aQ.mp h3 c hc;rw[ae]at h1 h2;refine⟨.pick as,by simp only[Kd.t],h1,h2,has, ?_⟩
       have e1:(as.map wS).map ZP=as.map (·.1):=by rw[bb];rfl
       rw[e1]at h4;have:=(wQ _ []).mp (by rw[h4,ae];simp)
       exact λk w hw hm=>this k w hw (by simpa using hm)
      ·cases h
     ·cases h
    ·split at h
     ·rename_i e;rw[J8 e];unfold gp at h;split at h
      ·unfold Jy at h;split at h
       ·rename_i cs;rw[ac,ac,decide_eq_true_eq,decide_eq_true_eq]at h;obtain⟨ks,rfl,hks⟩:=uc (λt ht=>ud d t ht) cs λc hc=>aQ.mp h.2 c hc;rw[ae]at h;exact⟨.row ks,by simp only[Kd.t,Kd.ts_map],h.1.1,h.1.2,hks⟩
       ·cases h
      ·cases h
     ·split at h
      ·rename_i e;rw[J8 e];unfold YR at h;split at h
       ·rename_i c a b;rw[ac]at h;obtain⟨h1,h2⟩:=h;obtain⟨i,j,rfl,rfl⟩:=Je h1;obtain⟨k,rfl,hk⟩:=ud d c h2;have h1:(decide _ && decide _ && decide _)=true:=h1;rw[ac,ac,decide_eq_true_eq,decide_eq_true_eq,decide_eq_true_eq]at h1;obtain⟨⟨a1,a2⟩,a3⟩:=h1;obtain⟨m,rfl⟩:=c9 a1;obtain⟨n,rfl⟩:=c9 (dq a1 a2);exact⟨.many k m n,by simp only[Kd.t],by omega,by omega,hk⟩
       ·cases h
      ·cases h
  ·cases h
noncomputable def Z8 (made:List (List T)):List (List T)->List (List T)
 | []=>made
 | ls :: r=>Z8 (made.flatMap λa=>ls.map λx=>a++[x]) r
abbrev yi (ls:List (List T)):List T:=(Z8 [[]] ls).map T.tup
mutual
noncomputable def Kd.all:Kd->List T
 | .whole lo hi=>(a_ (hi+1 - lo).toNat).map λ(i:Nat)=>T.int (lo+(i:Int))
 | .pick cs=>cs.map λc=>T.str c.1
 | .row ks=>yi (Kd.alls ks)
 | .many k lo hi=>(a_ (hi+1 - lo)).flatMap λi=>yi (af (lo+i) k.all)
noncomputable def Kd.alls:List Kd->List (List T)
 | []=>[]
 | k :: ks=>k.all :: Kd.alls ks
end
theorem Kd.alls_map:∀ks:List Kd,Kd.alls ks=ks.map Kd.all
 | []=>by simp only[Kd.alls,cI]
 | k :: ks=>by simp only[Kd.alls,aI,Kd.alls_map ks]
noncomputable def prd:List Nat->Nat
 | []=>1
 | n :: r=>n*prd r
theorem JB:∀{ns:List Nat},(∀n∈ns,1<=n)->1<=prd ns
 | [],_=>ai _
 | n :: ns,h=>dJ (h n ab) (JB λm hm=>h m (a8 _ hm))
theorem Jf {α β:Type}(f:α->List β)(n:Nat):∀as:List α,(∀a∈as,(f a).length=n)->(as.flatMap f).length=as.length*n
 | [],_=>by simp
 | a :: as,h=>by
  rw[bK,aA,h a ab,Jf f n as λb hb=>h b (a8 _ hb),ar,hW,bV,Nat.add_comm]
theorem JC:∀(ls:List (List T)) (made:List (List T)),(Z8 made ls).length=made.length*prd (ls.map (·.length))
 | [],made=>by simp[Z8,prd]
 | l :: ls,made=>by
  rw[Z8,JC ls,Jf _ _ _ λa _=>ae ..,aI,prd,cx]
abbrev GJ:En->RS:=Q3 3 (Z6 (jc (vE 2)) (zP 0) (Zi) (zb zE (vE 1) (Zt (z9 (vE 0) (zj)))) 1 [4])
theorem U0 (hl:l.length<=bnd):∀(as:List (List T)) (acc:List T) (x:Sl),(∀a∈as,a.length<=1000)->acc.length+as.length*l.length<=bnd->
  ∃y,Zn (zP 4) GJ (as.map T.tup) [.vl L,.vl M,.vl (.lst l),.ow acc,x]= .nx [.vl L,.vl M,.vl (.lst l),.ow (acc++(as.flatMap λa=>l.map λx=>a++[x]).map T.tup),y]
 | [],acc,x,_,_=>⟨x,by simp[Zn]⟩
 | a :: as,acc,x,ha,hb=>by
  have ha1:=ha a ab;have hb1:bnd=16777216:=rfl;rw[ar,hW]at hb;have ec:zD _ _ (zb zE (vE 1) (Zt (z9 (vE 0) (zj)))) 1 [4] [.vl L,.vl M,.vl (.lst l),.ow acc,.vl (.tup a)] l= .ok (l.map λx=>T.tup _):=
   Z2 l hl λx hx=>by
    exact gx (by rw[aK];omega)
  have eb:GJ [.vl L,.vl M,.vl (.lst l),.ow acc,.vl (.tup a)]= .nx [.vl L,.vl M,.vl (.lst l),.ow (acc++l.map λx=>T.tup (a++[x])),.vl (.tup a)]:=by
   show (((zD _ _ _ _ _ _ l).bind _).s _)=_;rw[ec,bOk];show (if _ then _ else _)=_
   rw[if_pos (by rw[ae];omega)]
   rfl
  obtain⟨y,ih⟩:=U0 hl as (acc++l.map λx=>T.tup _) _ (λb hb=>ha b (a8 _ hb)) (by rw[aA,ae];omega)
  refine⟨y, ?_⟩;have e:Zn (zP 4) _ ((a :: as).map T.tup) [.vl L,.vl M,.vl (.lst l),.ow acc,x]=match GJ [.vl L,.vl M,.vl _,.ow acc,.vl _] with
   | .nx ρ2=>Zn _ _ _ ρ2
   | .ct ρ2=>Zn _ _ _ ρ2
   | .bk ρ2=> .nx ρ2
   | r=>r:=rfl
  rw[e,eb];dsimp only;rw[ih,bK,bA,bb,bf];rfl
abbrev v7:En->RS:=(zA (WX 3 (zj))
  (zA (jJ (jc (vE 1)) (zP 4) GJ)
  (mvS 1 3)))
theorem WA (m:Nat):∀(ls:List (List T)) (made:List (List T)) (k:Nat) (x y z:Sl),(∀a∈made,a.length<=k)->k+ls.length<=1000->(∀l∈ls,1<=l.length)->made.length*prd (ls.map (·.length))<=bnd->1<=made.length->
  ∃x' y' z',Zn (zP 2) v7 (ls.map T.lst) [.vl L,.vl (.lst (made.map T.tup)),x,y,z]= .nx [.vl L,.vl (.lst ((Z8 made ls).map T.tup)),x',y',z']
 | [],made,k,x,y,z,_,_,_,_,_=>⟨x,y,z,by simp[Zn,Z8]⟩
 | l :: ls,made,k,x,y,z,hk,hkl,hpos,hb,hm=>by
  have hpr:=JB λn hn=>by
   obtain⟨l',hl',rfl⟩:=aN.mp hn;exact hpos l' (a8 _ hl')
  rw[aI,prd,← cx]at hb;have hb1:=aC (cb _ hpr) hb;have hll:=aC (Nat.le_mul_of_pos_left _ hm) hb1;rw[ar]at hkl;obtain⟨w,er⟩:=U0 hll _ [] z (λa ha=>aC (hk a ha) (by omega)) (by rw[bM];omega)
  have es:v7 [.vl L,.vl (.lst (made.map T.tup)),.vl (.lst l),y,z]= .nx [.vl L,.vl (.lst ((made.flatMap λa=>l.map λx=>a++[x]).map T.tup)),.vl (.lst l),.vl (.lst ((made.flatMap λa=>l.map λx=>a++[x]).map T.tup)),w]:=by
   have e0:WX 3 (zj) [.vl L,.vl (.lst (made.map T.tup)),.vl (.lst l),y,z]= .nx [.vl L,.vl _,.vl _,.ow [],z]:=rfl;have e1:jJ (jc (vE 1)) _ _ [.vl L,.vl (.lst _),.vl _,.ow [],z]= .nx [.vl L,.vl _,.vl _,.ow ((made.flatMap λa=>l.map λx=>a++[x]).map _),w]:=er;unfold v7;rw[Z5,e0];dsimp only;rw[Z5,e1];rfl
  obtain⟨x',y',z',ih⟩:=WA m ls (made.flatMap λa=>l.map λx=>a++[x]) (k+1) _ (.vl (.lst ((made.flatMap λa=>l.map λx=>a++[x]).map _))) w (λa ha=>by
   obtain⟨b,hb,hx⟩:=ce.mp ha;obtain⟨u,_,rfl⟩:=aN.mp hx;have:=hk b hb;rw[aA,aK];omega) (by omega) (λl' hl' =>hpos l' (a8 _ hl')) (by
    rw[Jf _ _ _ λa _=>ae ..];exact hb) (by
    rw[Jf _ _ _ λa _=>ae ..];exact dJ hm (hpos l ab))
  refine⟨x',y',z', ?_⟩;have e:Zn (zP 2) _ ((l :: ls).map T.lst) [.vl L,.vl (.lst (made.map T.tup)),x,y,z]=match v7 [.vl L,.vl _,.vl _,y,z] with
   | .nx ρ2=>Zn _ _ _ ρ2
   | .ct ρ2=>Zn _ _ _ ρ2
   | .bk ρ2=> .nx ρ2
   | r=>r:=rfl
  rw[e,es];exact ih
theorem YV (ls:List (List T))(hl:ls.length<=1000)(hpos:∀l∈ls,1<=l.length)(hb:prd (ls.map (·.length))<=bnd):f_k [.lst (ls.map T.lst)]= .ok (.lst (yi ls)):=by
 obtain⟨x',y',z',er⟩:=WA 0 ls [[]] 0 .un .un .un (λa ha=>by rw[aT.mp ha];exact ai _) (by omega) hpos (by rw[aK,bV];exact hb) (ai _)
 have e:f_k [.lst (ls.map T.lst)]=zy (b_k [.vl _,.un,.un,.un,.un]):=rfl;have e0:zV 1 (jb (z9 (Zt (zj)) (zj))) [.vl (.lst (ls.map T.lst)),.un,.un,.un,.un]= .nx [.vl _,.vl _,.un,.un,.un]:=rfl;have e1:jJ (jc (vE 0)) _ _ [.vl (.lst _),.vl (.lst [.tup []]),.un,.un,.un]= .nx _:=er;rw[e,b_k,Z5,e0];dsimp only;rw[Z5,e1];rfl
theorem ZU (n:Nat):∀m:Nat,prd (af m n)=n ^ m
 | 0=>rfl
 | m+1=>by rw[bE,prd,ZU n m,fM,bP]
theorem Jg (ls:List (List T)):(yi ls).length=prd (ls.map (·.length)):=by
 rw[ae,JC,aK,bV]
noncomputable def pw (n lo hi:Nat):Nat:=((a_ (hi+1 - lo)).map λi=>n ^ (lo+i)).sum
theorem ZD (k:Kd)(lo hi:Nat):(Kd.many k lo hi).all.length=pw k.all.length lo hi:=by
 rw[Kd.all,List.length_flatMap,pw];congr 1
 refine bX λi _=> ?_;rw[Jg,aP,ZU]
theorem jS (ks:List Kd):(Kd.row ks).all.length=prd (ks.map λk=>k.all.length):=by
 rw[Kd.all,Jg,Kd.alls_map,bb];rfl
theorem j5 (lo hi:Int):(Kd.whole lo hi).all.length=(hi+1 - lo).toNat:=by
 rw[Kd.all,ae,bx]
theorem wT (cs:List (Str×Int)):(Kd.pick cs).all.length=cs.length:=by
 rw[Kd.all,ae]
theorem X7 (h:lo<=hi)(h3:hi<=3):(lo=0/\hi=0)\/(lo=0/\hi=1)\/(lo=0/\hi=2)\/(lo=0/\hi=3)\/(lo=1/\hi=1)\/(lo=1/\hi=2)\/(lo=1/\hi=3)\/(lo=2/\hi=2)\/(lo=2/\hi=3)\/(lo=3/\hi=3):=(by decide:∀hi lo:Fin 4,lo.1<=hi.1->(lo.1=0/\hi.1=0)\/(lo.1=0/\hi.1=1)\/(lo.1=0/\hi.1=2)\/(lo.1=0/\hi.1=3)\/(lo.1=1/\hi.1=1)\/(lo.1=1/\hi.1=2)\/(lo.1=1/\hi.1=3)\/(lo.1=2/\hi.1=2)\/(lo.1=2/\hi.1=3)\/(lo.1=3/\hi.1=3)) ⟨hi,fN h3⟩ ⟨lo,fN (aC h h3)⟩ h
noncomputable def iv (b:Bool):Nat:=if b then 1 else 0
theorem X8 (n:Nat)(h:lo<=hi)(h3:hi<=3):pw n lo hi=iv (lo == 0)+n*iv (decide (lo<=1) && decide (1<=hi))+n*n*iv (decide (lo<=2) && decide (2<=hi))+n*n*n*iv (hi == 3):=by
 rcases X7 h h3 with ⟨rfl,rfl⟩ | ⟨rfl,rfl⟩ | ⟨rfl,rfl⟩ | ⟨rfl,rfl⟩ | ⟨rfl,rfl⟩ | ⟨rfl,rfl⟩ | ⟨rfl,rfl⟩ | ⟨rfl,rfl⟩ | ⟨rfl,rfl⟩ | ⟨rfl,rfl⟩ <;>
  simp[pw,ia,iv,fM]
 all_goals omega
theorem gz (hn:1<=n)(h:lo<=hi)(h3:hi<=3):1<=pw n lo hi:=by
 have h2:=dJ hn hn;have h1:=dJ h2 hn;rw[X8 n h h3];rcases X7 h h3 with ⟨rfl,rfl⟩ | ⟨rfl,rfl⟩ | ⟨rfl,rfl⟩ | ⟨rfl,rfl⟩ | ⟨rfl,rfl⟩ | ⟨rfl,rfl⟩ | ⟨rfl,rfl⟩ | ⟨rfl,rfl⟩ | ⟨rfl,rfl⟩ | ⟨rfl,rfl⟩ <;>
  simp[iv] <;> omega
theorem z1i (hn:n<=N)(h:lo<=hi)(h3:hi<=3):pw n lo hi<=1+N+N*N+N*N*N:=by
 have h2:=cD hn hn;have h1:=cD h2 hn;rw[X8 n h h3];rcases X7 h h3 with ⟨rfl,rfl⟩ | ⟨rfl,rfl⟩ | ⟨rfl,rfl⟩ | ⟨rfl,rfl⟩ | ⟨rfl,rfl⟩ | ⟨rfl,rfl⟩ | ⟨rfl,rfl⟩ | ⟨rfl,rfl⟩ | ⟨rfl,rfl⟩ | ⟨rfl,rfl⟩ <;>
  simp[iv] <;> omega
theorem Va (hN:1<=N):∀(ns:List Nat),(∀n∈ns,n<=N)->prd ns<=N ^ ns.length
 | [],_=>ai _
 | n :: ns,h=>by
  rw[prd,bP];exact cD (Va hN ns λm hm=>h m (a8 _ hm)) (h n ab)
theorem Zl:∀(d:Nat) (k:Kd),k.Ok d->1<=k.all.length
 | 0,_,h=>h.elim
 | d+1,.whole lo hi,h=>by
  obtain⟨_,h2,_⟩:=h;rw[j5];omega
 | d+1,.pick cs,h=>by
  rw[wT];exact h.1
 | d+1,.row ks,h=>by
  rw[jS];refine JB λn hn=> ?_;obtain⟨k,hk,rfl⟩:=aN.mp hn;exact Zl d k (h.2.2 k hk)
 | d+1,.many k lo hi,h=>by
  rw[ZD];exact gz (Zl d k h.2.2) h.1 h.2.1
noncomputable def mx:Nat->Nat
 | 0=>0
 | 1=>41
 | d+1=>1+mx d+mx d*mx d+mx d*mx d*mx d
theorem Vb (d:Nat):41<=mx (d+1):=by
 induction d with
 | zero=>exact ai _
 | succ d ih=>
  show 41<=1+mx _+mx _*mx _+mx _*mx _*mx _;omega
theorem YW (d:Nat)(n:Nat)(h:n<=41):n<=mx (d+1):=aC h (Vb d)
theorem X9 (hN:1<=N)(h:m<=3):N ^ m<=1+N+N*N+N*N*N:=by
 have:m=0\/m=1\/m=2\/m=3:=by omega
 rcases this with rfl | rfl | rfl | rfl <;> simp[fM] <;> omega
theorem j6:∀(d:Nat) (k:Kd),k.Ok d->k.all.length<=mx d
 | 0,_,h=>h.elim
 | d+1,.whole lo hi,h=>by
  obtain⟨h1,h2,h3⟩:=h;rw[j5];exact YW d _ (by omega)
 | d+1,.pick cs,h=>by
  rw[wT];exact YW d _ (aC h.2.1 (by omega))
 | 1,.row ks,h=>by
  obtain⟨h1,h2,h3⟩:=h
  match ks,h1,h3 with
  | k :: _,_,h3=>exact(h3 k ab).elim
 | d+2,.row ks,h=>by
  obtain⟨h1,h2,h3⟩:=h;rw[jS];have hp:=aC (by omega:1<=41) (Vb d)
  have:=Va hp (ks.map λk=>k.all.length) λn hn=>by
   obtain⟨k,hk,rfl⟩:=aN.mp hn;exact j6 _ k (h3 k hk)
  rw[ae]at this;exact aC this (X9 hp h2)
 | 1,.many k lo hi,h=>h.2.2.elim
 | d+2,.many k lo hi,h=>by
  rw[ZD];exact z1i (j6 _ k h.2.2) h.1 h.2.1
theorem zd (h:f ρ= .nx ρ'):zA f g ρ=g ρ' :=by rw[Z5,h]
theorem cs0:zL eqC (zb ixT (vE 0) (cE (.int 0))) (cE (.str w)) (.vl (.tup (.str x :: r)) :: ρ)= .ok (x == w):=by
 rw[zU,zv,v0,bOk,zZ,bOk,at0,zZ,bOk];rfl
theorem Jh:zb ixT (vE 0) (cE (.int 1)) (.vl (.tup (a :: b :: r)) :: ρ)= .ok b:=by
 rw[zv,v0,bOk,zZ,bOk,at1]
theorem ue:zb ixT (vE 0) (cE (.int 2)) (.vl (.tup (a :: b :: c :: r)) :: ρ)= .ok c:=by
 rw[zv,v0,bOk,zZ,bOk,at2]
theorem XL:zb ixT (vE 0) (cE (.int 3)) (.vl (.tup (a :: b :: c :: d :: r)) :: ρ)= .ok d:=by
 rw[zv,v0,bOk,zZ,bOk,at3]
theorem YX (h:f ρ= .ok (.int i)):zb zE f (cE (.int 1)) ρ= .ok (.int (i+1)):=by
 rw[zv,h,bOk,zZ,bOk,Z3]
theorem wU (hf:f ρ= .ok (.int i))(hg:g ρ= .ok (.int j))(h: -1000000 < i/\i < 1000000/\ -1000000 < j/\j < 1000000):jh f g ρ= .ok (rng i (j - i).toNat):=by
 unfold jh;rw[hf,hg];exact if_pos h
theorem YY:∀(cs:List (Str×Int)) (x y:Sl),zG (Ze 0 1) Zi (vE 0) (cs.map wS) [x,y]= .ok (cs.map λc=>T.str c.1)
 | [],_,_=>rfl
 | c :: cs,x,y=>by
  have e:zG (Ze 0 1) Zi (vE 0) ((c :: cs).map wS) [x,y]=(zG _ _ _ _ [.vl _,.vl _]).bind λvs=> .ok _:=rfl;rw[e,YY cs];rfl
theorem WB {x:T}{m:Nat}(h:m<=3):Z4 (.lst [x]) (.int (m:Int))= .ok (.lst (af m [x]).flatten):=by
 unfold Z4;dsimp only;have c:0<=(m:Int)/\(m:Int) < 1000000/\[x].length*(m:Int).toNat<=bnd:=by
  have hb:3<=bnd:=by decide
  refine⟨by omega,by omega, ?_⟩
  rw[aK,bV];exact aC h hb
 rw[if_pos c,bw]
theorem jf {α:Type}(x:α):∀m:Nat,(af m [x]).flatten=af m x
 | 0=>rfl
 | m+1=>by rw[bE,dI,jf x m];rfl
abbrev uf (ca cr:List T->R T):En->RS:=Q3 1 (za 1 cr (z9 (zb Z4 (jb (z9 (za 1 ca (z9 (zb ixT (vE 0) (cE (.int 1))) (zj))) (zj))) (vE 2)) (zj)))
theorem XM (hf:f ρ= .ok x):jb (z9 f zj) ρ= .ok (.lst [x]):=by
 unfold jb z9 zj;rw[hf];rfl
theorem WC {ca:List T->R T}{k:Kd}{t:T}{lo:Nat}{ws:List T}(hw:ca [t]= .ok (.lst ws))(hpos:1<=ws.length){a b c:T}:∀(js:List Nat) (acc:List T) (x:Sl),(∀j∈js,lo+j<=3)->acc.length+(js.map λj=>ws.length ^ (lo+j)).sum<=bnd->
  ∃y,Zn (zP 2) (uf ca f_k) (js.map λ(j:Nat)=>T.int ((lo:Int)+(j:Int))) [.vl (.tup [a,t,b,c]),.ow acc,x]= .nx [.vl (.tup [a,t,b,c]),.ow (acc++js.flatMap λj=>yi (af (lo+j) ws)),y]
 | [],acc,x,_,_=>⟨x,by simp[Zn]⟩
 | j :: js,acc,x,hj,hb=>by
  have hj1:=hj j ab;rw[aI,dP]at hb;have er:f_k [.lst ((af (lo+j) ws).map _)]= .ok _:=YV _ (by rw[aJ];omega) (λl hl=>by rw[bz hl];exact hpos) (by rw[aP,ZU];omega)
  have hlen:(yi (af (lo+j) ws)).length=ws.length ^ (lo+j):=by rw[Jg,aP,ZU]
  have em:Z4 (.lst [.lst ws]) (.int ((lo)+(j)))= .ok (.lst ((af (lo+j) ws).map T.lst)):=by
   have e1:(lo:Int)+(j)=((lo+j:Nat)):=by omega
   rw[e1,WB (by omega),jf,aP]
  have eb:uf ca f_k [.vl (.tup [a,t,b,c]),.ow acc,.vl (.int ((lo)+(j)))]= .nx [.vl (.tup [a,t,b,c]),.ow (acc++yi (af (lo+j) ws)),.vl (.int ((lo)+(j)))]:=by
   have e1:za 1 f_k (z9 (zb Z4 (jb (z9 (za 1 ca (z9 (zb ixT (vE 0) (cE (.int 1))) (zj))) (zj))) (vE 2)) (zj)) [.vl (.tup [a,t,b,c]),.ow acc,.vl (.int ((lo)+(j)))]= .ok (.lst (yi (af (lo+j) ws))):=by
    have e0:za 1 ca (z9 (zb ixT (vE 0) (cE (.int 1))) (zj)) [.vl (.tup [a,t,b,c]),.ow acc,.vl (.int ((lo)+(j)))]= .ok (.lst ws):=by
     rw[zQ,Jh,bOk,hw]
    rw[zQ,zv,XM e0,bOk,v2,bOk,em,bOk,er]
   show ((za 1 _ _ _).s λt=>match t with | .lst us=>if acc.length+us.length<=bnd then RS.nx _ else .bad | _=> .bad)=_
   rw[e1];show (if _ then _ else _)=_
   rw[if_pos (by omega)]
   rfl
  obtain⟨y,ih⟩:=WC (k:=k) hw hpos js (acc++yi (af (lo+j) ws)) _ (λi hi=>hj i (a8 _ hi)) (by rw[aA];omega)
  refine⟨y, ?_⟩;have e:Zn (zP 2) (uf ca f_k) ((j :: js).map λ(j:Nat)=>T.int ((lo)+(j))) [.vl (.tup [a,t,b,c]),.ow acc,x]=match uf ca _ [.vl _,.ow acc,.vl _] with
   | .nx ρ2=>Zn _ _ (js.map λ(j)=>T.int _) ρ2
   | .ct ρ2=>Zn _ _ (js.map λ(j)=>T.int _) ρ2
   | .bk ρ2=> .nx ρ2
   | r=>r:=rfl
  rw[e,eb];dsimp only;rw[ih,bK,bf]
theorem v8 (h1:lo<=hi)(h2:hi<=3){r:RS}
  (el:Zn (zP 2) (uf ca f_k) ((a_ (hi+1 - lo)).map λ(j:Nat)=>T.int ((lo:Int)+(j:Int))) [.vl (.tup [a,t,.int (lo:Int),.int (hi:Int)]),.ow acc,x]=r):
  jJ (jh (zb ixT (vE 0) (cE (.int 2))) (zb zE (zb ixT (vE 0) (cE (.int 3))) (cE (.int 1)))) (zP 2) (uf ca f_k) [.vl (.tup [a,t,.int (lo:Int),.int (hi:Int)]),.ow acc,x]=r:=by
 have hn:((hi:Int)+1 - (lo)).toNat=hi+1 - lo:=by omega
 have hc: -1000000 < (lo:Int)/\(lo:Int) < 1000000/\ -1000000 < (hi:Int)+1/\(hi:Int)+1 < 1000000:=by omega
 have e:jJ (jh (zb ixT (vE 0) (cE (.int 2))) (zb zE (zb ixT (vE 0) (cE (.int 3))) (cE (.int 1)))) (zP 2) (uf ca f_k) [.vl (.tup [a,t,.int (lo),.int (hi)]),.ow acc,x]=(jh _ _ _).s λts=>Zn _ _ ts _:=rfl;rw[e,wU ue (YX XL) hc,hn];exact el
theorem gA (e:L=pw n lo hi)(h:L<=1000000):([]:List T).length+((a_ (hi+1 - lo)).map λj=>n ^ (lo+j)).sum<=bnd:=by
 have h' :pw n lo hi<=bnd:=aC (e ▸ h) (by decide)
 rw[bM,eL];exact h'
theorem YZ (d:Nat)(lo hi:Int)(h:(Kd.whole lo hi).Ok (d+1))(hl:(Kd.whole lo hi).all.length<=1000000)(H:∀k' :Kd,k'.Ok d->ca [k'.t]= .ok (.lst k'.all)):zy (b_6 ca f_k (en0 3 [(Kd.whole lo hi).t]))= .ok (.lst (Kd.whole lo hi).all):=by
 have e:zy (b_6 ca f_k (en0 3 [(Kd.whole lo hi).t]))=zy (b_6 ca _ [.vl _,.un,.un]):=rfl;rw[e,b_6,Z5,ZV];obtain⟨h1,h2,h3⟩:=h;simp only[Kd.t];rw[Zh,j4,wM];unfold Gi;rw[wU Jh (YX ue) ⟨by omega,by omega,by omega,by omega⟩]
 rfl
theorem v9 (d:Nat)(cs:List (Str×Int))(h:(Kd.pick cs).Ok (d+1))(hl:(Kd.pick cs).all.length<=1000000)(H:∀k' :Kd,k'.Ok d->ca [k'.t]= .ok (.lst k'.all)):zy (b_6 ca f_k (en0 3 [(Kd.pick cs).t]))= .ok (.lst (Kd.pick cs).all):=by
 have hb1:bnd=16777216:=rfl;have e:zy (b_6 ca f_k (en0 3 [(Kd.pick cs).t]))=zy (b_6 ca _ [.vl _,.un,.un]):=rfl;rw[e,b_6,Z5,ZV];simp only[Kd.t];rw[cs0,ZC,show (("pick":Str) == "whole")=false from rfl,if_neg aH,wj];dsimp only;rw[Z5,ZV,Zh,j4,wM,wM,jq,Zb,jk,Jh];have hc:=h.2.1;have ec:zD (Ze 0 1) Zi (vE 0) 2 [] [.vl (.tup [.str "pick",.tup (cs.map wS)]),.un,.un] (cs.map wS)= .ok (cs.map λc=>T.str c.1):=by
  unfold zD;rw[if_pos (by rw[ae];omega)]
  show quiet (zG _ _ _ _ [.un,.un])=_;rw[YY];rfl
 show zy (match ((((R.ok _).bind λts=>(zD _ _ _ 2 [] _ ts).bind λvs=> .ok _)).s λt=> .rt t) with | .nx ρ' =>_ | r=>r)=_
 rw[bOk,ec];rfl
theorem Xa (d:Nat)(ks:List Kd)(h:(Kd.row ks).Ok (d+1))(hl:(Kd.row ks).all.length<=1000000)(H:∀k' :Kd,k'.Ok d->ca [k'.t]= .ok (.lst k'.all)):zy (b_6 ca f_k (en0 3 [(Kd.row ks).t]))= .ok (.lst (Kd.row ks).all):=by
 have hb1:bnd=16777216:=rfl;have e:zy (b_6 ca f_k (en0 3 [(Kd.row ks).t]))=zy (b_6 ca _ [.vl _,.un,.un]):=rfl;rw[e,b_6,Z5,ZV];obtain⟨h1,h2,h3⟩:=h;simp only[Kd.t];rw[cs0,ZC,show (("row":Str) == "whole")=false from rfl,if_neg aH,wj];dsimp only;rw[Z5,ZV,cs0,ZC,show (("row":Str) == "pick")=false from rfl,if_neg aH,wj];dsimp only;rw[Z5,ZV,Zh,j4,wM,wM,jq,zQ,Kd.ts_map];have ec:zD (zP 0) Zi (za 1 ca (z9 (vE 0) (zj))) 1 [] [.vl (.tup [.str "row",.tup (ks.map Kd.t)]),.un,.un] (ks.map Kd.t)= .ok ((ks.map Kd.all).map T.lst):=by
  unfold zD;rw[if_pos (by rw[ae];omega)]
  show quiet (zG _ _ _ _ [.un])=_;have:∀(ks:List Kd) (x:Sl),(∀k∈ks,k.Ok d)->zG (zP 0) Zi (za 1 ca (z9 (vE 0) (zj))) (ks.map Kd.t) [x]= .ok ((ks.map Kd.all).map T.lst):=by
   intro ks
   induction ks with
   | nil=>intro _ _;rfl
   | cons k ks ih=>
    intro x hk;have e1:zG (zP 0) Zi (za 1 ca (z9 (vE 0) (zj))) ((k :: ks).map _) [x]=(za 1 ca _ [.vl k.t]).bind λv=>(zG _ _ _ _ [.vl k.t]).bind λvs=> .ok _:=rfl;rw[e1,zQ,v0,bOk,H k (hk k ab),ih _ λk' hk' =>hk k' (a8 _ hk')];rfl
  rw[this ks .un h3];rfl
 have hrow:=jS ks;have er:f_k [.lst ((ks.map Kd.all).map _)]= .ok _:=YV _ (by rw[ae];omega) (λl hl=>by
  obtain⟨k,hk,rfl⟩:=aN.mp hl;exact Zl d k (h3 k hk)) (by
  rw[bb];show prd (ks.map λk=>k.all.length)<=bnd;omega)
 show zy (match ((((R.ok _).bind λts=>(zD _ _ _ 1 [] _ ts).bind λvs=> .ok _).bind λx=>f_k [x]).s λt=> .rt t) with | .nx ρ' =>_ | r=>r)=_
 rw[bOk,ec,bOk,bOk,er,Kd.all,Kd.alls_map];rfl
theorem va {ca:List T->R T}(d:Nat)(k:Kd)(lo hi:Nat)(h:(Kd.many k lo hi).Ok (d+1))(hl:(Kd.many k lo hi).all.length<=1000000)(H:∀k' :Kd,k'.Ok d->ca [k'.t]= .ok (.lst k'.all)):zy (b_6 ca f_k (en0 3 [(Kd.many k lo hi).t]))= .ok (.lst (Kd.many k lo hi).all):=by
 have hb1:bnd=16777216:=rfl;have e:zy (b_6 ca f_k (en0 3 [(Kd.many k lo hi).t]))=zy (b_6 ca f_k [.vl (Kd.many k lo hi).t,.un,.un]):=rfl;rw[e,b_6,Z5,ZV];obtain⟨h1,h2,h3⟩:=h;have hml:=ZD k lo hi;simp only[Kd.t];rw[cs0,ZC,show (("many":Str) == "whole")=false from rfl,if_neg aH,wj];dsimp only;rw[Z5,ZV,cs0,ZC,show (("many":Str) == "pick")=false from rfl,if_neg aH,wj];dsimp only;rw[Z5,ZV,cs0,ZC,show (("many":Str) == "row")=false from rfl,if_neg aH,wj];dsimp only;have e0:WX 1 (zj) [.vl (.tup [.str "many",k.t,.int (lo:Int),.int (hi:Int)]),.un,.un]= .nx [.vl (.tup [.str "many",k.t,.int (lo:Int),.int (hi:Int)]),.ow [],.un]:=rfl;rw[Z5,e0];dsimp only;obtain⟨y,el⟩:=WC (k:=k) (lo:=lo) (H k h3) (Zl d k h3) (a:= .str "many") (b:= .int (lo:Int)) (c:= .int (hi:Int)) (a_ (hi+1 - lo)) [] .un (λj hj=>by have:=bo.mp hj;omega) (gA hml hl)
 have e1:=v8 (ca:=ca) (t:=k.t) h1 h2 el;rw[bL]at e1;rw[zd e1,Kd.all];rfl
theorem vb (d:Nat)(k:Kd)(h:k.Ok (d+1))(hl:k.all.length<=1000000)(H:∀k' :Kd,k'.Ok d->ca [k'.t]= .ok (.lst k'.all)):zy (b_6 ca f_k (en0 3 [k.t]))= .ok (.lst k.all):=by
 cases k with
 | whole lo hi=>exact YZ d lo hi h hl H
 | pick cs=>exact v9 d cs h hl H
 | row ks=>exact Xa d ks h hl H
 | many k lo hi=>exact va d k lo hi h hl H
theorem qa:∀(d n:Nat),d<=n->d<=3->∀k:Kd,k.Ok d->k.all.length<=1000000->S_6 n 0 [k.t]= .ok (.lst k.all)
 | 0,_,_,_,_,h,_=>h.elim
 | d+1,0,hn,_,_,_,_=>by omega
 | d+1,n+1,hn,hd,k,h,hl=>by
  have e:S_6 (n+1) 0 [k.t]=zy (b_6 (S_6 n 0) f_k (en0 3 [k.t])):=rfl;rw[e];refine vb d k h hl λk' hk' =>qa d n (by omega) (by omega) k' hk' ?_
  have h1:=j6 d k' hk';have:mx d<=1000000:=by
   have:d=0\/d=1\/d=2:=by omega
   rcases this with rfl | rfl | rfl <;> decide
  omega
theorem in2:zL inC (zb ixT (vE 0) (cE (.int 0))) (Zt (z9 (cE (.str a)) (z9 (cE (.str b)) (zj)))) (.vl (.tup (.str x :: r)) :: ρ)=inC (.str x) (.tup [.str a,.str b]):=by
 rw[zU,zv,v0,bOk,zZ,bOk,at0,bOk,Q9 zZ zZ,bOk]
theorem JP (h:g ρ= .ok true):ifS g f1 f2 ρ=f1 ρ:=by rw[ZV,h,ZC,if_pos rfl]
theorem if_f (h:g ρ= .ok false):ifS g f1 f2 ρ=f2 ρ:=by rw[ZV,h,ZC,if_neg aH]
theorem zC (h:g ρ= .ok false):ifS g f1 nxS ρ= .nx ρ:=by rw[if_f h];rfl
theorem zX (h:f ρ= .ok t):zV i f ρ= .nx (ρ.set i (.vl t)):=by rw[J7,h,ZC]
theorem zz (h:f (frz ρ)= .ok t):zF f ρ= .rt t:=by rw[Zh,h,ZC]
theorem JD {g:T->En->R En}(hg:g t ρ= .ok ρ1)(hb:fb ρ1= .nx ρ2):Zn g fb (t :: ts) ρ=Zn g fb ts ρ2:=by
 rw[Zn,hg];dsimp only;rw[hb]
theorem zI (h:f ρ= .rt t):zA f g ρ= .rt t:=by rw[Z5,h]
theorem U1 {i j:Nat}(h:i < 2 ^ 60):Z4 (.int (i:Int)) (.int (j:Int))= .ok (.int ((i*j:Nat):Int)):=by
 rw[YT _ _ (.inl ⟨by omega,by omega⟩),i5]
theorem Xb (h:n<=mx d)(hd:d<=3):n < 2 ^ 60:=by
 have:d=0\/d=1\/d=2\/d=3:=by omega
 have h3:mx 3 < 2 ^ 60:=by decide
 have h2:mx 2 < 2 ^ 60:=by decide
 have h1:mx 1 < 2 ^ 60:=by decide
 have h0:mx 0 < 2 ^ 60:=by decide
 rcases this with rfl | rfl | rfl | rfl <;> omega
theorem U2 {a b:Sl}:∀(ns:List Nat) (m:Nat) (x y:Sl),(∀n∈ns,1<=n)->m*prd ns < 2 ^ 60->∃x',Zn (zP 3) (zV 2 (zb Z4 (vE 2) (vE 3))) (ns.map λ(n:Nat)=>T.int (n:Int)) [a,b,.vl (.int (m:Int)),x,y]= .nx [a,b,.vl (.int ((m*prd ns:Nat):Int)),x',y]
 | [],m,x,y,_,_=>⟨x,by simp[Zn,prd]⟩
 | n :: ns,m,x,y,hp,hb=>by
  have hpr:=JB λk hk=>hp k (a8 _ hk);have hn:=hp n ab;have hmm:m<=m*prd (n :: ns):=cb _ (dJ hn hpr);have hb2:=bB hmm hb;rw[prd,← cx]at hb;obtain⟨x',ih⟩:=U2 ns _ _ y (λk hk=>hp k (a8 _ hk)) hb;refine⟨x', ?_⟩;have es:zV 2 (zb Z4 (vE 2) (vE 3)) [a,b,.vl (.int (m)),.vl (.int (n)),y]= .nx [a,b,.vl (.int ((m*n):Int)),.vl (.int (n)),y]:=by
   rw[J7,zv,v2,bOk,v3,bOk,U1 hb2];rfl
  have s3:zP 3 (T.int (n)) [a,b,.vl (.int (m)),x,y]= .ok _:=rfl;rw[aI,JD s3 es,prd,← cx];exact ih
theorem vc:∀(d:Nat) (lo hi:Int),(Kd.whole lo hi).Ok (d+1)->(Kd.whole lo hi).Ok 1
 | _,_,_,h=>h
theorem ve:∀(d:Nat) (cs:List (Str×Int)),(Kd.pick cs).Ok (d+1)->(Kd.pick cs).Ok 1
 | _,_,h=>h
theorem WD (k:Kd)(h:k.Ok 1)(ht:k.t= .tup (.str x :: r))(hx:inC (.str x) (.tup [.str "whole",.str "pick"])= .ok true):zy (b_h (f_6 8) cs (en0 5 [k.t]))= .ok (.int (k.all.length:Int)):=by
 have ha:f_6 8 _= .ok _:=qa 1 8 (by omega) (by omega) k h (aC (j6 1 k h) (by decide))
 have e:zy (b_h (f_6 8) cs (en0 5 [k.t]))=zy (b_h _ cs [.vl k.t,.un,.un,.un,.un]):=rfl;have e1:zL inC (zb ixT (vE 0) (cE (.int 0))) (Zt (z9 (cE (.str "whole")) (z9 (cE (.str "pick")) (zj)))) [.vl k.t,.un,.un,.un,.un]= .ok true:=by
  rw[ht,in2,hx]
 have e2:zF (ap1 Zw (za 1 (f_6 8) (z9 (vE 0) (zj)))) [.vl k.t,.un,.un,.un,.un]= .rt (.int (k.all.length)):=by
  refine zz ?_;rw[j4,ZO,zQ,v0,bOk,ha,bOk,gm]
 rw[e,b_h,zI (by rw[JP e1,e2])]
 rfl
theorem z1j (b:Bool):b2 b=(iv b:Int):=by cases b <;> rfl
theorem vf (hd:d+1<=3)(ks:List Kd)(h:(Kd.row ks).Ok (d+1))(H:∀k:Kd,k.Ok d->cs [k.t]= .ok (.int (k.all.length:Int))):zy (b_h (f_6 8) cs (en0 5 [(Kd.row ks).t]))= .ok (.int ((Kd.row ks).all.length:Int)):=by
 have hlt:=Xb (j6 _ _ h) hd;rw[jS]at hlt ⊢;obtain⟨h1,h2,h3⟩:=h;simp only[Kd.t,Kd.ts_map];have e:zy (b_h (f_6 8) cs (en0 5 [.tup [.str "row",.tup (ks.map Kd.t)]]))=zy (b_h _ cs [.vl _,.un,.un,.un,.un]):=rfl;have e1:zL inC (zb ixT (vE 0) (cE (.int 0))) (Zt (z9 (cE (.str "whole")) (z9 (cE (.str "pick")) (zj)))) [.vl (.tup [.str "row",.tup (ks.map Kd.t)]),.un,.un,.un,.un]= .ok false:=by
  rfl
 have ec:zD (zP 0) Zi (za 1 cs (z9 (vE 0) (zj))) 1 [] [.vl (.tup [.str "row",.tup (ks.map Kd.t)]),.un,.un,.un,.un] (ks.map Kd.t)= .ok ((ks.map λk=>k.all.length).map λ(n:Nat)=>T.int (n)):=by
  unfold zD;rw[if_pos (by rw[ae];exact aC h2 (by decide))]
  have:∀(ks:List Kd) (x:Sl),(∀k∈ks,k.Ok d)->zG (zP 0) Zi (za 1 cs (z9 (vE 0) (zj))) (ks.map Kd.t) [x]= .ok ((ks.map λk=>k.all.length).map λ(n:Nat)=>T.int (n)):=by
   intro ks
   induction ks with
   | nil=>intro _ _;rfl
   | cons k ks ih=>
    intro x hk;have e1:zG (zP 0) Zi (za 1 cs (z9 (vE 0) (zj))) ((k :: ks).map _) [x]=(za 1 cs _ [.vl k.t]).bind λv=>(zG _ _ _ _ [.vl k.t]).bind λvs=> .ok _:=rfl;rw[e1,zQ,v0,bOk,H k (hk k ab),ih _ λk' hk' =>hk k' (a8 _ hk')];rfl
  show quiet (zG _ _ _ _ [.un])=_;rw[this ks .un h3];rfl
 have e2:ifE (zL eqC (zb ixT (vE 0) (cE (.int 0))) (cE (.str "row"))) (Z6 (jc (zb ixT (vE 0) (cE (.int 1)))) (zP 0) (Zi) (za 1 cs (z9 (vE 0) (zj))) 1 []) (jb (zj)) [.vl (.tup [.str "row",.tup (ks.map Kd.t)]),.un,.un,.un,.un]= .ok (.lst ((ks.map λk=>k.all.length).map λ(n:Nat)=>T.int (n))):=by
  unfold ifE;rw[cs0,bOk,show (("row":Str) == "row")=true from rfl,if_pos rfl,Zb,jk,Jh];show ((R.ok _).bind _)=_;rw[bOk,ec,bOk]
 obtain⟨x',el⟩:=U2 (a:= .vl _) (ks.map λk=>k.all.length) 1 .un .un (λn hn=>by
  obtain⟨k,hk,rfl⟩:=aN.mp hn;exact Zl d k (h3 k hk)) (by rw[bV];exact hlt)
 rw[bV]at el;have e3:jJ (jc (vE 1)) _ _ [.vl _,.vl (.lst ((ks.map λk=>k.all.length).map λ(n:Nat)=>T.int (n))),.vl (.int 1),.un,.un]=_:=el;rw[e,b_h,zd (zC e1),zd (zX e2)];have s1:([.vl (.tup [.str "row",.tup (ks.map Kd.t)]),.un,.un,.un,.un]:En).set 1 (.vl (.lst ((ks.map λk=>k.all.length).map λ(n:Nat)=>T.int (n))))=[.vl _,.vl (.lst ((ks.map λk=>k.all.length).map λ(n:Nat)=>T.int (n))),.un,.un,.un]:=rfl;rw[s1,zd (zX zZ)];have s2:([.vl (.tup [.str "row",.tup (ks.map Kd.t)]),.vl (.lst ((ks.map λk=>k.all.length).map λ(n:Nat)=>T.int (n))),.un,.un,.un]:En).set 2 (.vl (.int 1))=[.vl _,.vl (.lst ((ks.map λk=>k.all.length).map λ(n)=>T.int _)),.vl _,.un,.un]:=rfl;rw[s2,zd e3];rfl
theorem gB (hf:f ρ= .ok (.int i))(hg:g ρ= .ok (.int j)):chE leC leC f (cE (.int c)) g ρ= .ok (.bl (decide (i<=c) && decide (c<=j))):=by
 rw[YL,hf,bOk,zZ,bOk,wN,hg];cases decide (i<=c) <;> rfl
theorem wk (a b:Nat):decide ((a:Int)<=(b:Int))=decide (a<=b):=by
 by_cases h:a<=b
 ·rw[decide_eq_true h];exact decide_eq_true (by omega)
 ·rw[decide_eq_false h];exact decide_eq_false (by omega)
theorem qb (a b:Nat):((a:Int) == (b:Int))=(a == b):=by
 by_cases h:a=b
 ·subst h;simp
 ·rw[beq_eq_false_iff_ne.mpr h,beq_eq_false_iff_ne];omega
theorem GK (h:f ρ= .ok (.bl b)):ap1 Yb f ρ= .ok (.int ((iv b:Nat):Int)):=by
 rw[ZO,h];show R.ok _=_;rw[z1j]
theorem qc (hf:f ρ= .ok (.int (i:Int)))(hg:g ρ= .ok (.int (j:Int))):zb zE f g ρ= .ok (.int ((i+j:Nat):Int)):=by
 rw[zv,hf,bOk,hg,bOk,Z3,Int.natCast_add]
theorem jT (h:i < 2 ^ 60)(hf:f ρ= .ok (.int (i:Int)))(hg:g ρ= .ok (.int (j:Int))):zb Z4 f g ρ= .ok (.int ((i*j:Nat):Int)):=by
 rw[zv,hf,bOk,hg,bOk,U1 h]
theorem Xc (h:n<=mx d)(hd:d+1<=3)(h0:1<=d):n*n*n < 2 ^ 60/\n*n < 2 ^ 60/\n < 2 ^ 60:=by
 have h1:n<=70644:=by
  have:d=1\/d=2:=by omega
  have h2:mx 2=70644:=by decide
  have h1:mx 1=41:=by decide
  rcases this with rfl | rfl <;> omega
 have h2:=cD h1 h1;have h3:=cD h2 h1;have h4:70644*70644*70644 < 2 ^ 60:=by decide
 have h5:70644*70644 < 2 ^ 60:=by decide
 have h6:70644 < 2 ^ 60:=by decide
 exact⟨bB h3 h4,bB h2 h5,bB h1 h6⟩
noncomputable abbrev mt (t:T)(lo hi:Nat):T:= .tup [.str "many",t,.int (lo:Int),.int (hi:Int)]
theorem v4' :vE 4 (a :: b :: c :: d :: .vl t :: ρ)= .ok t:=rfl
theorem qd {t:T}{a x:Sl}{lo hi n:Nat}(h3:n*n*n < 2 ^ 60)(h2:n*n < 2 ^ 60)(h1:n < 2 ^ 60):
  zA (zV 2 (zb zE (ap1 Yb (ZL eqC (zb ixT (vE 0) (cE (.int 2))) (cE (.int 0)))) (zb Z4 (vE 4) (ap1 Yb (chE leC leC (zb ixT (vE 0) (cE (.int 2))) (cE (.int 1)) (zb ixT (vE 0) (cE (.int 3))))))))
  (zA (zV 2 (zb zE (vE 2) (zb Z4 (zb Z4 (vE 4) (vE 4)) (ap1 Yb (chE leC leC (zb ixT (vE 0) (cE (.int 2))) (cE (.int 2)) (zb ixT (vE 0) (cE (.int 3))))))))
  (zV 2 (zb zE (vE 2) (zb Z4 (zb Z4 (zb Z4 (vE 4) (vE 4)) (vE 4)) (ap1 Yb (ZL eqC (zb ixT (vE 0) (cE (.int 3))) (cE (.int 3))))))))
  [.vl (mt t lo hi),a,.vl (.int 1),x,.vl (.int (n:Int))]= .nx [.vl (mt t lo hi),a,.vl (.int ((iv (lo == 0)+n*iv (decide (lo<=1) && decide (1<=hi))+n*n*iv (decide (lo<=2) && decide (2<=hi))+n*n*n*iv (hi == 3):Nat):Int)),x,.vl (.int (n:Int))]:=by
 have le1:∀{p q r s:Sl},ap1 _ (chE leC leC _ _ _) [.vl (mt t lo hi),p,q,r,s]= .ok (.int ((iv (decide (lo<=1) && decide (1<=hi))):Int)):=λ{p q r s}=>GK (by
  rw[gB ue XL];rw[show decide ((lo:Int)<=1)=decide _ from wk lo 1,show decide ((1:Int)<=(hi))=decide _ from wk 1 hi])
 have le2:∀{p q r s:Sl},ap1 _ (chE leC leC _ _ _) [.vl (mt t lo hi),p,q,r,s]= .ok (.int ((iv (decide (lo<=2) && decide (2<=hi))):Int)):=λ{p q r s}=>GK (by
  rw[gB ue XL];rw[show decide ((lo:Int)<=2)=decide _ from wk lo 2,show decide ((2:Int)<=(hi))=decide _ from wk 2 hi])
 have eq0:∀{p q r s:Sl},ap1 _ (ZL eqC (zb ixT _ _) (cE _)) [.vl (mt t lo hi),p,q,r,s]= .ok _:=λ{p q r s}=>GK (by
  rw[ZT,ue,bOk,zZ,bOk,eqI,bOk,show ((lo:Int) == 0)=(lo == 0) from qb lo 0])
 have eq3:∀{p q r s:Sl},ap1 _ (ZL eqC (zb ixT _ _) (cE _)) [.vl (mt t lo hi),p,q,r,s]= .ok _:=λ{p q r s}=>GK (by
  rw[ZT,XL,bOk,zZ,bOk,eqI,bOk,show ((hi:Int) == 3)=(hi == 3) from qb hi 3])
 have a1:=zX (i:=2) (qc (eq0 (p:=a) (q:= .vl (.int 1)) (r:=x)) (jT h1 v4' le1));have a1:zV 2 _ _= .nx [.vl _,a,.vl _,x,.vl _]:=a1;rw[zd a1];generalize iv _+n*iv _=m1;have a2:=zX (i:=2) (qc (v2 (t:= .int (m1)) (b:=a) (ρ:=[x,.vl _])) (jT h2 (jT h1 v4' v4') le2));rw[zd a2];generalize m1+n*n*iv _=m2;have a3:=zX (i:=2) (qc (v2 (t:= .int (m2)) (b:=a) (ρ:=[x,.vl _])) (jT h3 (jT h2 (jT h1 v4' v4') v4') eq3));exact a3
theorem qe {cs:List T->R T}{d:Nat}(hd:d+1<=3)(k:Kd)(lo hi:Nat)(h:(Kd.many k lo hi).Ok (d+1))(H:∀k:Kd,k.Ok d->cs [k.t]= .ok (.int (k.all.length:Int))):zy (b_h (f_6 8) cs (en0 5 [(Kd.many k lo hi).t]))= .ok (.int ((Kd.many k lo hi).all.length:Int)):=by
 obtain⟨h1,h2,h3⟩:=h;have hd0:1<=d:=by
  cases d with
  | zero=>exact h3.elim
  | succ d=>omega
 obtain⟨c3,c2,c1⟩:=Xc (j6 d k h3) hd hd0;rw[ZD,X8 _ h1 h2];simp only[Kd.t];have hk:=H k h3;generalize k.all.length=n at*;generalize k.t=t at*;have e:zy (b_h (f_6 8) cs (en0 5 [mt t lo hi]))=zy (b_h _ cs [.vl _,.un,.un,.un,.un]):=rfl;have e1:zL inC (zb ixT (vE 0) (cE (.int 0))) (Zt (z9 (cE (.str "whole")) (z9 (cE (.str "pick")) (zj)))) [.vl (mt t lo hi),.un,.un,.un,.un]= .ok false:=by
  rfl
 have e2:ifE (zL eqC (zb ixT (vE 0) (cE (.int 0))) (cE (.str "row"))) (Z6 (jc (zb ixT (vE 0) (cE (.int 1)))) (zP 0) (Zi) (za 1 cs (z9 (vE 0) (zj))) 1 []) (jb (zj)) [.vl (mt t lo hi),.un,.un,.un,.un]= .ok (.lst []):=by
  rfl
 have s1:([.vl (mt t lo hi),.un,.un,.un,.un]:En).set 1 (.vl (.lst []))=[.vl _,.vl _,.un,.un,.un]:=rfl;have s2:([.vl (mt t lo hi),.vl (.lst []),.un,.un,.un]:En).set 2 (.vl (.int 1))=[.vl _,.vl _,.vl _,.un,.un]:=rfl;have e3:jJ (jc (vE 1)) (zP 3) (zV 2 (zb Z4 (vE 2) (vE 3))) [.vl (mt t lo hi),.vl (.lst []),.vl (.int 1),.un,.un]= .nx _:=rfl;have e4:zL eqC (zb ixT (vE 0) (cE (.int 0))) (cE (.str "many")) [.vl (mt t lo hi),.vl (.lst []),.vl (.int 1),.un,.un]= .ok true:=by
  rfl
 have e5:za 1 cs (z9 (zb ixT (vE 0) (cE (.int 1))) (zj)) [.vl (mt t lo hi),.vl (.lst []),.vl (.int 1),.un,.un]= .ok (.int (n)):=by
  rw[zQ,Jh,bOk,hk]
 have s5:([.vl (mt t lo hi),.vl (.lst []),.vl (.int 1),.un,.un]:En).set 4 (.vl (.int (n)))=[.vl _,.vl _,.vl _,.un,.vl _]:=rfl;have e6:=qd (t:=t) (a:= .vl (.lst [])) (x:= .un) (lo:=lo) (hi:=hi) c3 c2 c1;rw[e,b_h,zd (zC e1),zd (zX e2),s1,zd (zX zZ),s2,zd e3];have e7:∀(P:En->RS),ifS _ (zA _ P) nxS _=P _:=λP=>by
  rw[JP e4,zd (zX e5),s5]
 rw[zd (Eq.trans (e7 _) e6)];rfl
theorem qf:∀(d n:Nat),d<=n->d<=3->∀k:Kd,k.Ok d->S_h n 0 [k.t]= .ok (.int (k.all.length:Int))
 | 0,_,_,_,_,h=>h.elim
 | d+1,0,hn,_,_,_=>by omega
 | d+1,n+1,hn,hd,k,h=>by
  have H:=λk' hk' =>qf d n (by omega) (by omega) k' hk'
  cases k with
  | whole lo hi=>exact WD _ (vc d lo hi h) (x:="whole") (r:=[.int lo,.int hi]) (by simp only[Kd.t]) rfl
  | pick cs=>exact WD _ (ve d cs h) (x:="pick") (r:=[.tup (cs.map wS)]) (by simp only[Kd.t]) rfl
  | row ks=>exact vf (by omega) ks h H
  | many k lo hi=>exact qe (by omega) k lo hi h H
theorem Ok.mono:∀(d:Nat) (k:Kd),k.Ok d->k.Ok (d+1)
 | 0,_,h=>h.elim
 | d+1,.whole _ _,h=>h
 | d+1,.pick _,h=>h
 | d+1,.row ks,h=>⟨h.1,h.2.1,λk hk=>Ok.mono d k (h.2.2 k hk)⟩
 | d+1,.many k _ _,h=>⟨h.1,h.2.1,Ok.mono d k h.2.2⟩
theorem Xd (j:Int):Z4 (.int 700) (.int j)= .ok (.int (700*j)):=YT _ _ (.inl ⟨by decide,by decide⟩)
theorem gC (ns:List Int)(d:Nat)(h1:1<=d)(h8:d<=8)(k:Int)(h0:0<=k):∃q:Kd,f_i 8 [scr ns,.int k,.int (d:Int)]= .ok q.t/\q.Ok d:=by
 obtain⟨t,ht,hi⟩:=ub ns d 8 h8 h1 k h0;obtain⟨q,rfl,hq⟩:=ud d t hi;exact⟨q,ht,hq⟩
abbrev smB:En->RS:=zA (ifS (zL leC (za 1 (f_h 8) (z9 (vE 3) (zj))) (vB 2)) (zF (vE 3)) (nxS))
  (zV 3 (za 3 (f_i 8) (z9 (vE 0) (z9 (zb zE (zb zE (vE 1) (cE (.int 500))) (zb Z4 (cE (.int 700)) (vE 4))) (z9 (cE (.int 2)) (zj))))))
abbrev en5 (ns:List Int)(a:Int)(m:Nat)(k:Kd)(x:Sl):En:=[.vl (scr ns),.vl (.int a),.vl (.int (m:Int)),.vl k.t,x]
theorem qg (hk:k.Ok 3):zL leC (za 1 (f_h 8) (z9 (vE 3) (zj))) (vB 2) (en5 ns a m k x)= .ok (decide (k.all.length<=m)):=by
 have e:f_h 8 _= .ok _:=qf 3 8 (by omega) (by omega) k hk
 rw[zU,zQ,v3,bOk,e,bOk,w2,bOk,wN,wk]
theorem Xe (ns:List Int)(ha:0<=a)(hk:k.Ok 3)(j:Nat):(k.all.length<=m/\smB (en5 ns a m k (.vl (.int (0+(j:Int)))))= .rt k.t)\/∃k' :Kd,k'.Ok 3/\smB (en5 ns a m k (.vl (.int (0+(j:Int)))))= .nx (en5 ns a m k' (.vl (.int (0+(j:Int))))):=by
 by_cases h:k.all.length<=m
 ·refine .inl ⟨h, ?_⟩;refine zI ?_;rw[JP (by rw[qg hk,decide_eq_true h])]
  exact zz rfl
 ·obtain⟨q,hq,ho⟩:=gC ns 2 (by omega) (by omega) (a+500+700*(0+(j))) (by omega)
  refine .inr ⟨q,Ok.mono 2 q ho, ?_⟩;unfold smB;rw[zd (zC (by rw[qg hk,decide_eq_false h]))]
  have hq:f_i 8 [scr ns,.int _,.int 2]= .ok q.t:=hq;have e:za 3 (f_i 8) (z9 (vE 0) (z9 (zb zE (zb zE (vE 1) (cE (.int 500))) (zb Z4 (cE (.int 700)) (vE 4))) (z9 (cE (.int 2)) (zj)))) (en5 ns a m k (.vl (.int (0+(j)))))= .ok q.t:=by
   rw[Zj,v0,bOk,zv,zv,v1,bOk,zZ,bOk,Z3,bOk,zv,zZ,bOk,v4,bOk,Xd,bOk,Z3,bOk,zZ,bOk,hq]
  rw[zX e];rfl
theorem gD {g:T->En->R En}(hg:g t ρ= .ok ρ1)(hb:fb ρ1= .rt r):Zn g fb (t :: ts) ρ= .rt r:=by
 rw[Zn,hg];dsimp only;rw[hb]
theorem qh (ns:List Int)(ha:0<=a):∀(js:List Nat) (k:Kd) (x:Sl),k.Ok 3->(∃k' :Kd,k'.Ok 3/\k'.all.length<=m/\Zn (zP 4) smB (js.map λ(j:Nat)=>T.int (0+(j:Int))) (en5 ns a m k x)= .rt k'.t)\/
  ∃(k' :Kd) (x' :Sl),k'.Ok 3/\Zn (zP 4) smB (js.map λ(j:Nat)=>T.int (0+(j:Int))) (en5 ns a m k x)= .nx (en5 ns a m k' x')
 | [],k,x,hk=> .inr ⟨k,x,hk,rfl⟩
 | j :: js,k,x,hk=>by
  have s3:zP 4 (T.int (0+(j))) (en5 ns a m k x)= .ok _:=rfl;rw[aI];rcases Xe ns ha hk j with ⟨h1,h2⟩ | ⟨k',h1,h2⟩
  ·exact .inl ⟨k,hk,h1,gD s3 h2⟩
  ·rw[JD s3 h2];exact qh ns ha js k' _ h1
theorem vg (ns:List Int)(a:Int)(ha:0<=a)(m:Nat)(hm:4<=m):∃k:Kd,k.Ok 3/\k.all.length<=m/\KS [scr ns,.int a,.int (m:Int)]= .ok k.t:=by
 obtain⟨q,hq,ho⟩:=gC ns 3 (by omega) (by omega) a ha
 have hq:f_i 8 [scr ns,.int a,.int 3]= .ok q.t:=hq;have e:KS [scr ns,.int a,.int (m)]=zy (Gq _ _ [.vl _,.vl _,.vl _,.un,.un]):=rfl;have e1:za 3 (f_i 8) (z9 (vE 0) (z9 (vE 1) (z9 (cE (.int 3)) (zj)))) [.vl (scr ns),.vl (.int a),.vl (.int (m)),.un,.un]= .ok q.t:=by
  rw[Zj,v0,bOk,v1,bOk,zZ,bOk,hq]
 have s1:([.vl _,.vl _,.vl _,.un,.un]:En).set 3 _=en5 ns a m q .un:=rfl;rw[e,Gq,zd (zX e1),s1];rcases qh ns ha _ q .un ho with ⟨k,h1,h2,h3⟩ | ⟨k,x,h1,h3⟩
 ·refine⟨k,h1,h2, ?_⟩;have e2:jJ (ZN (cE (.int 3))) (zP 4) smB _= .rt k.t:=h3;rw[zI e2];rfl
 ·have e2:jJ (ZN (cE (.int 3))) (zP 4) smB _= .nx _:=h3;rw[zd e2];have ec:zL leC _ _ (frz (en5 ns a m k x))= .ok _:=qg h1
  by_cases h:k.all.length<=m
  ·refine⟨k,h1,h, ?_⟩;rw[zz]
   ·rfl
   ·unfold ifE;rw[ec,decide_eq_true h];rfl
  ·refine⟨.whole (-1) 2,⟨by omega,by omega,by omega⟩,by exact hm, ?_⟩
   rw[zz]
   ·rfl
   ·unfold ifE;rw[ec,bOk,decide_eq_false h,if_neg aH];rfl
mutual
noncomputable def Kd.has:Kd->T->Bool
 | .whole lo hi=>λt=>inR lo hi t
 | .pick cs=>λt=>match t with | .str x=>cs.any λc=>c.1 == x | _=>false
 | .row ks=>λt=>match t with | .tup xs=>xs.length == ks.length && Kd.hass ks xs | _=>false
 | .many k lo hi=>λt=>match t with | .tup xs=>decide (lo<=xs.length) && decide (xs.length<=hi) && xs.all k.has | _=>false
noncomputable def Kd.hass:List Kd->List T->Bool
 | []=>λ_=>true
 | k :: ks=>λxs=>match xs with | []=>true | x :: xs=>k.has x && Kd.hass ks xs
end
theorem U3:∀(ks:List Kd) (xs:List T),Kd.hass ks xs=(ks.zip xs).all λq=>q.1.has q.2
 | [],_=>by simp[Kd.hass]
 | k :: ks,[]=>by simp[Kd.hass]
 | k :: ks,x :: xs=>by simp[Kd.hass,U3 ks xs]
noncomputable def UX:List (List T)->List T->Prop
 | [],[]=>True
 | l :: ls,x :: xs=>x∈l/\UX ls xs
 | _,_=>False
theorem JE:∀(ls made:List (List T)) (xs:List T),xs∈Z8 made ls↔∃a∈made,∃b,UX ls b/\xs=a++b
 | [],made,xs=>by
  rw[Z8];constructor
  ·exact λh=>⟨xs,h,[],trivial,by simp⟩
  ·rintro⟨a,ha,b,hb,rfl⟩
   cases b with
   | nil=>simpa using ha
   | cons=>exact hb.elim
 | l :: ls,made,xs=>by
  rw[Z8,JE ls];constructor
  ·rintro⟨a',ha',b,hb,rfl⟩
   obtain⟨a,ha,hx⟩:=ce.mp ha';obtain⟨x,hl,e⟩:=aN.mp hx;exact⟨a,ha,x :: b,⟨hl,hb⟩,by rw[← e];simp⟩
  ·rintro⟨a,ha,b,hb,rfl⟩
   cases b with
   | nil=>exact hb.elim
   | cons x b=>exact⟨a++[x],ce.mpr ⟨a,ha,aN.mpr ⟨x,hb.1,rfl⟩⟩,b,hb.2,by simp⟩
theorem wV (ls:List (List T))(t:T):t∈yi ls↔∃xs,UX ls xs/\t= .tup xs:=by
 rw[aN];constructor
 ·rintro⟨xs,h,rfl⟩
  obtain⟨a,ha,b,hb,rfl⟩:=(JE ls _ xs).mp h;rw[aT.mp ha];exact⟨b,hb,rfl⟩
 ·rintro⟨xs,h,rfl⟩
  exact⟨xs,(JE ls _ xs).mpr ⟨[],aT.mpr rfl,xs,h,rfl⟩,rfl⟩
theorem wW (l:List T):∀(m:Nat) (xs:List T),UX (af m l) xs↔xs.length=m/\∀x∈xs,x∈l
 | 0,[]=>by simp[UX]
 | 0,x :: xs=>by simp[UX]
 | m+1,[]=>by simp[UX,bE]
 | m+1,x :: xs=>by
  show x∈l/\UX _ xs↔_;rw[wW l m xs];simp;constructor
  ·rintro⟨a,b,c⟩;exact⟨b,a,c⟩
  ·rintro⟨a,b,c⟩;exact⟨b,a,c⟩
theorem WF:∀(ks:List Kd),(∀k∈ks,∀x,x∈k.all↔k.has x=true)->∀xs,UX (ks.map Kd.all) xs↔(xs.length == ks.length && Kd.hass ks xs)=true
 | [],_,[]=>by simp[UX,Kd.hass]
 | [],_,x :: xs=>by simp[UX]
 | k :: ks,h,[]=>by simp[UX]
 | k :: ks,h,x :: xs=>by
  show x∈k.all/\UX _ xs↔_;rw[WF ks (λk' hk' =>h k' (a8 _ hk')) xs,h k ab x];simp[Kd.hass];constructor
  ·rintro⟨a,b,c⟩;exact⟨b,a,c⟩
  ·rintro⟨a,b,c⟩;exact⟨b,a,c⟩
mutual
theorem JF:∀(k:Kd) (x:T),x∈k.all↔k.has x=true
 | .whole lo hi,x=>by
  rw[Kd.all,Kd.has,aN];constructor
  ·rintro⟨i,hi',rfl⟩
   rw[bo]at hi';simp[inR];omega
  ·intro h;obtain⟨i,rfl⟩:=X5 h;simp[inR]at h;exact⟨(i - lo).toNat,by rw[bo];omega,by congr 1;omega⟩
 | .pick cs,x=>by
  rw[Kd.all,Kd.has,aN];constructor
  ·rintro⟨c,hc,rfl⟩
   simp only[g7];exact⟨c,hc,by simp⟩
  ·intro h;dsimp only at h;split at h
   ·rw[g7]at h;obtain⟨c,hc,e⟩:=h;exact⟨c,hc,by rw[eq_of_beq e]⟩
   ·cases h
 | .row ks,x=>by
  rw[Kd.all,Kd.has,wV,Kd.alls_map];have:=WF ks (U4 ks);constructor
  ·rintro⟨xs,h,rfl⟩
   exact(this xs).mp h
  ·intro h;dsimp only at h;split at h
   ·rename_i xs;exact⟨xs,(this xs).mpr h,rfl⟩
   ·cases h
 | .many k lo hi,x=>by
  rw[Kd.all,Kd.has,ce];constructor
  ·rintro⟨i,hi',h⟩
   rw[wV]at h;obtain⟨xs,h,rfl⟩:=h;rw[wW]at h;rw[bo]at hi';simp only[ac,decide_eq_true_eq,aQ];exact⟨⟨by omega,by omega⟩,λy hy=>(JF k y).mp (h.2 y hy)⟩
  ·intro h;dsimp only at h;split at h
   ·rename_i xs;simp only[ac,decide_eq_true_eq,aQ]at h;refine⟨xs.length - lo,by rw[bo];omega, ?_⟩
    rw[wV];exact⟨xs,(wW _ _ _).mpr ⟨by omega,λy hy=>(JF k y).mpr (h.2 y hy)⟩,rfl⟩
   ·cases h
theorem U4:∀(ks:List Kd),∀k∈ks,∀x,x∈k.all↔k.has x=true
 | [],_,h=>nomatch h
 | k :: ks,k',h=>by
  rcases ah.mp h with e | h
  ·intro x;rw[e];exact JF k x
  ·exact U4 ks k' h
end
theorem wl:∀(qs:List (Kd×T)) (x y:Sl),(∀q∈qs,c [q.1.t,q.2]= .ok (.bl (q.1.has q.2)))->zG (Ze 0 1) Zi (za 2 c (z9 (vE 0) (z9 (vE 1) (zj)))) (qs.map λq=>T.tup [q.1.t,q.2]) [x,y]= .ok (qs.map λq=>T.bl (q.1.has q.2))
 | [],_,_,_=>rfl
 | q :: qs,x,y,h=>by
  have e:za 2 c (z9 (vE 0) (z9 (vE 1) (zj))) [.vl q.1.t,.vl q.2]= .ok (.bl (q.1.has q.2)):=by
   rw[zS,v0,bOk,v1,bOk,h q ab]
  have ih:=wl qs (.vl q.1.t) (.vl q.2) λr hr=>h r (a8 _ hr);have e0:zG (Ze 0 1) Zi (za 2 c (z9 (vE 0) (z9 (vE 1) (zj)))) ((q :: qs).map λq=>T.tup [q.1.t,q.2]) [x,y]=
   (za 2 c _ [.vl _,.vl q.2]).bind λv=>(zG _ _ _ (qs.map λq=>T.tup _) [.vl _,.vl q.2]).bind λvs=> .ok _:=rfl
  rw[e0,e,bOk,ih,bOk,aI]
theorem wX {α:Type}(p:α->Bool):∀qs:List α,Wl (qs.map λq=>T.bl (p q))=some (qs.all p)
 | []=>rfl
 | q :: qs=>by
  have e:Wl ((q :: qs).map λq=>T.bl (p q))=match Wl (qs.map λq=>T.bl _) with | some j=>some _ | none=>none:=rfl
  rw[e,wX p qs];rfl
theorem gE (ks:List Kd)(xs:List T):Y9 (ks.map Kd.t) xs=(ks.zip xs).map λq=>T.tup [q.1.t,q.2]:=by
 unfold Y9;rw[List.zip_map_left,bb];rfl
theorem U5 (ks:List Kd)(xs:List T)(hs:jR s= .ok (ks.map Kd.t))(hl:ks.length<=3)(H:∀q∈ks.zip xs,c [q.1.t,q.2]= .ok (.bl (q.1.has q.2))):
  zy (GB c (en0 2 [s,.tup xs]))= .ok (.bl ((ks.zip xs).all λq=>q.1.has q.2)):=by
 have ez:xt (vE 0) (vE 1) [.vl s,.vl (.tup xs)]= .ok ((ks.zip xs).map λq=>T.tup [q.1.t,q.2]):=by
  show (jR s).bind _=_;rw[hs,← gE];rfl
 have hb:((ks.zip xs).map λq=>T.tup [q.1.t,q.2]).length<=bnd:=by
  rw[ae,ib];exact aC (Nat.min_le_left _ _) (aC hl (by decide))
 have ec:zD (Ze 0 1) Zi (za 2 c (z9 (vE 0) (z9 (vE 1) (zj)))) 2 [] [.vl s,.vl (.tup xs)] ((ks.zip xs).map λq=>T.tup [q.1.t,q.2])= .ok ((ks.zip xs).map λq=>T.bl (q.1.has q.2)):=by
  unfold zD;rw[if_pos hb];show quiet (zG _ _ _ _ [.un,.un])=_;rw[wl _ _ _ H];rfl
 rw[GB,zz]
 ·rfl
 ·show ap1 _ _ [.vl s,.vl _]=_;rw[ZO,Zb,ez,bOk,ec,bOk];show (match Wl ((ks.zip xs).map λq=>T.bl _) with | some k=>_ | none=>_)=_
  rw[wX]
theorem wY (cs:List (Str×Int))(h:cs.length<=4):f_g [(Kd.pick cs).t]= .ok (.lst (cs.map λc=>T.str c.1)):=by
 have e:f_g [(Kd.pick cs).t]=zy (b_g [.vl (.tup [.str "pick",.tup (cs.map wS)])]):=by rfl
 have hb:(cs.map wS).length<=bnd:=by rw[ae];exact aC h (by decide)
 have ec:zD _ _ (zb ixT (vE 0) (cE (.int 0))) 1 [] [.vl (.tup [.str "pick",.tup (cs.map wS)])] _= .ok ((cs.map wS).map λc=>match c with | .tup (w :: _)=>w | _=>c):=
  Z2 _ hb λt ht=>by
   obtain⟨c,_,rfl⟩:=aN.mp ht;rfl
 rw[e,b_g,zz]
 ·rfl
 ·show Z6 _ _ _ _ _ _ [.vl _]=_;show ((zD _ _ _ _ _ _ _).bind _)=_;rw[ec,bb];rfl
theorem U6 (t:T):∀cs:List (Str×Int),JJ (λy=>eqF 30 y t) (cs.map λc=>T.str c.1)=some ((Kd.pick cs).has t)
 | []=>by cases t <;> rfl
 | c :: cs=>by
  have ih:=U6 t cs;have e:JJ (λy=>eqF 30 y t) ((c :: cs).map λc=>T.str c.1)=match eqF 30 _ t with
   | none=>none
   | some b=>match JJ (λy=>eqF 30 y t) (cs.map λc=>T.str c.1) with
    | none=>none
    | some d=>some _:=rfl
  rw[e,ih];cases t <;> rfl
abbrev en2 (a b:T):En:=[.vl a,.vl b]
theorem yj (h:(x == w)=false):ifS (zL eqC (zb ixT (vE 0) (cE (.int 0))) (cE (.str w))) f nxS (en2 (.tup (.str x :: r)) b)= .nx (en2 (.tup (.str x :: r)) b):=
 zC (by rw[cs0,h])
theorem gF:ifS (zL eqC (zb ixT (vE 0) (cE (.int 0))) (cE (.str x))) f nxS (en2 (.tup (.str x :: r)) b)=f (en2 (.tup (.str x :: r)) b):=
 JP (by rw[cs0,beq_self_eq_true])
theorem qi (lo hi:Int)(x:T):zy (b_8 f_9 f_a f_g cp (en0 2 [(Kd.whole lo hi).t,x]))= .ok (.bl ((Kd.whole lo hi).has x)):=by
 have e:en0 2 [(Kd.whole lo hi).t,x]=en2 (.tup [.str "whole",.int lo,.int hi]) x:=by rfl
 rw[e,b_8,zI]
 ·rfl
 ·rw[gF,zz];show ZM _ _ (en2 _ x)=_;rw[jF,zQ,v1,bOk,wL];cases x with
  | int i=>
   rw[YL,Jh,bOk,w1,bOk,wN,bOk,ue,bOk,wN];show _=R.ok (T.bl (decide _ && decide _));cases decide (lo<=i) <;> rfl
  | _=>rfl
theorem vh (cs:List (Str×Int))(h4:cs.length<=4)(x:T):zy (b_8 f_9 f_a f_g cp (en0 2 [(Kd.pick cs).t,x]))= .ok (.bl ((Kd.pick cs).has x)):=by
 have e:en0 2 [(Kd.pick cs).t,x]=en2 (.tup [.str "pick",.tup (cs.map wS)]) x:=by rfl
 have hw:=wY cs h4;rw[Kd.t]at hw;rw[e,b_8,zd (yj (by decide)),zI]
 ·rfl
 ·rw[gF,zz];show ZL _ _ _ (en2 _ x)=_;rw[ZT,w1,bOk,zQ,v0,bOk,hw];show ((match JJ (λy=>eqF 30 y x) (cs.map λ(c:Str×Int)=>T.str c.1) with | some b=>R.ok b | none=> .bad).bind _)=_
  rw[U6];rfl
theorem Xf (ks:List Kd)(h3:ks.length<=3)(x:T)(H:∀xs,x= .tup xs->cp [.tup (ks.map Kd.t),x]= .ok (.bl ((ks.zip xs).all λq=>q.1.has q.2))):zy (b_8 f_9 f_a f_g cp (en0 2 [(Kd.row ks).t,x]))= .ok (.bl ((Kd.row ks).has x)):=by
 have e:en0 2 [(Kd.row ks).t,x]=en2 (.tup [.str "row",.tup (ks.map Kd.t)]) x:=by rw[Kd.t,Kd.ts_map];rfl
 rw[e,b_8,zd (yj (by decide)),zd (yj (by decide)),zI]
 ·rfl
 ·rw[gF,zz];show ZM _ _ (en2 _ x)=_;have el:ap1 Zw (zb ixT (vE 0) (cE (.int 1))) (en2 (.tup [.str "row",.tup (ks.map Kd.t)]) x)= .ok (.int (ks.length)):=by
   rw[ZO,Jh,bOk,wO,ae]
  rw[jF,Zj,v1,bOk,el,bOk,bOk,ZA,Zu,zS,Jh,bOk,v1,bOk];cases x with
  | tup xs=>
   rw[H xs rfl];show (if (decide _ && decide _)=true then _ else _)=R.ok (T.bl (xs.length == ks.length && Kd.hass ks xs))
   rw[U3]
   by_cases h:xs.length=ks.length
   ·simp[h]
   ·rw[if_neg (by simp;omega)]
    simp[h]
  | _=>rfl
theorem qj (k:Kd):∀xs:List T,((af xs.length k).zip xs).all (λq=>q.1.has q.2)=xs.all k.has
 | []=>rfl
 | x :: xs=>by
  rw[ar,bE,List.zip_cons_cons,cu,cu,qj k xs]
theorem vi (k:Kd)(lo hi:Nat)(h3:hi<=3)(x:T)(H:∀xs,x= .tup xs->xs.length<=3->cp [.lst ((af xs.length k).map Kd.t),x]= .ok (.bl (((af xs.length k).zip xs).all λq=>q.1.has q.2))):zy (b_8 f_9 f_a f_g cp (en0 2 [(Kd.many k lo hi).t,x]))= .ok (.bl ((Kd.many k lo hi).has x)):=by
 have e:en0 2 [(Kd.many k lo hi).t,x]=en2 (.tup [.str "many",k.t,.int (lo),.int (hi)]) x:=by rfl
 rw[e,b_8,zd (yj (by decide)),zd (yj (by decide)),zd (yj (by decide)),zz]
 ·rfl
 ·show ZM _ _ (en2 _ x)=_;rw[jF,Zj,v1,bOk,ue,bOk,XL,bOk,ZA,Zu];cases x with
  | tup xs=>
   show (if (decide _ && decide _)=true then _ else _)=R.ok (T.bl (decide _ && decide _ && xs.all _))
   cases hh:(decide (lo<=xs.length) && decide (xs.length<=hi)) with
   | false=>rfl
   | true=>
    rw[ac,decide_eq_true_eq,decide_eq_true_eq]at hh;have hx:xs.length<=3:=by omega
    have em:zb Z4 (jb (z9 (zb ixT (vE 0) (cE (.int 1))) (zj))) (ap1 Zw (vB 1)) (en2 (.tup [.str "many",k.t,.int (lo),.int (hi)]) (.tup xs))= .ok (.lst ((af xs.length k).map Kd.t)):=by
     rw[zv,XM Jh,bOk,ZO,w1,bOk,wO,bOk,WB hx,jf,aP]
    rw[zS,em,bOk,v1,bOk,H xs rfl hx,qj];rfl
  | _=>rfl
theorem Vc:∀(d n:Nat),2*d<=n->∀(k:Kd) (x:T),k.Ok d->S_8 n 0 [k.t,x]= .ok (.bl (k.has x))
 | 0,_,_,_,_,h=>h.elim
 | d+1,n+2,hn,k,x,h=>by
  have ih:=Vc d n (by omega)
  have e:S_8 (n+2) 0 [k.t,x]=zy (b_8 f_9 f_a f_g (S_8 (n+1) 1) (en0 2 [k.t,x])):=by rw[S_8]
  have e1:∀s y,S_8 (n+1) 1 [s,y]=zy _:=λs y=>by rw[S_8];intro h;cases h
  cases k with
  | whole lo hi=>exact qi lo hi x
  | pick cs=>exact vh cs h.2.1 x
  | row ks=>
   refine Xf ks h.2.1 x λxs hx=> ?_;rw[e1,hx,U5 ks xs rfl h.2.1 λq hq=>ih q.1 q.2 (h.2.2 q.1 (cV hq).1)]
  | many k lo hi=>
   refine vi k lo hi h.2.1 x λxs hx h3=> ?_;rw[e1,hx,U5 _ xs rfl (by rw[aJ];exact h3) λq hq=>ih q.1 q.2 (by
    rw[bz (cV hq).1];exact h.2.2)]
theorem qk:∀(d:Nat) (k:Kd),k.Ok d->isK d k.t=true
 | 0,_,h=>h.elim
 | d+1,.whole lo hi,h=>by
  have e:isK (d+1) (Kd.whole lo hi).t=(decide (-20<=lo) && decide (lo<=hi) && decide (hi<=20)):=by rfl
  obtain⟨h1,h2,h3⟩:=h;rw[e];simp;omega
 | d+1,.pick cs,h=>by
  have e:isK (d+1) (Kd.pick cs).t=(decide (1<=(cs.map wS).length) && decide ((cs.map wS).length<=4) && (cs.map wS).all Z0 && decide ((dd [] ((cs.map wS).map ZP)).length=(cs.map wS).length)):=by rfl
  obtain⟨h1,h2,h3,h4⟩:=h;have e1:(cs.map wS).map ZP=cs.map (·.1):=by rw[bb];rfl
  have e2:=(wQ _ []).mpr λk w hw=>by simpa using h4 k w hw
  rw[e,e1,e2,ae];simp only[ac,decide_eq_true_eq,aQ];refine⟨⟨⟨h1,h2⟩,λc hc=> ?_⟩,by simp⟩
  obtain⟨p,hp,rfl⟩:=aN.mp hc;obtain⟨a,b,c⟩:=h3 p hp;show (Zr _ && decide _ && decide _)=true;rw[a];simp;omega
 | d+1,.row ks,h=>by
  have e:isK (d+1) (Kd.row ks).t=(decide (1<=(ks.map Kd.t).length) && decide ((ks.map Kd.t).length<=3) && (ks.map Kd.t).all (isK d)):=by rw[Kd.t,Kd.ts_map];rfl
  obtain⟨h1,h2,h3⟩:=h;rw[e,ae];simp only[ac,decide_eq_true_eq,aQ];refine⟨⟨h1,h2⟩,λc hc=> ?_⟩;obtain⟨k,hk,rfl⟩:=aN.mp hc;exact qk d k (h3 k hk)
 | d+1,.many k lo hi,h=>by
  have e:isK (d+1) (Kd.many k lo hi).t=((decide ((0:Int)<=(lo:Int)) && decide ((lo:Int)<=(hi)) && decide ((hi:Int)<=3)) && isK d k.t):=by rfl
  obtain⟨h1,h2,h3⟩:=h;rw[e,qk d k h3];simp;omega
theorem U7:∀(ks:List Kd) (xs:List T),xs.length=ks.length->Kd.hass ks xs=true->∀x∈xs,∃k∈ks,k.has x=true
 | [],[],_,_,_,h=>nomatch h
 | k :: ks,[],h,_,_,_=>by cases h
 | [],x :: xs,h,_,_,_=>by cases h
 | k :: ks,x :: xs,hl,h,y,hy=>by
  rw[Kd.hass]at h;rw[ac]at h;rcases ah.mp hy with rfl | hy
  ·exact⟨k,ab,h.1⟩
  ·obtain⟨k',hk,hh⟩:=U7 ks xs (by simpa using hl) h.2 y hy
   exact⟨k',a8 _ hk,hh⟩
theorem U8 {α β:Type}(f:α->List β)(m:Nat):∀(as:List α) (i j:Nat),(∀a∈as,(f a).length=m)->j < m->(as.flatMap f)[i*m+j]? =(as[i]?).bind λa=>(f a)[j]?
 | [],i,j,_,_=>by simp
 | a :: as,0,j,h,hj=>by
  have ha:=h a ab;rw[bK,Nat.zero_mul,eL,aB (by omega)]
  rfl
 | a :: as,i+1,j,h,hj=>by
  have ha:=h a ab;have e:(i+1)*m=i*m+m:=by rw[hW,bV]
  rw[bK,au (by omega),ha,e,show i*m+m+j - m=i*m+j by omega,U8 f m as i j (λb hb=>h b (a8 _ hb)) hj]
  rfl
theorem WG {α β:Type}(f:α->List β):∀(as:List α) (q j:Nat) (a:α),as[q]? =some a->j < (f a).length->(as.flatMap f)[((as.take q).map λb=>(f b).length).sum+j]? =(f a)[j]?
 | [],q,j,a,h,_=>by simp at h
 | b :: as,0,j,a,h,hj=>by
  have e:=by simpa using h
  subst e;rw[bK,List.take_zero,cI,List.sum_nil,eL,aB hj]
 | b :: as,q+1,j,a,h,hj=>by
  rw[bK,List.take_succ_cons,aI,dP,Nat.add_assoc,au (by omega),d_]
  exact WG f as q j a (by simpa using h) hj
theorem wm:∀(ls made:List (List T)) (l:List T),Z8 made (ls++[l])=(Z8 made ls).flatMap λa=>l.map λx=>a++[x]
 | [],made,l=>rfl
 | _ :: ls,made,l=>by
  rw[cJ,Z8,Z8,wm ls]
theorem U9 {ls:List (List T)}(h:(Z8 [[]] ls)[i]? =some xs)(hx:l[j]? =some x):(Z8 [[]] (ls++[l]))[i*l.length+j]? =some (xs++[x]):=by
 have hj:=(am.mp hx).1;rw[wm,U8 _ _ _ i j (λa _=>ae ..) hj,h];show (l.map λx=>xs++[x])[j]? =_;rw[ak,hx];rfl
theorem wZ:∀(ns:List Nat) (n:Nat),prd (ns++[n])=prd ns*n
 | [],n=>by simp[prd]
 | m :: ns,n=>by rw[cJ,prd,prd,wZ ns n,cx]
theorem ZQ (ls:List (List T)):(Z8 [[]] ls).length=prd (ls.map (·.length)):=by rw[JC,aK,bV]
theorem j7 {α:Type}{xs:List α}(h:i < xs.length):∃x,xs[i]? =some x:=⟨_,aj h⟩
theorem gG {xs:List T}{j:Nat}{v:T}(h:xs[j]? =some v):atT xs (j:Int)= .ok v:=by unfold atT;rw[ZY h]
noncomputable def shr (c lo q:Nat):Nat:=((a_ q).map λi=>c ^ (lo+i)).sum
theorem Ua (c lo q:Nat):shr c lo (q+1)=shr c lo q+c ^ (lo+q):=by
 unfold shr;rw[ia,bA];simp
theorem Vd (c lo hi:Nat):pw c lo hi=shr c lo (hi+1 - lo):=rfl
theorem qm (hq:q < hi+1 - lo)(h:(Z8 [[]] (af (lo+q) k.all))[j]? =some xs):(Kd.many k lo hi).all[shr k.all.length lo q+j]? =some (.tup xs):=by
 have hj:=(am.mp h).1;have e:=WG (λi=>yi (af _ _)) _ q j q (by rw[bN hq]) (by rw[ae];exact hj)
 have e2:(((a_ (hi+1 - lo)).take q).map λb=>(yi (af (lo+b) k.all)).length).sum=shr k.all.length lo q:=by
  rw[List.take_range,ie (eB hq),shr];congr 1
  refine bX λi _=> ?_;rw[Jg,aP,ZU]
 rw[e2]at e;rw[Kd.all,e];rw[ak,h];rfl
abbrev cpB (c:List T->R T):En->RS:=zV 1 (zb Z4 (vE 1) (za 1 c (z9 (vE 2) (zj))))
theorem qo:∀(ks:List Kd) (m:Nat) (x:Sl),(∀k∈ks,c [k.t]= .ok (.int (k.all.length:Int))/\1<=k.all.length)->m*prd (ks.map λk=>k.all.length) < 2 ^ 60->
  ∃y,Zn (zP 2) (cpB c) (ks.map Kd.t) [S,.vl (.int (m:Int)),x]= .nx [S,.vl (.int ((m*prd (ks.map λk=>k.all.length):Nat):Int)),y]
 | [],m,x,_,_=>⟨x,by simp[Zn,prd]⟩
 | k :: ks,m,x,H,hb=>by
  obtain⟨hc,h1⟩:=H k ab;have hp:=JB λn hn=>by
   obtain⟨k',hk',rfl⟩:=aN.mp hn;exact(H k' (a8 _ hk')).2
  rw[aI,prd,← cx]at hb;have hm:m < 2 ^ 60:=by
   have h2:m<=m*k.all.length:=cb _ h1;have h3:m*k.all.length<=m*k.all.length*prd (ks.map λk=>k.all.length):=cb _ hp;omega
  have eb:cpB c [S,.vl (.int (m)),.vl k.t]= .nx [S,.vl (.int ((m*k.all.length:Nat))),.vl k.t]:=by
   rw[cpB,zX]
   ·rfl
   ·rw[zv,v1,bOk,zQ,v2,bOk,hc,bOk,U1 hm]
  obtain⟨y,ih⟩:=qo (S:=S) ks _ _ (λk' hk' =>H k' (a8 _ hk')) hb;refine⟨y, ?_⟩;rw[aI,JD rfl eb,ih,aI,prd,cx]
theorem JG (ks:List Kd)(hs:jZ s= .ok (ks.map Kd.t))(H:∀k∈ks,c [k.t]= .ok (.int (k.all.length:Int))/\1<=k.all.length)(hb:prd (ks.map λk=>k.all.length) < 2 ^ 60):
  zy (b_u c (en0 3 [s]))= .ok (.int ((prd (ks.map λk=>k.all.length):Nat):Int)):=by
 obtain⟨y,e⟩:=qo ks 1 .un H (by rw[bV];exact hb)
 rw[bV]at e;have e0:zV 1 (cE (.int 1)) [.vl s,.un,.un]= .nx [.vl s,.vl _,.un]:=rfl;have e1:jJ (jc (vE 0)) (zP 2) (cpB c) [.vl s,.vl (.int 1),.un]= .nx [.vl s,.vl (.int ((prd (ks.map λk=>k.all.length)):Int)),y]:=by
  show ((jZ s).s λts=>Zn _ _ ts _)=_;rw[hs];exact e
 show zy (b_u c [.vl s,.un,.un])=_;rw[b_u,zd e0,zd e1];rfl
theorem qp {α:Type}(g:α->Nat):∀l:List α,Zq (l.map λa=>T.int ((g a:Nat):Int))=some (l.map λa=>((g a:Nat):Int))
 | []=>rfl
 | a :: l=>by
  show (match Zq (l.map λa=>T.int _) with | some l=>some _ | none=>none)=_
  rw[qp g l];rfl
theorem Ub {α:Type}(g:α->Nat):∀l:List α,(l.map λa=>((g a:Nat):Int)).sum=(((l.map g).sum:Nat):Int)
 | []=>rfl
 | a :: l=>by rw[aI,dP,aI,dP,Ub g l];omega
theorem gH {α:Type}(g:α->Nat)(l:List α):xw (.lst (l.map λa=>T.int ((g a:Nat):Int)))= .ok (.int (((l.map g).sum:Nat):Int)):=by
 unfold xw;dsimp only;rw[qp,← Ub]
theorem jN (k:Kd)(m:Nat):((af m k).map λk=>k.all.length)=af m k.all.length:=by rw[aP]
theorem qq (h4:lo+q<=4)(H:∀m,m<=3->c [.lst (af m t)]= .ok (.int ((n ^ m:Nat):Int))):
  zy (b_j c (en0 2 [mt t lo hi,.int ((lo+q:Nat):Int)]))= .ok (.int ((shr n lo q:Nat):Int)):=by
 have er:jh (zb ixT (vE 0) (cE (.int 2))) (vE 1) [.vl (mt t lo hi),.vl (.int ((lo+q:Nat)))]= .ok (rng (lo) q):=by
  rw[wU rfl rfl ⟨by omega,by omega,by omega,by omega⟩]
  congr 2;omega
 have ec:zD _ _ (za 1 c (z9 (zb _ _ _) _)) 1 [0] [.vl _,.vl (.int ((lo+q:Nat)))] _= .ok ((rng (lo) q).map λx=>match x with | .int i=>T.int ((n ^ i.toNat:Nat)) | y=>y):=
  Z2 _ (by unfold rng;rw[ae,bx];have:bnd=16777216:=rfl;omega) λx hx=>by
   obtain⟨i,hi',rfl⟩:=aN.mp hx;have hi2:=bo.mp hi';show za 1 c _ [.vl _,.vl _]=_;have e1:zb Z4 (jb (z9 (zb ixT (vE 1) (cE (.int 1))) (zj))) (vE 0) [.vl (.int ((lo)+(i))),.vl (mt t lo hi)]= .ok (.lst (af (lo+i) t)):=by
    have e0:zb ixT (vE 1) (cE (.int 1)) [.vl (.int ((lo)+(i))),.vl (mt t lo hi)]= .ok t:=rfl;rw[zv,XM e0,bOk,v0,bOk,show (lo:Int)+(i)=((lo+i:Nat)) by omega,WB (by omega),jf]
   rw[zQ,e1,bOk,H _ (by omega)]
   show _=R.ok (T.int _);rw[show ((lo:Int)+(i)).toNat=lo+i by omega]
 rw[b_j,zz]
 ·rfl
 ·show ap1 _ _ [.vl _,.vl _]=_;rw[ZO,Zb,er,bOk,ec,bOk,bOk];have e2:((rng (lo) q).map λx=>match x with | .int i=>T.int ((n ^ i.toNat:Nat)) | y=>y)=(a_ q).map λi=>T.int ((n ^ (lo+i):Nat)):=by
   unfold rng;rw[bb];refine bX λi _=> ?_;show T.int _=_;rw[show ((lo:Int)+(i)).toNat=lo+i by omega]
  rw[e2,gH (λi=>n ^ (lo+i))];rfl
theorem Ve (h:n<=mx d)(hd:d<=2)(hm:m<=3):n ^ m < 2 ^ 60:=by
 have h2:mx d<=70644:=by
  have:d=0\/d=1\/d=2:=by omega
  rcases this with rfl | rfl | rfl <;> decide
 have h3:=aC (Nat.pow_le_pow_left (aC h h2) m) (dg (by omega) hm)
 omega
theorem Uc:∀(d n:Nat),3*d<=n->d<=3->∀k:Kd,k.Ok d->S_1 n 0 [k.t]= .ok (.int (k.all.length:Int))
 | 0,_,_,_,_,h=>h.elim
 | d+1,n+3,hn,hd,k,h=>by
  have ih:=Uc d n (by omega) (by omega)
  have ih1:=Uc d (n+1) (by omega) (by omega)
  have e:S_1 (n+3) 0 [k.t]=zy (b_1 _ _ [.vl k.t]):=rfl;have e2:∀s u,S_1 (n+2) 2 [s,u]=zy _:=λs u=>rfl;rw[e,b_1];cases k with
  | whole lo hi=>
   obtain⟨h1,h2,h3⟩:=h;rw[j5];simp only[Kd.t];rw[zI (t:= .int _)]
   ·rfl
   ·rw[JP (by rw[cs0,beq_self_eq_true]),zz]
    show R.ok _=_;congr 2;omega
  | pick cs=>
   rw[wT];simp only[Kd.t];rw[zd (zC (by rfl)),zI]
   ·rfl
   ·rw[JP (by rw[cs0,beq_self_eq_true]),zz]
    show R.ok _=_;rw[ae]
  | row ks=>
   obtain⟨h1,h2,h3⟩:=h;rw[jS];simp only[Kd.t];rw[Kd.ts_map,zd (zC (by rfl)),zd (zC (by rfl)),zI]
   ·rfl
   ·rw[JP (by rw[cs0,beq_self_eq_true]),zz]
    have hl:=j6 (d+1) (.row ks) ⟨h1,h2,h3⟩;rw[jS]at hl;exact JG ks rfl (λk hk=>⟨ih1 k (h3 k hk),Zl d k (h3 k hk)⟩) (Xb hl hd)
  | many k lo hi=>
   obtain⟨h1,h2,h3⟩:=h;rw[ZD];simp only[Kd.t];rw[zd (zC (by rfl)),zd (zC (by rfl)),zd (zC (by rfl)),zz]
   ·rfl
   ·show za 2 _ _ [.vl _]=_;rw[zS,v0,bOk,YX XL,bOk,e2,show (hi:Int)+1=((lo+(hi+1 - lo):Nat)) by omega]
    refine qq (by omega) λm hm=> ?_
    have hp:prd ((af m k).map λk=>k.all.length)=k.all.length ^ m:=by rw[jN,ZU]
    rw[← hp];refine JG _ (by rw[aP];rfl) (λk' hk' => ?_) (by rw[hp];exact Ve (j6 d k h3) (by omega) hm)
    rw[bz hk'];exact⟨ih k h3,Zl d k h3⟩
theorem je {d:Nat}(hd:d<=3){k:Kd}(h:k.Ok d):f_1 20 [k.t]= .ok (.int (k.all.length:Int)):=Uc d 20 (by omega) hd k h
theorem W0 {d:Nat}(hd:d<=2){k:Kd}(h:k.Ok d){lo hi q:Nat}(h4:lo+q<=4):f_j 20 [mt k.t lo hi,.int ((lo+q:Nat):Int)]= .ok (.int ((shr k.all.length lo q:Nat):Int)):=by
 have e:f_j 20 [mt k.t lo hi,.int ((lo+q:Nat))]=zy (b_j (S_1 19 1) (en0 2 [mt k.t lo hi,.int ((lo+q):Int)])):=rfl;rw[e];refine qq h4 λm hm=> ?_;have hp:prd ((af m k).map λk=>k.all.length)=k.all.length ^ m:=by rw[jN,ZU]
 rw[← hp];refine JG _ (by rw[aP];rfl) (λk' hk' => ?_) (by rw[hp];exact Ve (j6 d k h) hd hm)
 rw[bz hk'];exact⟨Uc d 18 (by omega) (by omega) k h,Zl d k h⟩
abbrev paB (cc cw:List T->R T):En->RS:=zA (zV 5 (za 1 cc (z9 (vE 4) (zj))))
  (zA (UG 2 (za 2 cw (z9 (vE 4) (z9 (zb jP (vE 3) (vE 5)) (zj)))))
  (zV 3 (zb wy (vE 3) (vE 5))))
structure AtOk (cc cw:List T->R T) (k:Kd):Prop where
 cnt:cc [k.t]= .ok (.int (k.all.length:Int))
 at_:∀(i:Nat) x,k.all[i]? =some x->cw [k.t,.int (i:Int)]= .ok x
 pos:1<=k.all.length
 le:k.all.length < 1000000
theorem v5' :vE 5 (a :: b :: c :: d :: e :: .vl t :: ρ)= .ok t:=rfl
theorem Vf {n c:Nat}(h:1<=c):jP (.int (n:Int)) (.int (c:Int))= .ok (.int ((n % c:Nat):Int)):=by
 unfold jP;dsimp only;rw[if_pos (by omega)];rfl
theorem Xg {n c:Nat}(h:1<=c)(h' :c < 1000000):wy (.int (n:Int)) (.int (c:Int))= .ok (.int ((n / c:Nat):Int)):=by
 unfold wy;dsimp only;rw[if_pos (by omega)];rfl
theorem qr (hi:ρ[i]? =some (.ow ts))(hl:ts.length < bnd)(h:f ρ= .ok t):UG i f ρ= .nx (ρ.set i (.ow (ts++[t]))):=by
 unfold UG;rw[hi];dsimp only;rw[h,ZC,if_pos hl]
theorem qt {cc cw:List T->R T}{S N:Sl}:∀(rs:List Kd) (acc:List T) (n:Nat) (x y:Sl),(∀k∈rs,AtOk cc cw k)->n < prd (rs.map λk=>k.all.length)->acc.length+rs.length<=1000->
  ∃xs r x' y',(Z8 [[]] (rs.reverse.map Kd.all))[n]? =some xs/\Zn (zP 4) (paB cc cw) (rs.map Kd.t) [S,N,.ow acc,.vl (.int (n:Int)),x,y]= .nx [S,N,.ow (acc++xs.reverse),r,x',y']
 | [],acc,n,x,y,_,hn,_=>⟨[],.vl (.int (n)),x,y,by
   have:=by simp[prd]at hn;exact hn
   subst this;rfl,by simp[Zn]⟩
 | k :: rs,acc,n,x,y,H,hn,hl=>by
  obtain⟨hc,hw,h1,hle⟩:=H k ab;rw[ar]at hl;have hb:bnd=16777216:=rfl;have hmod:n % k.all.length < k.all.length:=ip _ h1;obtain⟨v,hv⟩:=j7 hmod;have hdiv:=f6 hn;obtain⟨xs,r,x',y',e1,e2⟩:=qt rs (acc++[v]) _ _ _ (λk' hk' =>H k' (a8 _ hk')) hdiv (by rw[aA,aK];omega)
  have b1:zV 5 (za 1 cc (z9 (vE 4) (zj))) [S,N,.ow acc,.vl (.int (n)),.vl k.t,y]= .nx [S,N,.ow acc,.vl (.int (n)),.vl k.t,.vl (.int (k.all.length))]:=by
   rw[zX]
   ·rfl
   ·rw[zQ,v4,bOk,hc]
  have b2:UG 2 (za 2 cw (z9 (vE 4) (z9 (zb jP (vE 3) (vE 5)) (zj)))) [S,N,.ow acc,.vl (.int (n)),.vl k.t,.vl (.int (k.all.length))]= .nx [S,N,.ow (acc++[v]),.vl (.int (n)),.vl k.t,.vl (.int (k.all.length))]:=by
   rw[qr rfl (by omega)]
   ·rfl
   ·rw[zS,v4,bOk,zv,v3,bOk,v5',bOk,Vf h1,bOk,hw _ v hv]
  have b3:zV 3 (zb wy (vE 3) (vE 5)) [S,N,.ow (acc++[v]),.vl (.int (n)),.vl k.t,.vl (.int (k.all.length))]= .nx [S,N,.ow (acc++[v]),.vl (.int ((n / k.all.length:Nat))),.vl k.t,.vl (.int (k.all.length))]:=by
   rw[zX]
   ·rfl
   ·rw[zv,v3,bOk,v5',bOk,Xg h1 hle]
  have eb:paB cc cw [S,N,.ow acc,.vl (.int (n)),.vl k.t,y]= .nx [S,N,.ow (acc++[v]),.vl (.int ((n / k.all.length:Nat))),.vl k.t,.vl (.int (k.all.length))]:=by
   rw[paB,zd b1,zd b2,b3]
  refine⟨xs++[v],r,x',y', ?_, ?_⟩
  ·have:=U9 e1 hv;rw[bP,eO]at this;rw[bC,bA];exact this
  ·rw[aI,JD rfl eb,e2];simp
theorem qu:∀ns:List Nat,prd ns.reverse=prd ns
 | []=>rfl
 | n :: ns=>by rw[bC,wZ,qu ns,prd,bP]
theorem JH {cc cw:List T->R T}{s:T}(ks:List Kd)(hs:jR s= .ok (ks.map Kd.t))(hl:ks.length<=3)(H:∀k∈ks,AtOk cc cw k){n:Nat}{xs:List T}(hx:(Z8 [[]] (ks.map Kd.all))[n]? =some xs):
  zy (b_v cc cw (en0 6 [s,.int (n:Int)]))= .ok (.tup xs):=by
 have hn:=(am.mp hx).1;rw[ZQ,bb]at hn;have hr:(ks.reverse.map λk=>k.all.length)=(ks.map λk=>k.all.length).reverse:=by rw[g_]
 obtain⟨ys,r,x',y',e1,e2⟩:=qt _ [] n .un .un (λk hk=>H k (h9.mp hk)) (by rw[hr,qu];exact hn) (by rw[bO,bM];omega)
 rw[cF,hx]at e1;cases e1;have e0:WX 2 (zj) [.vl s,.vl (.int (n)),.un,.un,.un,.un]= .nx [.vl s,.vl _,.ow [],.un,.un,.un]:=rfl;have e3:zV 3 (vE 1) [.vl s,.vl (.int (n)),.ow [],.un,.un,.un]= .nx [.vl s,.vl _,.ow [],.vl _,.un,.un]:=rfl;have e4:jJ (z0R (vE 0)) (zP 4) (paB cc cw) [.vl s,.vl (.int (n)),.ow [],.vl (.int (n)),.un,.un]= .nx [.vl s,.vl (.int (n)),.ow xs.reverse,r,x',y']:=by
  show (((jR s).bind λxs=>R.ok _).s λts=>Zn _ _ ts _)=_;rw[hs,bOk,← g_];exact e2
 have hlen:xs.reverse.length<=bnd:=by
  have:∀(ls made:List _) (m:Nat),(∀a∈made,a.length<=m)->∀a∈Z8 made ls,a.length<=m+ls.length:=by
   intro ls
   induction ls with
   | nil=>intro made m h a ha;exact h a ha
   | cons l ls ih=>
    intro made m h a ha;have:=ih (made.flatMap λa=>l.map λx=>a++[x]) (m+1) (λb hb=>by
     obtain⟨c,hc,hb⟩:=ce.mp hb;obtain⟨z,_,rfl⟩:=aN.mp hb;have:=h c hc;rw[aA,aK];omega) a ha
    rw[ar];omega
  have h1:=this _ _ 0 (λa ha=>by rw[aT.mp ha];exact ai _) xs (bH hx)
  rw[ae]at h1;rw[bO];have hb:bnd=16777216:=rfl;omega
 show zy (b_v cc cw [.vl s,.vl _,.un,.un,.un,.un])=_;rw[b_v,zd e0,zd e3,zd e4,zz]
 ·rfl
 ·show QR (.lst _)=_;unfold QR;dsimp only;rw[if_pos hlen,cF]
abbrev mtT:En->R Bool:=zL leC (za 2 (f_j 20) (z9 (vE 0) (z9 (zb zE (vE 2) (cE (.int 1))) (zj)))) (vB 1)
abbrev mtB:En->RS:=zV 2 (zb zE (vE 2) (cE (.int 1)))
theorem w1n:vB 1 (a :: .vl t :: ρ)= .ok t:=rfl
theorem qw {d:Nat}(hd:d<=2){k:Kd}(h:k.Ok d){lo hi n:Nat}(h1:lo<=hi)(h3:hi<=3)(hn:n < shr k.all.length lo (hi+1 - lo)):∀(f q:Nat),q<=hi - lo->hi - lo - q < f->shr k.all.length lo q<=n->
  ∃q',q' <=hi - lo/\shr k.all.length lo q' <=n/\n < shr k.all.length lo (q' +1)/\jj mtT mtB f [.vl (mt k.t lo hi),.vl (.int (n:Int)),.vl (.int ((lo+q:Nat):Int))]= .nx [.vl (mt k.t lo hi),.vl (.int (n:Int)),.vl (.int ((lo+q' :Nat):Int))]
 | 0,q,_,hf,_=>by omega
 | f+1,q,hq,hf,hs=>by
  have et:mtT [.vl (mt k.t lo hi),.vl (.int (n)),.vl (.int ((lo+q:Nat)))]= .ok (decide (shr k.all.length lo (q+1)<=n)):=by
   rw[mtT,zU,zS,v0,bOk,YX v2,bOk,show ((lo+q:Nat):Int)+1=((lo+(q+1):Nat)) by omega,W0 hd h (by omega),bOk,w1n,bOk,wN,wk]
  have eu:jj mtT mtB (f+1) [.vl (mt k.t lo hi),.vl (.int (n)),.vl (.int ((lo+q:Nat)))]=(mtT _).s λk' =>if k' =true then match mtB [.vl _,.vl _,.vl (.int _)] with
    | .nx ρ2=>jj mtT mtB f ρ2
    | .ct ρ2=>jj mtT mtB f ρ2
    | .bk ρ2=> .nx ρ2
    | r=>r
   else .nx _:=rfl
  rw[eu,et,ZC]
  by_cases hc:shr k.all.length lo (q+1)<=n
  ·rw[if_pos (decide_eq_true hc)];have hq2:q+1<=hi - lo:=by
    rcases Nat.lt_or_ge q _ with z | z
    ·exact z
    ·have:q=hi - lo:=by omega
     rw[this,show hi - lo+1=hi+1 - lo by omega]at hc
     omega
   have eb:mtB [.vl (mt k.t lo hi),.vl (.int (n)),.vl (.int ((lo+q:Nat)))]= .nx [.vl (mt k.t lo hi),.vl (.int (n)),.vl (.int ((lo+(q+1):Nat)))]:=by
    rw[mtB,zX]
    ·rfl
    ·rw[YX v2,show ((lo+q:Nat):Int)+1=((lo+(q+1):Nat)) by omega]
   exact qw hd h h1 h3 hn f _ hq2 (by omega) hc
  ·rw[if_neg (by simpa using hc)]
   exact⟨q,hq,hs,by omega,rfl⟩
theorem gI {i j:Nat}(h:j<=i):ju (.int (i:Int)) (.int (j:Int))= .ok (.int ((i - j:Nat):Int)):=by
 rw[Zk];congr 2;omega
theorem UY {d:Nat}(hd:d<=2){k:Kd}(h:k.Ok d){cp:List T->R T}{lo hi n:Nat}(h1:lo<=hi)(h3:hi<=3)(hn:n < shr k.all.length lo (hi+1 - lo))
  (H:∀(m:Nat),m<=3->∀(j:Nat) (xs:List T),(Z8 [[]] (af m k.all))[j]? =some xs->cp [.lst (af m k.t),.int (j:Int)]= .ok (.tup xs)):
  ∃x,(Kd.many k lo hi).all[n]? =some x/\zy (KU (f_j 20) cp (en0 3 [mt k.t lo hi,.int (n:Int)]))= .ok x:=by
 obtain⟨q,hq,hs,hs',e⟩:=qw hd h h1 h3 hn 8 0 (by omega) (by omega) (by unfold shr;simp)
 rw[Ua]at hs';have hj:n - shr k.all.length lo q < (Z8 [[]] (af (lo+q) k.all)).length:=by
  rw[ZQ,aP,ZU];omega
 obtain⟨xs,hx⟩:=j7 hj;have ha:=qm (hi:=hi) (by omega) hx
 rw[show shr _ lo q+(n - shr _ lo q)=n by omega]at ha
 refine⟨_,ha, ?_⟩;have e0:zV 2 (zb ixT (vE 0) (cE (.int 2))) [.vl (mt k.t lo hi),.vl (.int (n:Int)),.un]= .nx [.vl _,.vl _,.vl (.int ((lo+0:Nat)))]:=rfl;show zy (KU _ cp [.vl _,.vl _,.un])=_;rw[KU,zd e0,zd e,zz]
 ·rfl
 ·show za 2 cp _ [.vl _,.vl _,.vl _]=_;have em:zb Z4 (jb (z9 (zb ixT (vE 0) (cE (.int 1))) (zj))) (vE 2) [.vl (mt k.t lo hi),.vl (.int (n)),.vl (.int ((lo+q:Nat)))]= .ok (.lst (af (lo+q) k.t)):=by
   rw[zv,XM Jh,bOk,v2,bOk,WB (by omega),jf]
  rw[zS,em,bOk,zv,v1,bOk,zS,v0,bOk,v2,bOk,W0 hd h (by omega),bOk,gI hs,bOk,H _ (by omega) _ xs hx]
theorem qx {d:Nat}(hd:d<=2){k:Kd}(h:k.Ok d):k.all.length < 1000000:=by
 have h1:=j6 d k h;have h2:mx d<=70644:=by
  have:d=0\/d=1\/d=2:=by omega
  rcases this with rfl | rfl | rfl <;> decide
 omega
theorem jr:∀(d n:Nat),3*d<=n->d<=3->∀k:Kd,k.Ok d->∀(i:Nat) (x:T),k.all[i]? =some x->S_4 n 0 [k.t,.int (i:Int)]= .ok x
 | 0,_,_,_,_,h=>h.elim
 | d+1,n+3,hn,hd,k,h=>by
  intro i x hx;have ih:=jr d n (by omega) (by omega)
  have ih1:=jr d (n+1) (by omega) (by omega)
  have e:S_4 (n+3) 0 [k.t,.int (i:Int)]=zy (b_4 f_g _ _ (en2 k.t (.int (i:Int)))):=rfl;have hi' :=(am.mp hx).1;rw[e,b_4];cases k with
  | whole lo hi=>
   rw[Kd.all,ak]at hx;rw[j5]at hi';rw[bN hi']at hx;cases hx;rw[zI]
   ·rfl
   ·rfl
  | pick cs=>
   have hw:=wY cs h.2.1;simp only[Kd.t]at hw ⊢;rw[zd (yj (by decide)),zI]
   ·rfl
   ·rw[gF,zz];show zb ixT _ _ (en2 _ _)=_;rw[zv,zQ,v0,bOk,hw,v1];exact gG hx
  | row ks=>
   obtain⟨h1,h2,h3⟩:=h;rw[Kd.all,Kd.alls_map,ak]at hx;cases hr:(Z8 _ _)[i]? with
   | none=>rw[hr]at hx;cases hx
   | some xs=>
    rw[hr]at hx;cases hx;simp only[Kd.t];rw[Kd.ts_map,zd (yj (by decide)),zd (yj (by decide)),zI]
    ·rfl
    ·rw[gF,zz];refine JH ks rfl h2 (λk hk=>⟨je (by omega) (h3 k hk),ih1 k (h3 k hk),Zl d k (h3 k hk),qx (by omega) (h3 k hk)⟩) hr
  | many k lo hi=>
   obtain⟨h1,h2,h3⟩:=h;rw[ZD]at hi';obtain⟨x',hx',hv⟩:=UY (cp:=S_4 (n+1) 2) (by omega) h3 h1 h2 hi' (λm hm j xs hr=>by
    refine JH _ (by rw[aP];rfl) (by rw[aJ];exact hm) (λk' hk' => ?_) (by rw[aP];exact hr)
    rw[bz hk'];exact⟨je (by omega) h3,ih k h3,Zl d k h3,qx (by omega) h3⟩)
   rw[hx]at hx';cases hx';simp only[Kd.t];rw[zd (yj (by decide)),zd (yj (by decide)),zd (yj (by decide)),zz]
   ·rfl
   ·show za 2 _ _ (en2 _ _)=_;rw[zS,v0,bOk,v1,bOk];exact hv
theorem Vg {k:Kd}(h:k.Ok 3){i:Nat}{x:T}(hx:k.all[i]? =some x):f_4 20 [k.t,.int (i:Int)]= .ok x:=jr 3 20 (by omega) (by omega) k h i x hx
theorem wn:∀(ls made:List (List T)) (m:Nat),(∀a∈made,a.length=m)->∀a∈Z8 made ls,a.length=m+ls.length
 | [],made,m,h,a,ha=>h a ha
 | l :: ls,made,m,h,a,ha=>by
  have:=wn ls (made.flatMap λa=>l.map λx=>a++[x]) (m+1) (λb hb=>by
   obtain⟨c,hc,hb⟩:=ce.mp hb;obtain⟨z,_,rfl⟩:=aN.mp hb;rw[aA,aK,h c hc]) a ha
  rw[ar];omega
theorem WH {ls:List (List T)}{n:Nat}{xs:List T}(h:(Z8 [[]] ls)[n]? =some xs):xs.length=ls.length:=by
 have:=wn ls [[]] 0 (λa ha=>by rw[aT.mp ha];rfl) xs (bH h)
 omega
theorem UZ {ls:List (List T)}(hl:1<=l.length)(h:(Z8 [[]] (ls++[l]))[n]? =some xs):∃ys y,(Z8 [[]] ls)[n / l.length]? =some ys/\l[n % l.length]? =some y/\xs=ys++[y]:=by
 have hn:=(am.mp h).1;rw[ZQ,bA,fx,wZ,← ZQ]at hn;obtain⟨ys,hy⟩:=j7 (xs:=Z8 [[]] ls) (i:=n / l.length) (f6 (by rw[bP];exact hn))
 obtain⟨y,hy'⟩:=j7 (ip n hl);refine⟨ys,y,hy,hy', ?_⟩;have:=U9 hy hy';rw[bP,eO,h]at this;exact aq this
theorem ug {g:T->En->R En}(hb:∀ρ ρ',fb ρ ≠ .bk ρ'):∀(as bs:List T) (ρ ρ' :En),Zn g fb as ρ= .nx ρ' ->Zn g fb (as++bs) ρ=Zn g fb bs ρ'
 | [],bs,ρ,ρ',h=>by cases h;rfl
 | a :: as,bs,ρ,ρ',h=>by
  have e:∀cs,Zn g fb (a :: cs) ρ=match g a ρ with
   | .ok ρ1=>match fb ρ1 with
    | .nx ρ2=>Zn g fb cs ρ2
    | .ct ρ2=>Zn g fb cs ρ2
    | .bk ρ2=> .nx ρ2
    | r=>r
   | .ex c=> .bad
   | .bad=> .bad:=λcs=>rfl
  rw[cJ,e];rw[e]at h;cases hg:g a ρ with
  | bad=>rw[hg]at h;cases h
  | ex c=>rw[hg]at h;cases h
  | ok ρ1=>
   rw[hg]at h;dsimp only at h ⊢;cases hf:fb ρ1 with
   | nx ρ2=>rw[hf]at h;exact ug hb as bs ρ2 ρ' h
   | ct ρ2=>rw[hf]at h;exact ug hb as bs ρ2 ρ' h
   | bk ρ2=>exact absurd hf (hb _ _)
   | rt t=>rw[hf]at h;cases h
   | ex c=>rw[hf]at h;cases h
   | bad=>rw[hf]at h;cases h
   | rf t=>rw[hf]at h;cases h
theorem Xh (ρ ρ' :En):zV i f ρ ≠ .bk ρ' :=by
 rw[J7];cases f ρ <;> exact λh=>nomatch h
abbrev ppB (cc cl:List T->R T):En->RS:=zV 2 (zb zE (zb Z4 (vE 2) (za 1 cc (z9 (vE 3) (zj)))) (za 2 cl (z9 (vE 3) (z9 (vE 4) (zj)))))
structure PlOk (cc cl:List T->R T) (k:Kd):Prop where
 cnt:cc [k.t]= .ok (.int (k.all.length:Int))
 pl:∀(i:Nat) x,k.all[i]? =some x->cl [k.t,x]= .ok (.int (i:Int))
 pos:1<=k.all.length
abbrev zpT (q:Kd×T):T:=T.tup [q.1.t,q.2]
theorem qy {cc cl:List T->R T}{S P:Sl}:∀(rs:List Kd) (n:Nat) (xs:List T) (a b:Sl),(∀k∈rs,PlOk cc cl k)->n < 2 ^ 60->(Z8 [[]] (rs.reverse.map Kd.all))[n]? =some xs->
  ∃x y,Zn (Ze 3 4) (ppB cc cl) ((rs.reverse.zip xs).map zpT) [S,P,.vl (.int 0),a,b]= .nx [S,P,.vl (.int (n:Int)),x,y]
 | [],n,xs,a,b,_,_,h=>by
  have hn:=(am.mp h).1;have:n=0:=by
   have e:(Z8 [[]] (([]:List Kd).reverse.map Kd.all)).length=1:=rfl;omega
  subst this;exact⟨a,b,by simp[Zn]⟩
 | k :: rs,n,xs,a,b,H,hb,h=>by
  obtain⟨hc,hp,h1⟩:=H k ab;rw[bC,bA,fx]at h;obtain⟨ys,y,hy,hy',rfl⟩:=UZ h1 h;have hdiv:n / k.all.length<=n:=Nat.div_le_self ..;obtain⟨x',y',e⟩:=qy (cc:=cc) (cl:=cl) (S:=S) (P:=P) rs (n / k.all.length) ys a b (λk' hk' =>H k' (a8 _ hk')) (by omega) hy
  have hl:rs.reverse.length=ys.length:=by rw[WH hy,ae]
  refine⟨.vl k.t,.vl y, ?_⟩;rw[bC,List.zip_append hl,bA,ug Xh _ _ _ _ e];have eb:ppB cc cl [S,P,.vl (.int ((n / k.all.length:Nat):Int)),.vl k.t,.vl y]= .nx [S,P,.vl (.int (n:Int)),.vl k.t,.vl y]:=by
   rw[ppB,zX (t:= .int (n:Int))]
   ·rfl
   ·rw[zv,zv,v2,bOk,zQ,v3,bOk,hc,bOk,U1 (by omega),bOk,zS,v3,bOk,v4,bOk,hp _ y hy',bOk,Z3]
    congr 2
    have:=eO n k.all.length;rw[bP]at this;omega
  show Zn (Ze 3 4) (ppB cc cl) [T.tup [k.t,y]] [S,P,.vl (.int ((n / k.all.length:Nat):Int)),x',y']=_;rw[JD (ρ1:=[S,P,.vl (.int ((n / k.all.length:Nat):Int)),.vl k.t,.vl y]) rfl eb];rfl
theorem WI {cc cl:List T->R T}{s:T}(ks:List Kd)(hs:jR s= .ok (ks.map Kd.t))(H:∀k∈ks,PlOk cc cl k){n:Nat}{xs:List T}(hn:n < 2 ^ 60)(hx:(Z8 [[]] (ks.map Kd.all))[n]? =some xs):
  zy (b_z cc cl (en0 5 [s,.tup xs]))= .ok (.int (n:Int)):=by
 obtain⟨x,y,e⟩:=qy (cc:=cc) (cl:=cl) (S:= .vl s) (P:= .vl (.tup xs)) ks.reverse n xs .un .un (λk hk=>H k (h9.mp hk)) hn (by rw[cF];exact hx)
 rw[cF]at e;have e0:zV 2 (cE (.int 0)) [.vl s,.vl (.tup xs),.un,.un,.un]= .nx [.vl s,.vl (.tup xs),.vl (.int 0),.un,.un]:=rfl;have e1:jJ (xt (vE 0) (vE 1)) (Ze 3 4) (ppB cc cl) [.vl s,.vl (.tup xs),.vl (.int 0),.un,.un]= .nx [.vl s,.vl (.tup xs),.vl (.int (n:Int)),x,y]:=by
  show (((jR s).bind λxs' =>R.ok (Y9 xs' xs)).s λts=>Zn (Ze 3 4) (ppB cc cl) ts [.vl s,.vl (.tup xs),.vl (.int 0),.un,.un])=_;rw[hs,bOk,ZC,gE];exact e
 show zy (b_z cc cl [.vl s,.vl (.tup xs),.un,.un,.un])=_;rw[b_z,zd e0,zd e1];rfl
theorem Ud (c lo:Nat):∀(m n:Nat),n < shr c lo m->∃q,q < m/\shr c lo q<=n/\n < shr c lo (q+1)
 | 0,n,h=>by simp[shr]at h
 | m+1,n,h=>by
  by_cases hc:shr c lo m<=n
  ·exact⟨m,by omega,hc,h⟩
  ·obtain⟨q,h1,h2,h3⟩:=Ud c lo m n (by omega)
   exact⟨q,by omega,h2,h3⟩
theorem qz (x:Str):∀cs:List (Str×Int),eqs (.str x) (cs.map λc=>T.str c.1)=some (cs.map λc=>c.1 == x)
 | []=>rfl
 | c :: cs=>by
  show (match eqF 30 (.str c.1) (.str x) with
   | none=>none
   | some b=>match eqs (.str x) (cs.map λ(c:Str×Int)=>T.str c.1) with
    | none=>none
    | some bs=>some (b :: bs))=_
  rw[qz x cs];rfl
theorem WJ:∀(bs:List Bool) (i:Nat),bs[i]? =some true->(∀j,j < i->bs[j]? =some false)->bs.idxOf true=i
 | [],i,h,_=>by simp at h
 | b :: bs,0,h,_=>by
  have:b=true:=by simpa using h
  subst this;rfl
 | b :: bs,i+1,h,hj=>by
  have h0:b=false:=by simpa using hj 0 (by omega)
  subst h0;have:=WJ bs i (by simpa using h) λj h' =>by simpa using hj (j+1) (by omega)
  rw[List.idxOf_cons,this];rfl
theorem vj {cs:List (Str×Int)}(hd:Dst (cs.map (·.1))){i:Nat}{c:Str×Int}(h:cs[i]? =some c):Ye (.str c.1) (cs.map λc=>T.str c.1)= .ok (.int (i:Int)):=by
 unfold Ye;rw[qz];dsimp only;have hi:=(am.mp h).1;have h1:(cs.map λd=>d.1 == c.1)[i]? =some true:=by rw[ak,h];simp
 rw[if_pos (bH h1),WJ _ i h1 λj hj=> ?_];rw[ak];cases hc:cs[j]? with
 | none=>rw[List.getElem?_eq_none_iff]at hc;omega
 | some d=>
  have hw:=hd i c.1 (by rw[ak,h];rfl)
  have:d.1 ≠ c.1:=λe=>hw (by
   rw[← e];refine bH (i:=j) ?_;rw[cO hj,ak,hc];rfl)
  show some (d.1 == c.1)=some false;rw[beq_eq_false_iff_ne.mpr this]
abbrev en3 (a b:T)(c:Sl):En:=[.vl a,.vl b,c]
theorem XN (h:(x == w)=false):ifS (zL eqC (zb ixT (vE 0) (cE (.int 0))) (cE (.str w))) f nxS (en3 (.tup (.str x :: r)) b c)= .nx (en3 (.tup (.str x :: r)) b c):=
 zC (by rw[cs0,h])
theorem z1k:ifS (zL eqC (zb ixT (vE 0) (cE (.int 0))) (cE (.str x))) f nxS (en3 (.tup (.str x :: r)) b c)=f (en3 (.tup (.str x :: r)) b c):=
 JP (by rw[cs0,beq_self_eq_true])
theorem gJ {d:Nat}(hd:d<=3){k:Kd}(h:k.Ok d):k.all.length < 2 ^ 60:=Xb (j6 d k h) hd
theorem Ue:∀(d n:Nat),2*d<=n->d<=3->∀k:Kd,k.Ok d->∀(i:Nat) (x:T),k.all[i]? =some x->S_3 n 0 [k.t,x]= .ok (.int (i:Int))
 | 0,_,_,_,_,h=>h.elim
 | d+1,n+2,hn,hd,k,h=>by
  intro i x hx;have ih:=Ue d n (by omega) (by omega)
  have e:S_3 (n+2) 0 [k.t,x]=zy (b_3 f_g (f_j 20) (S_3 (n+1) 1) (en3 k.t x .un)):=rfl;have e1:∀s u,S_3 (n+1) 1 [s,u]=zy (b_z (f_1 20) (S_3 n 0) (en0 5 [s,u])):=λs u=>rfl;have hi' :=(am.mp hx).1;have h60:=gJ hd h;rw[e,b_3];cases k with
  | whole lo hi=>
   rw[Kd.all,ak]at hx;rw[j5]at hi';rw[bN hi']at hx;cases hx;simp only[Kd.t];rw[zI (t:= .int (i:Int))]
   ·rfl
   ·rw[z1k,zz];show R.ok (T.int (lo+(i:Int) - lo))=_;congr 2;omega
  | pick cs=>
   have hw:=wY cs h.2.1;rw[Kd.all,ak]at hx;cases hc:cs[i]? with
   | none=>rw[hc]at hx;cases hx
   | some c=>
    rw[hc]at hx;cases hx;simp only[Kd.t]at hw ⊢;rw[zd (XN (by decide)),zI (t:= .int (i:Int))]
    ·rfl
    ·rw[z1k,zz];show ((za 1 f_g (z9 (vE 0) (zj)) (en3 _ _ _)).bind _)=_;rw[zQ,v0,bOk,hw,bOk];show Ye (.str c.1) (cs.map λ(c:Str×Int)=>T.str c.1)=_;exact vj h.2.2.2 hc
  | row ks=>
   obtain⟨h1,h2,h3⟩:=h;rw[Kd.all,Kd.alls_map,ak]at hx;cases hr:(Z8 [[]] (ks.map Kd.all))[i]? with
   | none=>rw[hr]at hx;cases hx
   | some xs=>
    rw[hr]at hx;cases hx;simp only[Kd.t];rw[Kd.ts_map,zd (XN (by decide)),zd (XN (by decide)),zI (t:= .int (i:Int))]
    ·rfl
    ·rw[z1k,zz];show za 2 _ _ (en3 _ _ _)=_;rw[zS,Jh,bOk,v1,bOk,e1];exact WI ks rfl (λk hk=>⟨je (by omega) (h3 k hk),ih k (h3 k hk),Zl d k (h3 k hk)⟩) (by omega) hr
  | many k lo hi=>
   obtain⟨h1,h2,h3⟩:=h;rw[ZD,Vd]at hi';obtain⟨q,hq,hs,hs'⟩:=Ud _ _ _ _ hi';rw[Ua]at hs';have hj:i - shr k.all.length lo q < (Z8 [[]] (af (lo+q) k.all)).length:=by
    rw[ZQ,aP,ZU];omega
   obtain⟨xs,hr⟩:=j7 hj;have ha:=qm (k:=k) (lo:=lo) (hi:=hi) hq hr;rw[show shr k.all.length lo q+(i - shr k.all.length lo q)=i by omega,hx]at ha
   cases ha;have hl:=WH hr;rw[aJ]at hl;simp only[Kd.t];have e3:zV 2 (ap1 Zw (vB 1)) (en3 (mt k.t lo hi) (.tup xs) .un)= .nx (en3 (mt k.t lo hi) (.tup xs) (.vl (.int ((lo+q:Nat):Int)))):=by
    rw[← hl];rfl
   rw[zd (XN (by decide)),zd (XN (by decide)),zd (XN (by decide)),zd e3,zz (t:= .int (i:Int))]
   ·rfl
   ·show zb zE _ _ (en3 (mt k.t lo hi) (.tup xs) (.vl (.int ((lo+q:Nat):Int))))=_;have em:zb Z4 (jb (z9 (zb ixT (vE 0) (cE (.int 1))) (zj))) (vE 2) (en3 (mt k.t lo hi) (.tup xs) (.vl (.int ((lo+q:Nat):Int))))= .ok (.lst (af (lo+q) k.t)):=by
     rw[zv,XM Jh,bOk,v2,bOk,WB (by omega),jf]
    have ep:S_3 (n+1) 1 [.lst (af (lo+q) k.t),.tup xs]= .ok (.int ((i - shr k.all.length lo q:Nat):Int)):=by
     rw[e1];refine WI (af (lo+q) k) (by rw[aP];rfl) (λk' hk' => ?_) (by
      rw[ZD,Vd]at h60;omega) (by rw[aP];exact hr)
     rw[bz hk'];exact⟨je (by omega) h3,ih k h3,Zl d k h3⟩
    rw[zv,zS,v0,bOk,v2,bOk,W0 (by omega) h3 (by omega),bOk,zS,em,bOk,v1,bOk,ep,bOk,Z3]
    have hz:((shr k.all.length lo q:Nat):Int)+((i - shr k.all.length lo q:Nat):Int)=(i:Int):=by clear h60;omega
    rw[hz]
theorem gK {k:Kd}(h:k.Ok 3){i:Nat}{x:T}(hx:k.all[i]? =some x):f_3 20 [k.t,x]= .ok (.int (i:Int)):=Ue 3 20 (by omega) (by omega) k h i x hx
noncomputable def Pl:Nat->T->Prop
 | 0,_=>False
 | n+1,.tup xs=>∀x∈xs,Pl n x
 | n+1,.lst xs=>∀x∈xs,Pl n x
 | _+1,.fz _=>False
 | _+1,_=>True
theorem Ji {f:T->T->Option Bool}:∀(xs ys:List T),(∀x∈xs,∀y,∃b,f x y=some b)->∃b,eqL f xs ys=some b
 | [],[],_=>⟨_,rfl⟩
 | [],_ :: _,_=>⟨_,rfl⟩
 | _ :: _,[],_=>⟨_,rfl⟩
 | x :: xs,y :: ys,h=>by
  obtain⟨b,hb⟩:=h x ab y;obtain⟨c,hc⟩:=Ji xs ys λz hz=>h z (a8 _ hz);exact⟨b && c,by unfold eqL;rw[hb,hc]⟩
theorem Zm {f:T->T->Option Bool}:∀(xs:List T),(∀x∈xs,f x x=some true)->eqL f xs xs=some true
 | [],_=>rfl
 | x :: xs,h=>by
  unfold eqL;rw[h x ab,Zm xs λz hz=>h z (a8 _ hz)];rfl
theorem Jj:∀(n:Nat) (y x:T),Pl n y->∃b,eqF n y x=some b
 | 0,_,_,h=>h.elim
 | n+1,y,x,h=>by
  cases y with
  | tup xs=>
   cases x with
   | tup ys=>exact Ji xs ys λz hz u=>Jj n z u (h z hz)
   | _=>exact⟨false,by rw[eqF] <;> intros <;> first | rfl | contradiction | (intro z)⟩
  | lst xs=>
   cases x with
   | lst ys=>exact Ji xs ys λz hz u=>Jj n z u (h z hz)
   | fz ys=>exact Ji xs ys λz hz u=>Jj n z u (h z hz)
   | _=>exact⟨false,by rw[eqF] <;> intros <;> first | rfl | contradiction | (intro z)⟩
  | fz xs=>exact h.elim
  | non=>cases x <;> exact⟨_,rfl⟩
  | bl b=>cases x <;> exact⟨_,rfl⟩
  | int i=>cases x <;> exact⟨_,rfl⟩
  | str i=>cases x <;> exact⟨_,rfl⟩
theorem Z7:∀(n:Nat) (y:T),Pl n y->eqF n y y=some true
 | 0,_,h=>h.elim
 | n+1,y,h=>by
  cases y with
  | tup xs=>exact Zm xs λz hz=>Z7 n z ((h) z hz)
  | lst xs=>exact Zm xs λz hz=>Z7 n z ((h) z hz)
  | fz xs=>exact h.elim
  | non=>rfl
  | bl b=>show some _=_;simp
  | int i=>show some _=_;simp
  | str i=>show some _=_;simp
theorem Pl.up:∀(n:Nat) (y:T),Pl n y->Pl (n+1) y
 | 0,_,h=>h.elim
 | n+1,y,h=>by
  cases y with
  | tup xs=>exact λz hz=>Pl.up n z ((h) z hz)
  | lst xs=>exact λz hz=>Pl.up n z ((h) z hz)
  | fz xs=>exact h.elim
  | _=>exact trivial
theorem Pl.le (hm:n<=m)(h:Pl n y):Pl m y:=by
 obtain⟨j,rfl⟩:∃j,m=n+j:=⟨m - n,by omega⟩
 clear hm
 induction j with
 | zero=>exact h
 | succ j ih=>exact Pl.up _ _ ih
theorem Xi (h:Pl 30 t):neC t t= .ok false:=by unfold neC;rw[Z7 30 t h];rfl
theorem Uf (h:Pl 30 t):eqC t t= .ok true:=by unfold eqC;rw[Z7 30 t h]
theorem WK {f:T->Option Bool}:∀(ts:List T),(∀t∈ts,∃b,f t=some b)->∃b,JJ f ts=some b/\(b=false->∀t∈ts,f t=some false)
 | [],_=>⟨false,rfl,λ_ _ h=>nomatch h⟩
 | t :: ts,h=>by
  obtain⟨b,hb⟩:=h t ab;obtain⟨c,hc,h'⟩:=WK ts λu hu=>h u (a8 _ hu);refine⟨b || c,by unfold JJ;rw[hb,hc],λe u hu=> ?_⟩
  rw[f7]at e;rcases ah.mp hu with rfl | hu
  ·rw[hb,e.1]
  ·exact h' e.2 u hu
theorem jt (h:f ρ= .ok t):jn f ρ= .nx ρ:=by unfold jn;rw[h,ZC]
theorem all_map (k:Kd):((rng 0 k.all.length).map λt=>match t with | .int i=>(k.all[i.toNat]?).getD .non | y=>y)=k.all:=by
 unfold rng;rw[bb];refine d6 λi=> ?_;rw[ak]
 by_cases hi:i < k.all.length
 ·rw[bN hi];show some ((k.all[((0:Int)+(i)).toNat]?).getD _)=_;rw[show ((0:Int)+(i)).toNat=i by omega]
  obtain⟨x,hx⟩:=j7 hi;rw[hx];rfl
 ·rw[aR (by simpa using hi),aR (by omega)];rfl
theorem Xj (hf:f ρ= .ok (.int j))(h: -1000000 < j/\j < 1000000):ZN f ρ= .ok (rng 0 j.toNat):=by
 unfold ZN;rw[hf];exact if_pos h
theorem vk:gtC (.int i) (.int j)= .ok (decide (j < i)):=rfl
theorem z1l (h:g ρ= .ok true):ifE g f f' ρ=f ρ:=by unfold ifE;rw[h];rfl
inductive W:Nat->T->Prop where
 | int (d:Nat) (i:Int):W d (.int i)
 | str (d:Nat) (s:Str):W d (.str s)
 | tup {d:Nat} {xs:List T} (h:xs.length<=3) (r:∀x∈xs,W d x):W (d+1) (.tup xs)
theorem z1m:∀(d:Nat) (k:Kd) (x:T),k.Ok (d+1)->k.has x=true->W d x
 | d,.whole lo hi,x,_,h=>by
  cases x <;> first | exact .int _ _ | (simp[Kd.has,inR]at h)
 | d,.pick cs,x,_,h=>by
  cases x <;> first | exact .str _ _ | (simp[Kd.has]at h)
 | 0,.row ks,x,hk,h=>by
  obtain⟨h1,h3,hk⟩:=hk
  match ks,h1,hk with
  | k :: _,_,hk=>exact(hk k ab).elim
 | 0,.many k lo hi,x,hk,h=>hk.2.2.elim
 | d+1,.row ks,x,hk,h=>by
  obtain⟨h1,h3,hk⟩:=hk;cases x with
  | tup xs=>
   rw[Kd.has]at h;simp only[ac,beq_iff_eq]at h;obtain⟨hl,hh⟩:=h;refine .tup (by omega) λx hx=> ?_
   obtain⟨k,hm,hx'⟩:=U7 ks xs hl hh x hx;exact z1m d k x (hk k hm) hx'
  | _=>simp[Kd.has]at h
 | d+1,.many k lo hi,x,hk,h=>by
  obtain⟨h1,h3,hk⟩:=hk;cases x with
  | tup xs=>
   rw[Kd.has]at h;simp only[ac,decide_eq_true_eq,aQ]at h;obtain⟨⟨hl,hl'⟩,hh⟩:=h;refine .tup (by omega) λx hx=> ?_
   exact z1m d k x hk (hh x hx)
  | _=>simp[Kd.has]at h
mutual
noncomputable def lv:T->List T
 | .tup xs=>lvs xs
 | .non=>[.non]
 | .bl b=>[.bl b]
 | .int b=>[.int b]
 | .str b=>[.str b]
 | .lst b=>[.lst b]
 | .fz b=>[.fz b]
noncomputable def lvs:List T->List T
 | []=>[]
 | x :: xs=>lv x++lvs xs
end
theorem gL (xs:List T):lv (.tup xs)=lvs xs:=by rw[lv]
theorem Ug (x:T)(xs:List T):lvs (x :: xs)=lv x++lvs xs:=by rw[lvs]
theorem Xk:lvs []=[]:=by rw[lvs]
theorem qA:∀xs:List T,(∀x∈xs,(lv x).length<=n)->(lvs xs).length<=xs.length*n
 | [],_=>by exact bg _
 | x :: xs,h=>by
  rw[Ug,aA,ar,fG];have h1:=h x ab;have h2:=qA xs λy hy=>h y (a8 _ hy);omega
theorem pow3 (d:Nat):1<=3 ^ d:=Nat.one_le_pow _ _ (by omega)
theorem Vh (h:W d x):(lv x).length<=3 ^ d:=by
 induction h with
 | int d i=>exact pow3 d
 | str d i=>exact pow3 d
 | @tup d xs h r ih=>
  rw[gL];have:=qA xs ih;have h3:=Nat.mul_le_mul_right (3 ^ d) h;omega
theorem gM (hi:ρ[i]? =some (.ow ts))(h:f ρ= .ok (.lst us))(hl:ts.length+us.length<=bnd):Q3 i f ρ= .nx (ρ.set i (.ow (ts++us))):=by
 unfold Q3;rw[hi];dsimp only;rw[h,ZC];dsimp only;rw[if_pos hl]
abbrev loB (c:List T->R T):En->RS:=Q3 1 (za 1 c (z9 (vE 2) (zj)))
theorem qB (hn:n<=1000):∀(xs:List T) (acc:List T) (x:Sl),(∀x∈xs,c [x]= .ok (.lst (lv x))/\(lv x).length<=n)->acc.length+xs.length*n<=1000000->
  ∃x',Zn (zP 2) (loB c) xs [a,.ow acc,x]= .nx [a,.ow (acc++lvs xs),x']
 | [],acc,x,_,_=>⟨x,by rw[Xk,aW];rfl⟩
 | y :: xs,acc,x,H,hb=>by
  obtain⟨e,hl⟩:=H y ab;rw[ar,fG]at hb;have hB:bnd=16777216:=rfl;obtain⟨x',h⟩:=qB hn xs (acc++lv y) _ (λz hz=>H z (a8 _ hz)) (by rw[aA];omega)
  refine⟨x', ?_⟩;have s2:zP 2 y [a,.ow acc,x]= .ok _:=rfl;have b2:loB c [a,.ow acc,.vl y]= .nx [a,.ow (acc++lv y),.vl y]:=by
   have z:za 1 c (z9 (vE 2) (zj)) [a,.ow acc,.vl y]= .ok (.lst (lv y)):=by rw[zQ,v2,bOk,e]
   exact gM rfl z (by omega)
  rw[JD s2 b2,h,Ug,bf]
theorem gN:WQ (JN (ap1 (yg "tuple") (vB 0))) (.vl x :: r)= .ok (!(match x with | .tup _=>true | _=>false)):=by
 all_goals (cases x <;> rfl)
theorem JI:∀(n d:Nat),d < n->d<=3->∀x:T,W d x->S_l n 0 [x]= .ok (.lst (lv x))
 | 0,d,h,_,_,_=>absurd h (i9 _)
 | n+1,d,h,h3,x,hx=>by
  show zy (b_l _ [.vl x,.un,.un])=_;rw[b_l];cases hx with
  | int d i=>
   rfl
  | str d i=>
   rfl
  | @tup d xs hl r=>
   have hp:3 ^ d<=27:=dg (by omega) (show d<=3 by omega)
   obtain⟨x',el⟩:=qB (by omega) xs [] .un (λy hy=>⟨JI n d (by omega) (by omega) y (r y hy),Vh (r y hy)⟩) (by have:=cD hl hp;simp;omega)
   have e1:WX 1 zj [.vl (.tup xs),.un,.un]= .nx [.vl _,.ow [],.un]:=rfl;have e2:jJ (jc (vE 0)) (zP 2) (loB (S_l n 0)) [.vl (.tup xs),.ow [],.un]= .nx [.vl (.tup xs),.ow ([]++lvs xs),x']:=by
    exact el
   rw[zd (zC gN),zd e1,zd e2,bL];rfl
theorem jU {p:T->Bool}{js:List Nat}(ts:List T)(hl:ts.length<=bnd)(H:∀t∈ts,ft ((Jb k js ρ).set 0 (.vl t))= .ok (p t)/\fe ((Jb k js ρ).set 0 (.vl t))= .ok t):zD (zP 0) ft fe k js ρ ts= .ok (ts.filter p):=by
 unfold zD;rw[if_pos hl,j3 (h:=id) ts _ λt ht=>⟨(H t ht).1,λ_=>(H t ht).2⟩,List.map_id];rfl
noncomputable def Uh:List T->List Int
 | []=>[]
 | .int i :: r=>i :: Uh r
 | .non :: r=>Uh r
 | .bl _ :: r=>Uh r
 | .str _ :: r=>Uh r
 | .tup _ :: r=>Uh r
 | .lst _ :: r=>Uh r
 | .fz _ :: r=>Uh r
theorem WL:∀ts:List T,ts.filter isW=(Uh ts).map T.int
 | []=>rfl
 | t :: ts=>by
  have ih:=WL ts;rw[List.filter_cons,ih];cases t <;> rfl
theorem uh:∀is:List Int,Zq (is.map T.int)=some is
 | []=>rfl
 | i :: is=>by
  have e:Zq ((i :: is).map T.int)=match Zq _ with | some l=>some _ | none=>none:=rfl
  rw[e,uh is]
theorem Ui:∀ts:List T,(Uh ts).length<=ts.length
 | []=>ai _
 | t :: ts=>by
  have ih:=Ui ts;cases t <;> simp only[Uh,ar] <;> omega
theorem w9 (hd:d<=2)(h:W d x):(lv x).length<=9:=aC (Vh h) (dg (by omega) hd)
theorem y9 (hd:d<=2)(h:W d x):Gv [x]= .ok (.lst ((Uh (lv x)).map T.int)):=by
 show zy _=_;have hl:=w9 hd h;have ec:zD _ (JN (za 1 f_9 (z9 (vE 0) _))) (vE 0) 1 [] [.vl x] (lv x)= .ok _:=
  jU _ (by have hB:bnd=16777216:=rfl;omega) λt _=>⟨by
   show JN _ [.vl t]=_;rw[Jx,zQ,v0,bOk,wL,bOk,YO],rfl⟩
 rw[z1a,zz]
 ·rfl
 ·show Z6 _ _ _ _ _ _ [.vl x]=_;have hv:f_l 8 [x]= .ok _:=JI 8 d (by omega) (by omega) x h
  rw[Zb,jk,zQ,v0,bOk,hv];show ((zD _ _ _ _ _ _ _).bind _)=_;rw[ec,bOk,WL]
noncomputable def asc (is:List Int):Bool:=(is.zip (is.drop 1)).all λq=>decide (q.1<=q.2)
theorem qC:∀(qs:List (Int×Int)) (x y:Sl),zG (Ze 0 1) Zi (ZL leC (vB 0) (vB 1)) (qs.map λq=>T.tup [.int q.1,.int q.2]) [x,y]= .ok (qs.map λq=>T.bl (decide (q.1<=q.2)))
 | [],_,_=>rfl
 | q :: qs,x,y=>by
  have ih:=qC qs (.vl (.int q.1)) (.vl (.int q.2));have e0:zG (Ze 0 1) Zi (ZL leC (vB 0) (vB 1)) ((q :: qs).map λq=>T.tup [.int q.1,.int q.2]) [x,y]=
   (R.ok (T.bl _)).bind λv=>(zG _ _ _ (qs.map λq=>T.tup [.int q.1,.int q.2]) [.vl _,.vl _]).bind λvs=> .ok _:=rfl
  rw[e0,bOk,ih,bOk,aI]
theorem Xl (xs:List T):cut xs (some ((1:Nat):Int)) none=xs.drop 1:=by
 unfold cut;rw[HT.sIx_nat,HT.sIx_none]
 by_cases h:1<=xs.length
 ·rw[ie h,eK (by rw[dR];omega)]
 ·have:xs=[]:=dU.mp (by omega)
  subst this;rfl
theorem qD (is:List Int)(hl:is.length<=100):z1c [.lst (is.map T.int)]= .ok (.bl (asc is)):=by
 show zy _=_;have hz:xt (vE 0) (slE (vE 0) (UD (cE (.int 1))) (noO)) [.vl (.lst (is.map T.int))]= .ok ((is.zip (is.drop 1)).map λq=>T.tup [.int q.1,.int q.2]):=by
  show R.ok (Y9 _ (cut _ (some ((1:Nat))) _))=_;rw[Xl,← List.map_drop];unfold Y9;rw[List.zip_map,bb];rfl
 have ec:zD (Ze 0 1) Zi (ZL leC (vB 0) (vB 1)) 2 [] [.vl (.lst (is.map T.int))] ((is.zip (is.drop 1)).map λq=>T.tup [.int q.1,.int q.2])= .ok ((is.zip (is.drop 1)).map λq=>T.bl (decide (q.1<=q.2))):=by
  unfold zD;rw[if_pos (by rw[ae,ib];have hB:bnd=16777216:=rfl;omega)]
  show quiet (zG _ _ _ _ [.un,.un])=_;rw[qC];rfl
 rw[z1b,zz]
 ·rfl
 ·show ap1 _ _ [.vl _]=_;rw[ZO,Zb,hz,bOk,ec,bOk];show (match Wl _ with | some k=>R.ok _ | none=> .bad)=_
  rw[wX (λq=>decide _)];rfl
theorem gP (is:List Int):xw (.lst (is.map T.int))= .ok (.int is.sum):=by
 unfold xw;dsimp only;rw[uh]
def inB (xs:List T)(x:T):Bool:=(JJ (λy=>eqF 30 y x) xs).getD false
theorem gQ (x:T)(h:∀y∈xs,Pl 30 y):JJ (λy=>eqF 30 y x) xs=some (inB xs x):=by
 obtain⟨b,e,_⟩:=WK xs λt ht=>Jj 30 t x (h t ht);unfold inB;rw[e];rfl
theorem W.pl (h:W d x):Pl (d+1) x:=by
 induction h with
 | int d i=>exact trivial
 | str d i=>exact trivial
 | @tup d xs h r ih=>exact ih
theorem W.pl30 (h:W d x)(hd:d<=2):Pl 30 x:=h.pl.le (by omega)
noncomputable def ya:T->List T
 | .tup xs=>xs
 | .non=>[.non]
 | .bl b=>[.bl b]
 | .int b=>[.int b]
 | .str b=>[.str b]
 | .lst b=>[.lst b]
 | .fz b=>[.fz b]
theorem Xm (h:W d x):Gw [x]= .ok (.tup (ya x)):=by cases h <;> rfl
theorem qE (h:W d x):(ya x).length<=3:=by
 cases h with
 | int=>exact(by decide:1<=3)
 | str=>exact(by decide:1<=3)
 | tup h _=>exact h
theorem vo (h:W d x)(hd:d<=2):∀y∈ya x,Pl 30 y:=by
 cases h with
 | int=>intro y hy;rw[aT.mp hy];exact trivial
 | str=>intro y hy;rw[aT.mp hy];exact trivial
 | @tup d xs h r=>intro y hy;exact(r y hy).pl30 (by omega)
def un (ps:List T):Bool:= !(ps.zipIdx.any λp=>inB (ps.take p.2) p.1)
theorem qG {xs:List T}{k:Nat}:slT (.tup xs) none (some (k:Int))= .ok (.tup (xs.take k)):=by
 show R.ok _=_;have:cut xs none (some (k))=xs.take k:=by
  unfold cut;rw[HT.sIx_none,HT.sIx_nat];simp only[eV,Nat.sub_zero];rw[List.take_eq_take_iff];omega
 rw[this]
theorem Xn {ps:List T}(h:∀y∈ps,Pl 30 y)(k:Nat)(x:T):inC x (.tup (ps.take k))= .ok (inB (ps.take k) x):=by
 show (match JJ (λy=>eqF 30 y x) _ with | some b=>R.ok b | none=> .bad)=_
 rw[gQ x λy hy=>h y (f8 hy)]
abbrev ulE:En->R T:=ZL inC (vB 1) (slE (vE 2) (noO) (UD (vE 0)))
theorem qH {ps:List T}(h:∀y∈ps,Pl 30 y):∀(qs:List (T×Nat)) (x y:Sl),zG (Ze 0 1) Zi ulE (qs.map λp=>T.tup [.int (p.2:Nat),p.1]) [x,y,.vl (.tup ps)]= .ok (qs.map λp=>T.bl (inB (ps.take p.2) p.1))
 | [],_,_=>rfl
 | q :: qs,x,y=>by
  have ih:=qH h qs (.vl (.int (q.2))) (.vl q.1);have e:ulE [.vl (.int (q.2)),.vl q.1,.vl (.tup ps)]= .ok (.bl (inB (ps.take q.2) q.1)):=by
   have e2:slE (vE 2) noO (UD (vE 0)) [.vl (.int (q.2)),.vl q.1,.vl (.tup ps)]=slT (.tup ps) _ _:=rfl;unfold ulE;rw[ZT,w1,bOk,e2,qG,bOk,Xn h,bOk]
  have e0:zG (Ze 0 1) Zi ulE ((q :: qs).map λp=>T.tup [.int (p.2),p.1]) [x,y,.vl (.tup ps)]=
   (ulE [.vl _,.vl q.1,.vl _]).bind λv=>(zG _ _ ulE (qs.map λp=>T.tup _) [.vl _,.vl q.1,.vl _]).bind λvs=> .ok _:=rfl
  rw[e0,e,bOk,ih,bOk,aI]
theorem WM {α:Type}(p:α->Bool):∀qs:List α,JO (qs.map λq=>T.bl (p q))=some (qs.any p)
 | []=>rfl
 | q :: qs=>by
  have e:JO ((q :: qs).map λq=>T.bl (p q))=match JO (qs.map λq=>T.bl _) with | some j=>some _ | none=>none:=rfl
  rw[e,WM p qs];rfl
theorem qJ (h:∀y∈ps,Pl 30 y)(hl:ps.length<=100):z1e [.tup ps]= .ok (.bl (un ps)):=by
 show zy _=_;have ec:zD (Ze 0 1) Zi ulE 2 [0] [.vl (.tup ps)] (jC ps)= .ok (ps.zipIdx.map λp=>T.bl (inB (ps.take p.2) p.1)):=by
  unfold zD;rw[if_pos (by unfold jC;rw[ae,fw];have hB:bnd=16777216:=rfl;omega)]
  show quiet (zG _ _ _ _ [.un,.un,.vl _])=_;unfold jC;rw[qH h];rfl
 rw[z1d,zz]
 ·rfl
 ·have e1:Z6 (uK (vE 0)) (Ze 0 1) Zi ulE 2 [0] [.vl (.tup ps)]= .ok (.lst (ps.zipIdx.map λp=>T.bl (inB (ps.take p.2) p.1))):=by
   show ((R.ok _).bind _)=_;rw[bOk,ec,bOk]
  have e2:ap1 z0T (Z6 (uK (vE 0)) (Ze 0 1) Zi ulE 2 [0]) [.vl (.tup ps)]= .ok (.bl (ps.zipIdx.any λp=>inB (ps.take p.2) p.1)):=by
   rw[ZO,e1];show (match JO _ with | some k=>R.ok _ | none=> .bad)=_
   rw[WM (λp:T×Nat=>inB _ p.1)]
  show Qu _ [.vl _]=_;unfold Qu;rw[e2];rfl
noncomputable def z1n (w:Str):T->Bool
 | .str x=>x == w
 | _=>false
theorem z1o (w:Str)(n:Nat):∀t:T,eqF n t (.str w)=some (z1n w t)
 | .str x=>by cases n <;> rfl
 | .non=>by cases n <;> rfl
 | .bl _=>by cases n <;> rfl
 | .int _=>by cases n <;> rfl
 | .tup _=>by cases n <;> rfl
 | .lst _=>by cases n <;> rfl
 | .fz _=>by cases n <;> rfl
theorem qK (w:Str):∀ts:List T,JJ (λy=>eqF 30 y (.str w)) ts=some (ts.any (z1n w))
 | []=>rfl
 | t :: ts=>by
  have e:JJ (λy=>eqF 30 y (.str w)) (t :: ts)=match eqF 30 t _ with
   | none=>none
   | some b=>match JJ (λy=>eqF 30 y _) ts with
    | none=>none
    | some d=>some _:=rfl
  rw[e,z1o,qK w ts];rfl
inductive Ru where
 | sum (a b:Int) | size (a b:Int) | word (w:Str) | rising | unlike | no (r:Ru) | all (r s:Ru) | some (r s:Ru)
def Ru.t:Ru->T
 | .sum a b=> .tup [.str "sum",.int a,.int b]
 | .size a b=> .tup [.str "size",.int a,.int b]
 | .word w=> .tup [.str "word",.str w]
 | .rising=> .tup [.str "rising"]
 | .unlike=> .tup [.str "unlike"]
 | .no r=> .tup [.str "no",r.t]
 | .all r s=> .tup [.str "all",r.t,s.t]
 | .some r s=> .tup [.str "some",r.t,s.t]
inductive jl:Nat->Ru->Prop where
 | sum {d:Nat} {a b:Int} (ha: -50<=a/\a<=50) (hb: -50<=b/\b<=50):jl (d+1) (.sum a b)
 | size {d:Nat} {a b:Int} (ha: -50<=a/\a<=50) (hb: -50<=b/\b<=50):jl (d+1) (.size a b)
 | word {d:Nat} {w:Str} (h:Zr (.str w)=true):jl (d+1) (.word w)
 | rising {d:Nat}:jl (d+1) .rising
 | unlike {d:Nat}:jl (d+1) .unlike
 | no {d:Nat} {r:Ru} (h:jl d r):jl (d+1) (.no r)
 | all {d:Nat} {r s:Ru} (h:jl d r) (h' :jl d s):jl (d+1) (.all r s)
 | some {d:Nat} {r s:Ru} (h:jl d r) (h' :jl d s):jl (d+1) (.some r s)
theorem jl.up (h:jl d r):jl (d+1) r:=by
 induction h with
 | sum ha hb=>exact .sum ha hb
 | size ha hb=>exact .size ha hb
 | word h=>exact .word h
 | rising=>exact .rising
 | unlike=>exact .unlike
 | no h ih=>exact .no ih
 | all h h' ih ih' =>exact .all ih ih'
 | some h h' ih ih' =>exact .some ih ih'
def kp:Ru->T->Bool
 | .sum a b,x=>decide (a<=(Uh (lv x)).sum) && decide ((Uh (lv x)).sum<=b)
 | .size a b,x=>decide (a<=((ya x).length:Int)) && decide (((ya x).length:Int)<=b)
 | .word w,x=>(lv x).any (z1n w)
 | .rising,x=>asc (Uh (lv x))
 | .unlike,x=>un (ya x)
 | .no r,x=> !kp r x
 | .all r s,x=>kp r x && kp s x
 | .some r s,x=>kp r x || kp s x
theorem Jk (h: -50<=i/\i<=50):Gu [.int i]= .ok (.bl true):=by
 show zy _=_;rw[z19,zz]
 ·rfl
 ·show ZM _ _ [.vl _]=_;rw[jF,zQ,v0,bOk,YL,V8,zZ,bOk];rw[bOk,w0,bOk,wN,decide_eq_true h.1,bOk,bOk,wN,decide_eq_true h.2];rfl
theorem Zx (b:Bool)(h:(x == w)=b):zL eqC (zb ixT (vE 0) (cE (.int 0))) (cE (.str w)) (.vl (.tup (.str x :: r)) :: ρ)= .ok b:=by rw[cs0,h]
theorem yb (h:f ρ= .ok false)(h' :g ρ= .ok b):orT f g ρ= .ok b:=by rw[YN,h,bOk,if_neg aH,h']
theorem or_t (h:f ρ= .ok true):orT f g ρ= .ok true:=by rw[YN,h,bOk,if_pos rfl]
theorem JQ (h:f ρ= .ok (.bl true))(h' :g ρ=r):ZM f g ρ=r:=by rw[jF,h,Zu,if_pos rfl,h']
theorem Vi (h:((xs.length:Int) == n)=true):ZL eqC (ap1 Zw (vB 0)) (cE (.int n)) (.vl (.tup xs) :: ρ)= .ok (.bl true):=by
 rw[ZT,ZO,w0,bOk,wO,bOk,zZ,bOk,eqI,h,bOk]
theorem j8:orT (zL eqC (vB 1) (cE (.int 0))) (orT (WQ (JN (ap1 (yg "tuple") (vB 0)))) (zL eqC (ap1 Zw (vB 0)) (cE (.int 0)))) (en2 (.tup (x :: xs)) (.int ((d+1:Nat):Int)))= .ok false:=by
 refine yb ?_ (yb ?_ ?_)
 ·rw[zU,w1,bOk,zZ,bOk,eqI,beq_eq_false_iff_ne.mpr (by omega)]
 ·rfl
 ·rw[zU,ZO,w0,bOk,wO,bOk,zZ,bOk,eqI,beq_eq_false_iff_ne.mpr (by rw[ar];omega)]
theorem vp (h:Zr (.str w)=true):X1 (.str w):=by
 have h:(decide _ && decide _ && w.cps.toList.all _)=true:=h;simp only[ac,decide_eq_true_eq]at h;exact aC h.1.2 (by decide)
theorem jV:∀(n d:Nat),d<=n->∀r:Ru,jl d r->S_n n 0 [r.t,.int (d:Int)]= .ok (.bl true)
 | 0,d,h,r,hr=>by
  have:d=0:=by omega
  subst this;cases hr
 | n+1,d,h,r,hr=>by
  show zy (b_n f_q (S_n n 0) Gu (en2 r.t (.int (d:Int))))=_;rw[b_n];cases hr with
  | @sum d a b ha hb=>
   rw[Ru.t,zd (zC j8),zI (t:= .bl true)]
   ·rfl
   ·exact zz (JQ (Vi rfl) (JQ (by show za 1 _ _ (en2 _ _)=_;rw[zQ,Jh,bOk,Jk ha]) (by show za 1 _ _ (en2 _ _)=_;rw[zQ,ue,bOk,Jk hb])))
  | @size d a b ha hb=>
   rw[Ru.t,zd (zC j8),zI (t:= .bl true)]
   ·rfl
   ·exact zz (JQ (Vi rfl) (JQ (by show za 1 _ _ (en2 _ _)=_;rw[zQ,Jh,bOk,Jk ha]) (by show za 1 _ _ (en2 _ _)=_;rw[zQ,ue,bOk,Jk hb])))
  | @word d w hw=>
   rw[Ru.t,zd (zC j8),zd (zC (yb (Zx false (by decide)) (Zx false (by decide)))),zI (t:= .bl true)]
   ·rfl
   ·exact zz (JQ (Vi rfl) (by show za 1 _ _ (en2 _ _)=_;rw[zQ,Jh,bOk,YK _ (vp hw),hw]))
  | rising=>
   rw[Ru.t,zd (zC j8),zd (zC (yb (Zx false (by decide)) (Zx false (by decide)))),zd (zC (Zx false (by decide))),zI (t:= .bl true)]
   ·rfl
   ·rw[JP (or_t (Zx true (by decide)))]
    exact zz (Vi rfl)
  | unlike=>
   rw[Ru.t,zd (zC j8),zd (zC (yb (Zx false (by decide)) (Zx false (by decide)))),zd (zC (Zx false (by decide))),zI (t:= .bl true)]
   ·rfl
   ·rw[JP (yb (Zx false (by decide)) (Zx true (by decide)))]
    exact zz (Vi rfl)
  | @no d r hr=>
   have ih:=jV n d (by omega) r hr
   rw[Ru.t,zd (zC j8),zd (zC (yb (Zx false (by decide)) (Zx false (by decide)))),zd (zC (Zx false (by decide))),zd (zC (yb (Zx false (by decide)) (Zx false (by decide)))),zI (t:= .bl true)]
   ·rfl
   ·rw[JP (Zx true (by decide))]
    exact zz (JQ (Vi rfl) (by show za 2 _ _ (en2 _ _)=_;rw[zS,Jh,bOk,zv,v1,bOk,zZ,bOk,Zk,bOk,show ((d+1:Nat)) - 1=(d:Int) by omega,ih]))
  | @all d r s hr hs=>
   have ih:=jV n d (by omega) r hr
   have ih' :=jV n d (by omega) s hs
   rw[Ru.t,zd (zC j8),zd (zC (yb (Zx false (by decide)) (Zx false (by decide)))),zd (zC (Zx false (by decide))),zd (zC (yb (Zx false (by decide)) (Zx false (by decide)))),zd (zC (Zx false (by decide))),zI (t:= .bl true)]
   ·rfl
   ·exact zz (JQ (Vi rfl) (JQ (by show za 2 _ _ (en2 _ _)=_;rw[zS,Jh,bOk,zv,v1,bOk,zZ,bOk,Zk,bOk,show ((d+1:Nat):Int) - 1=(d) by omega,ih]) (by show za 2 _ _ (en2 _ _)=_;rw[zS,ue,bOk,zv,v1,bOk,zZ,bOk,Zk,bOk,show ((d+1:Nat):Int) - 1=(d) by omega,ih'])))
  | @some d r s hr hs=>
   have ih:=jV n d (by omega) r hr
   have ih' :=jV n d (by omega) s hs
   rw[Ru.t,zd (zC j8),zd (zC (yb (Zx _ (by decide)) (Zx _ (by decide)))),zd (zC (Zx _ (by decide))),zd (zC (yb (Zx _ (by decide)) (Zx _ (by decide)))),zd (zC (Zx _ (by decide))),zI]
   ·rfl
   ·exact zz (JQ (Vi rfl) (JQ (by show za 2 _ _ (en2 _ _)=_;rw[zS,Jh,bOk,zv,v1,bOk,zZ,bOk,Zk,bOk,show ((d+1:Nat):Int) - 1=(d) by omega,ih]) (by show za 2 _ _ (en2 _ _)=_;rw[zS,ue,bOk,zv,v1,bOk,zZ,bOk,Zk,bOk,show ((d+1:Nat):Int) - 1=(d) by omega,ih'])))
theorem gR (hf:f ρ= .ok (.int i))(hg:g ρ= .ok (.int j))(hh:h ρ= .ok (.int k)):chE leC leC f g h ρ= .ok (.bl (decide (i<=j) && decide (j<=k))):=by
 rw[YL,hf,bOk,hg,bOk,wN,bOk];cases decide (i<=j) with
 | true=>rw[if_pos rfl,hh,bOk,wN,bOk,fj]
 | false=>rw[if_neg aH,Bool.false_and]
theorem qL (hd:d<=2)(h:W d x)(b:Bool)(hr:(match r with | .no _=>False | .all _ _=>False | .some _ _=>False | _=>True)):KY [r.t,x]= .ok (.bl (kp r x)):=by
 have hn:=y9 hd h;have hp:=Xm h;have hv:f_l 8 [x]= .ok (.lst (lv x)):=JI 8 d (by omega) (by omega) x h
 have hi:=aC (Ui _) (w9 hd h);show zy (Gx Gw (f_l 8) Gv _ _ (en2 r.t x))=_;rw[Gx];cases r with
 | sum a b=>
  rw[zI]
  ·rfl
  ·refine zz ?_;show chE _ _ _ _ _ (en2 _ x)=_;exact gR Jh (by rw[ZO,zQ,v1,bOk,hn,bOk,gP]) ue
 | size a b=>
  rw[Ru.t,zd (zC (Zx _ (by decide))),zI]
  ·rfl
  ·rw[JP (Zx _ (by decide))]
   refine zz ?_;show chE _ _ _ _ _ (en2 _ x)=_;exact gR Jh (by rw[ZO,zQ,v1,bOk,hp,bOk,wO]) ue
 | word w=>
  rw[Ru.t,zd (zC (Zx false (by decide))),zd (zC (Zx false (by decide))),zI]
  ·rfl
  ·rw[JP (Zx true (by decide))]
   refine zz ?_;show ZL _ _ _ (en2 _ x)=_;rw[ZT,Jh,bOk,zQ,v1,bOk,hv];show ((match JJ (λy=>eqF 30 y (.str w)) (lv x) with | some b=>R.ok b | none=> .bad).bind _)=_
   rw[qK];rfl
 | rising=>
  rw[Ru.t,zd (zC (Zx false (by decide))),zd (zC (Zx _ (by decide))),zd (zC (Zx _ (by decide))),zI (t:= .bl (kp _ x))]
  ·rfl
  ·rw[JP (Zx true (by decide))]
   refine zz ?_;show za 1 _ _ (en2 _ x)=_;rw[zQ,zQ,v1,bOk,hn,bOk,qD _ (by omega)]
   rfl
 | unlike=>
  rw[Ru.t,zd (zC (Zx false (by decide))),zd (zC (Zx _ (by decide))),zd (zC (Zx false (by decide))),zd (zC (Zx _ (by decide))),zz]
  ·rfl
  ·show za 1 _ _ (en2 _ x)=_;rw[zQ,zQ,v1,bOk,hp,bOk,qJ (vo h hd) (aC (qE h) (by omega))]
   rfl
 | no=>exact hr.elim
 | all=>exact hr.elim
 | some=>exact hr.elim
theorem Xo (h:f ρ= .ok (.bl b)):Qu f ρ= .ok (.bl (!b)):=by unfold Qu;rw[h];rfl
theorem Xp (h:f ρ= .ok (.bl a))(h' :g ρ= .ok (.bl b)):ZM f g ρ= .ok (.bl (a && b)):=by
 rw[jF,h,h'];cases a <;> rfl
theorem gS (h:f ρ= .ok (.bl a))(h' :g ρ= .ok (.bl b)):orE f g ρ= .ok (.bl (a || b)):=by
 unfold orE;rw[h];cases a with
 | true=>rfl
 | false=>exact h'
theorem jW (he:e<=2)(hx:W e x):∀(n d:Nat),d<=n->∀r:Ru,jl d r->S_d n 0 [r.t,x]= .ok (.bl (kp r x))
 | 0,d,h,r,hr=>by
  have:d=0:=by omega
  subst this;cases hr
 | n+1,d,h,r,hr=>by
  show zy (b_d (S_d n 0) KY (en2 r.t x))=_;rw[b_d];have fin:∀(r:Ru) (s:Str) (q:List T),r.t= .tup (.str s :: q)->(s == "no")=false->(s == "all")=false->(s == "some")=false->(match r with | .no _=>False | .all _ _=>False | .some _ _=>False | _=>True)->
    zy (zA (ifS (zL eqC (zb ixT (vE 0) (cE (.int 0))) (cE (.str "no"))) (zF (Qu (za 2 (S_d n 0) (z9 (zb ixT (vE 0) (cE (.int 1))) (z9 (vE 1) (zj)))))) (nxS))
  (zA (ifS (zL eqC (zb ixT (vE 0) (cE (.int 0))) (cE (.str "all"))) (zF (ZM (za 2 (S_d n 0) (z9 (zb ixT (vE 0) (cE (.int 1))) (z9 (vE 1) (zj)))) (za 2 (S_d n 0) (z9 (zb ixT (vE 0) (cE (.int 2))) (z9 (vE 1) (zj)))))) (nxS))
  (zA (ifS (zL eqC (zb ixT (vE 0) (cE (.int 0))) (cE (.str "some"))) (zF (orE (za 2 (S_d n 0) (z9 (zb ixT (vE 0) (cE (.int 1))) (z9 (vE 1) (zj)))) (za 2 (S_d n 0) (z9 (zb ixT (vE 0) (cE (.int 2))) (z9 (vE 1) (zj)))))) (nxS))
  (zF (za 2 KY (z9 (vE 0) (z9 (vE 1) (zj))))))) (en2 r.t x))= .ok (.bl (kp r x)):=by
   intro r s q e h1 h2 h3 hm;have hs:=qL he hx true hm;rw[e]at hs ⊢;rw[zd (zC (Zx _ h1)),zd (zC (Zx false h2)),zd (zC (Zx _ h3)),zz]
   ·rfl
   ·show za 2 _ _ (en2 _ x)=_;rw[zS,v0,bOk,v1,bOk,hs]
  cases hr with
  | @sum d a b ha hb=>exact fin (.sum a b) "sum" _ rfl (by decide) (by decide) (by decide) trivial
  | @size d a b ha hb=>exact fin _ "size" _ rfl (by decide) (by decide) (by decide) trivial
  | @word d w hw=>exact fin _ _ _ rfl (by decide) (by decide) (by decide) trivial
  | rising=>exact fin .rising _ _ rfl (by decide) (by decide) (by decide) trivial
  | unlike=>exact fin .unlike _ _ rfl (by decide) (by decide) (by decide) trivial
  | @no d r hr=>
   have ih:=jW he hx n d (by omega) r hr
   rw[Ru.t,zI]
   ·rfl
   ·exact zz (Xo (by show za 2 _ _ (en2 _ x)=_;rw[zS,Jh,bOk,v1,bOk,ih]))
  | @all d r s hr hs=>
   have ih:=jW he hx n d (by omega) r hr
   have ih' :=jW he hx n d (by omega) s hs
   rw[Ru.t,zd (zC (Zx _ (by decide))),zI]
   ·rfl
   ·exact zz (Xp (by show za 2 _ _ (en2 _ x)=_;rw[zS,Jh,bOk,v1,bOk,ih]) (by show za 2 _ _ (en2 _ x)=_;rw[zS,ue,bOk,v1,bOk,ih']))
  | @some d r s hr hs=>
   have ih:=jW he hx n d (by omega) r hr
   have ih' :=jW he hx n d (by omega) s hs
   rw[Ru.t,zd (zC (Zx _ (by decide))),zd (zC (Zx _ (by decide))),zI]
   ·rfl
   ·exact zz (gS (by show za 2 _ _ (en2 _ x)=_;rw[zS,Jh,bOk,v1,bOk,ih]) (by show za 2 _ _ (en2 _ x)=_;rw[zS,ue,bOk,v1,bOk,ih']))
abbrev lr (ns:List Int)(k:Int)(d:Nat)(p:Int)(a b:Sl):En:=[.vl (scr ns),.vl (.int k),.vl (.int (d:Int)),.vl (.int p),a,b]
theorem qN (h:f_5 [scr ns,.int (k+j),.int m]= .ok (.int q)):za 3 f_5 (z9 (vE 0) (z9 (zb zE (vE 1) (cE (.int j))) (z9 (cE (.int m)) (zj)))) (lr ns k d p a b)= .ok (.int q):=by
 rw[Zj,v0,bOk,zv,v1,bOk,zZ,bOk,Z3,bOk,zZ,bOk,h]
theorem W1 (ns:List Int):∀(n d:Nat),d<=n->1<=d->∀k:Int,0<=k->∃r:Ru,S_m n 0 [scr ns,.int k,.int (d:Int)]= .ok r.t/\jl d r
 | 0,d,h,h1,k,hk=>by omega
 | n+1,d,h,h1,k,hk=>by
  obtain⟨p,hp,p0,p9⟩:=zT ns k 9 hk (by omega)
  have e1:zV 3 (za 3 f_5 (z9 (vE 0) (z9 (vE 1) (z9 (cE (.int 9)) (zj))))) [.vl (scr ns),.vl (.int k),.vl (.int (d:Int)),.un,.un,.un]= .nx (lr ns k d p .un .un):=by
   rw[zX (t:= .int p)]
   ·rfl
   ·rw[Zj,v0,bOk,v1,bOk,zZ,bOk,hp]
  have e:S_m (n+1) 0 [scr ns,.int k,.int (d:Int)]=zy (b_m f_5 (S_m n 0) [.vl (scr ns),.vl (.int k),.vl (.int (d:Int)),.un,.un,.un]):=rfl;rw[e,b_m,zd e1];have et:kI (zL gtC (vB 2) (cE (.int 1))) (zL gtC (vB 3) (cE (.int 5))) (lr ns k d p .un .un)= .ok (decide (1 < d) && decide (5 < p)):=by
   rw[X3,zU,w2,bOk,zZ,bOk,vk,bOk,show decide ((1:Int) < (d:Int))=decide (1 < d) by rw[ig,decide_eq_true_eq,decide_eq_true_eq];omega]
   cases decide (1 < d) with
   | true=>rw[if_pos rfl,zU,w3,bOk,zZ,bOk,vk,fj]
   | false=>rfl
  by_cases hb:1 < d/\5 < p
  ·rw[decide_eq_true hb.1,decide_eq_true hb.2]at et;obtain⟨d,rfl⟩:∃d',d=d' +1:=⟨d - 1,by omega⟩
   obtain⟨r1,hr1,o1⟩:=W1 ns n d (by omega) (by omega) (2*k+11) (by omega)
   obtain⟨r2,hr2,o2⟩:=W1 ns n d (by omega) (by omega) (2*k+24) (by omega)
   have m2:Z4 (.int 2) (.int k)= .ok (.int (2*k)):=YT _ _ (.inl ⟨by decide,by decide⟩)
   have e2:zV 4 (za 3 (S_m n 0) (z9 (vE 0) (z9 (zb zE (zb Z4 (cE (.int 2)) (vE 1)) (cE (.int 11))) (z9 (zb ju (vE 2) (cE (.int 1))) (zj))))) (lr ns k (d+1) p .un .un)= .nx (lr ns k (d+1) p (.vl r1.t) .un):=by
    rw[zX (t:=r1.t)]
    ·rfl
    ·rw[Zj,v0,bOk,zv,zv,zZ,bOk,v1,bOk,m2,bOk,zZ,bOk,Z3,bOk,zv,v2,bOk,zZ,bOk,Zk,bOk,show ((d+1:Nat):Int) - 1=(d:Int) by omega,hr1]
   have c2:za 3 (S_m n 0) (z9 (vE 0) (z9 (zb zE (zb Z4 (cE (.int 2)) (vE 1)) (cE (.int 24))) (z9 (zb ju (vE 2) (cE (.int 1))) (zj)))) (lr ns k (d+1) p (.vl r1.t) .un)= .ok r2.t:=by
    rw[Zj,v0,bOk,zv,zv,zZ,bOk,v1,bOk,m2,bOk,zZ,bOk,Z3,bOk,zv,v2,bOk,zZ,bOk,Zk,bOk,show ((d+1:Nat):Int) - 1=(d:Int) by omega,hr2]
   by_cases h6:p=6
   ·subst h6;refine⟨.no r1, ?_,.no o1⟩;rw[zI (t:=(Ru.no r1).t)]
    ·rfl
    ·rw[JP et,zd e2,zI (t:=(Ru.no r1).t)];rw[JP rfl,Ru.t];exact zz (Q9 rfl rfl)
   ·have h6' :zL eqC (vB 3) (cE (.int 6)) (lr ns k (d+1) p (.vl r1.t) .un)= .ok false:=by
     rw[zU,w3,bOk,zZ,bOk,eqI,beq_eq_false_iff_ne.mpr h6]
    by_cases h7:p=7
    ·subst h7;refine⟨.all r1 r2, ?_,.all o1 o2⟩;rw[zI (t:=(Ru.all r1 r2).t)]
     ·rfl
     ·rw[JP et,zd e2,zd (zC h6'),Ru.t];exact zz (gu rfl rfl c2)
    ·have h8:p=8:=by omega
     subst h8;refine⟨.some r1 r2, ?_,.some o1 o2⟩;rw[zI (t:=(Ru.some r1 r2).t)]
     ·rfl
     ·rw[JP et,zd e2,zd (zC h6'),Ru.t];exact zz (gu rfl rfl c2)
  ·have et:kI (zL gtC (vB 2) (cE (.int 1))) (zL gtC (vB 3) (cE (.int 5))) (lr ns k d p .un .un)= .ok false:=by
    rw[et];congr 1
    rw[Bool.and_eq_false_iff,decide_eq_false_iff_not,decide_eq_false_iff_not];omega
   obtain⟨d,rfl⟩:∃d',d=d' +1:=⟨d - 1,by omega⟩
   obtain⟨q,hq,q0,q9⟩:=zT ns (k+1) 9 (by omega) (by omega)
   have e2:zV 5 (zb ju (za 3 f_5 (z9 (vE 0) (z9 (zb zE (vE 1) (cE (.int 1))) (z9 (cE (.int 9)) (zj))))) (cE (.int 4))) (lr ns k (d+1) p .un .un)= .nx (lr ns k (d+1) p .un (.vl (.int (q - 4)))):=by
    rw[zX (t:= .int (q - 4))]
    ·rfl
    ·rw[zv,qN hq,bOk,zZ,bOk,Zk]
   rw[zd (zC et),zd e2];have hm:∃m:Nat,m < 6/\zb jP (vE 3) (cE (.int 6)) (lr ns k (d+1) p .un (.vl (.int (q - 4))))= .ok (.int (m:Int)):=by
    obtain⟨w,rfl⟩:=c9 p0;exact⟨w % 6,ip _ (by omega),by rw[zv,v3,bOk,zZ,bOk];exact Vf (c:=6) (by omega)⟩
   obtain⟨m,m6,hm⟩:=hm;have t2:zL ltC (zb jP (vE 3) (cE (.int 6))) (cE (.int 2)) (lr ns k (d+1) p .un (.vl (.int (q - 4))))= .ok (decide (m < 2)):=by
    rw[zU,hm,bOk,zZ,bOk,ltI];congr 1;rw[ig,decide_eq_true_eq,decide_eq_true_eq];omega
   have tk:∀j:Nat,zL eqC (zb jP (vE 3) (cE (.int 6))) (cE (.int (j:Int))) (lr ns k (d+1) p .un (.vl (.int (q - 4))))= .ok (m == j):=λj=>by
    rw[zU,hm,bOk,zZ,bOk,eqI,qb]
   have tk2:zL eqC (zb jP (vE 3) (cE (.int 6))) (cE (.int 2)) (lr ns k (d+1) p .un (.vl (.int (q - 4))))= .ok (m == 2):=tk 2;have tk3:zL eqC (zb jP (vE 3) (cE (.int 6))) (cE (.int 3)) (lr ns k (d+1) p .un (.vl (.int (q - 4))))= .ok (m == 3):=tk 3;have tk4:zL eqC (zb jP (vE 3) (cE (.int 6))) (cE (.int 4)) (lr ns k (d+1) p .un (.vl (.int (q - 4))))= .ok (m == 4):=tk 4
   by_cases h2:m < 2
   ·obtain⟨u,hu,u0,u5⟩:=zT ns (k+2) 5 (by omega) (by omega)
    refine⟨.sum (q - 4) (q - 4+u - 1), ?_,.sum ⟨by omega,by omega⟩ ⟨by omega,by omega⟩⟩
    rw[zI (t:=(Ru.sum (q - 4) (q - 4+u - 1)).t)]
    ·rfl
    ·rw[JP (by rw[t2,decide_eq_true h2]),Ru.t]
     refine zz (gu rfl rfl ?_);show zb ju _ _ (lr ns k (d+1) p .un (.vl (.int (q - 4))))=_;rw[zv,zv,qN hu,show vE 5 (lr ns k (d+1) p .un (.vl (.int (q - 4))))= .ok (.int (q - 4)) from rfl,bOk,bOk,Z3,bOk,zZ,bOk,Zk]
   rw[zd (zC (by rw[t2,decide_eq_false h2]))]
   by_cases h3:m=2
   ·subst h3;obtain⟨q',hq',q'0,q'3⟩:=zT ns (k+1) 3 (by omega) (by omega)
    obtain⟨u,hu,u0,u4⟩:=zT ns (k+2) 4 (by omega) (by omega)
    refine⟨.size q' u, ?_,.size ⟨by omega,by omega⟩ ⟨by omega,by omega⟩⟩
    rw[zI (t:=(Ru.size q' u).t)]
    ·rfl
    ·rw[JP tk2,Ru.t];exact zz (gu rfl (qN hq') (qN hu))
   rw[zd (zC (by rw[tk2,beq_eq_false_iff_ne.mpr h3]))]
   by_cases h4:m=3
   ·subst h4;obtain⟨q',hq',q'0,q'3⟩:=zT ns (k+1) 4 (by omega) (by omega)
    have hw:∃w:Str,Zr (.str w)=true/\ixT (.lst [.str "a",.str "b",.str "ab",.str "zz"]) (.int q')= .ok (.str w):=by
     have hq4:q' =0\/q' =1\/q' =2\/q' =3:=by omega
     rcases hq4 with rfl | rfl | rfl | rfl
     ·exact⟨"a",by decide,rfl⟩
     ·exact⟨"b",by decide,rfl⟩
     ·exact⟨"ab",by decide,rfl⟩
     ·exact⟨"zz",by decide,rfl⟩
    obtain⟨w,hw,hx⟩:=hw;refine⟨.word w, ?_,.word hw⟩;rw[zI (t:=(Ru.word w).t)]
    ·rfl
    ·rw[JP tk3,Ru.t];refine zz (Q9 rfl ?_);show zb ixT _ _ (lr ns k (d+1) p .un (.vl (.int (q - 4))))=_;rw[zv,qN hq'];exact hx
   rw[zd (zC (by rw[tk3,beq_eq_false_iff_ne.mpr h4]))]
   by_cases h5:m=4
   ·subst h5;refine⟨.rising, ?_,.rising⟩;rw[zz (t:=Ru.rising.t)]
    ·rfl
    ·show ifE _ _ _ (lr ns k (d+1) p .un (.vl (.int (q - 4))))=_;unfold ifE;rw[tk4,bOk];rfl
   ·refine⟨.unlike, ?_,.unlike⟩;rw[zz (t:=Ru.unlike.t)]
    ·rfl
    ·show ifE _ _ _ (lr ns k (d+1) p .un (.vl (.int (q - 4))))=_;unfold ifE;rw[tk4,bOk,beq_eq_false_iff_ne.mpr h5];rfl
theorem Xq {k:Kd}(hk:k.Ok 3){x:T}(hx:x∈k.all):W 2 x:=z1m 2 k x hk ((JF k x).mp hx)
theorem wo {x:T}(hx:W 2 x){r:Ru}(hr:jl 3 r):f_d 8 [r.t,x]= .ok (.bl (kp r x)):=jW (by omega) hx 8 3 (by omega) r hr
theorem qQ {k:Kd}(hk:k.Ok 3):f_p [k.t]= .ok .non:=by
 have hi:=qk 3 k hk;show zy (b_p f_2 [.vl k.t])=_;rw[b_p,zC]
 ·rfl
 ·show WQ (JN (za 1 f_2 (z9 (vE 0) zj))) [.vl k.t]=_;rw[Wv,Jx,zQ,v0,bOk,UU _ (wR 3 _ hi).so,hi];rfl
theorem jH {k:Kd}(hk:k.Ok 3)(h5:k.all.length<=500):f_o [k.t]= .ok (.lst k.all):=by
 show zy (b_o f_p (f_1 20) (f_4 20) [.vl k.t,.un])=_;have e1:zV 1 (za 1 (f_1 20) (z9 (vE 0) (zj))) [.vl k.t,.un]= .nx (en2 k.t (.int (k.all.length:Int))):=by
  rw[zX (t:= .int (k.all.length:Int))]
  ·rfl
  ·rw[zQ,v0,bOk,je (by omega) hk]
 have e2:zL gtC (vB 1) (cE (.int 500)) (en2 k.t (.int (k.all.length:Int)))= .ok false:=by
  rw[zU,w1,bOk,zZ,bOk,vk,decide_eq_false (by omega)]
 have er:ZN (vE 1) (en2 k.t (.int (k.all.length:Int)))= .ok (rng 0 k.all.length):=by
  rw[Xj (j:=(k.all.length:Int)) rfl ⟨by omega,by omega⟩,bw]
 have ec:zD (zP 0) Zi (za 2 (f_4 20) (z9 (vE 1) (z9 (vE 0) (zj)))) 1 [0] (en2 k.t (.int (k.all.length:Int))) (rng 0 k.all.length)= .ok ((rng 0 k.all.length).map λt=>match t with | .int i=>(k.all[i.toNat]?).getD .non | y=>y):=
  Z2 _ (by unfold rng;rw[ae,bx];have:bnd=16777216:=rfl;omega) λt ht=>by
   unfold rng at ht;obtain⟨i,hi,rfl⟩:=aN.mp ht;obtain⟨x,hx⟩:=j7 (bo.mp hi);show za 2 _ _ (en2 (.int ((0:Int)+(i:Int))) k.t)=R.ok ((k.all[((0:Int)+(i:Int)).toNat]?).getD .non);rw[show ((0:Int)+(i:Int))=(i:Int) by omega,zS,v1,bOk,v0,bOk,Vg hk hx,bw,hx]
   rfl
 have e3:vQ (ZN (vE 1)) (zP 0) (Zi) (za 2 (f_4 20) (z9 (vE 1) (z9 (vE 0) (zj)))) 1 [0] (en2 k.t (.int (k.all.length:Int)))= .rf k.all:=by
  show ((ZN (vE 1) (en2 k.t (.int (k.all.length:Int)))).s λts=>(zD _ _ _ _ _ (en2 k.t (.int (k.all.length:Int))) ts).s λvs=>RS.rf vs)=_;rw[er,ZC,ec,ZC];exact congrArg RS.rf (all_map k)
 rw[b_o,zd (jt (t:= .non) (by rw[zQ,v0,bOk,qQ hk])),zd e1,zd (zC e2),e3]
 rfl
theorem J9 {r:Ru}(h:jl 3 r):f_c [r.t]= .ok .non:=by
 show zy (b_c f_b [.vl r.t])=_;rw[b_c,zC]
 ·rfl
 ·have e:f_b [r.t]= .ok (.bl true):=by
   show zy (zF (za 2 (f_n 8) (z9 (vE 0) (z9 (cE (.int 3)) zj))) [.vl r.t])=_;rw[zz (t:= .bl true)]
   ·rfl
   ·show za 2 _ _ [.vl r.t]=_;rw[zS,v0,bOk,zZ,bOk];exact jV 8 3 (by omega) r h
  rw[Wv,Jx,zQ,v0,bOk,e];rfl
theorem ui {f:En->R T}{ρ:En}:zy (zF f ρ)=f (frz ρ):=by rw[Zh,J6]
theorem ix0 {i:Nat}{a b:T}{ρ:En}(h:vE i ρ= .ok (.tup [a,b])):zb ixT (vE i) (cE (.int 0)) ρ= .ok a:=by rw[zv,h,bOk,zZ,bOk,at0]
theorem ix1 {i:Nat}{a b:T}{ρ:En}(h:vE i ρ= .ok (.tup [a,b])):zb ixT (vE i) (cE (.int 1)) ρ= .ok b:=by rw[zv,h,bOk,zZ,bOk,at1]
noncomputable abbrev sv (t:T)(rs ds us:List T):List (Str×Fd):=[("kind",.tv t),("remaining",.tl rs),("done",.tl ds),("undone",.tl us)]
noncomputable abbrev Rem (fs:List (Str×Fd))(rs:List T):Prop:=fs.lookup ("remaining":Str)=some (.tl rs)
theorem qR {rs:List T}{w:T}:atT (rs++[w]) (-1)= .ok w:=by
 have:atI (rs++[w]) (-1)=some w:=by
  unfold atI ixN;have hl:(rs++[w]).length=rs.length+1:=by simp
  rw[if_neg (by decide),if_pos (by omega),hl,show ((-1:Int)+((rs.length+1:Nat):Int)).toNat=rs.length by omega]
  show (rs++[w])[rs.length]? =some w;rw[au (ai _),dr];rfl
 unfold atT;rw[this]
theorem ix_l {j:Nat}{fs:List (Str×Fd)}{w:T}{rs:List T}{ρ:En}{os:List Ob}(h:obD 101 0 j ρ=some (0,fs,os))(hl:Rem fs (rs++[w])):ixF 101 0 j "remaining" (JX (cE (.int 1))) ρ= .ok w:=by
 unfold ixF;rw[h];dsimp only;rw[show fs.lookup ("remaining":Str)=_ from hl];exact qR
abbrev oo (fs:List (Str×Fd)):En:=[.oc 101 fs,.un]
theorem ix_v {fs:List (Str×Fd)}{rs:List T}{w:T}(hl:Rem fs (rs++[w])):ixV 101 0 1 "remaining" (JX (cE (.int 1))) (oo fs)= .ok w:=by
 have:lsV 101 0 1 "remaining" (oo fs)=some (rs++[w]):=by
  show (match fs.lookup ("remaining":Str) with | some (.tl ts)=>some ts | _=>none)=_
  rw[show fs.lookup ("remaining":Str)=_ from hl]
 unfold ixV;rw[this];exact qR
theorem qS {fs:List (Str×Fd)}{rs ws:List T}(hl:Rem fs (rs++[.lst ws])):KW fs []= .ok (.int (ws.length:Int)):=by
 show zy (zF (ap1 Zw (ixV 101 0 1 "remaining" (JX (cE (.int 1))))) (oo fs))=_;rw[ui];show ap1 Zw _ (oo fs)=_;rw[ZO,ix_v hl];rfl
theorem vq {k i j:Nat}{g:List (Str×Fd)->List T->R T}{ρ:En}{fs:List (Str×Fd)}{r:R T}(h:obL k i j ρ=some fs)(hg:g fs []=r):u9 k i j 0 g zj ρ=r:=by
 unfold u9;rw[h];exact hg
theorem Xr {k:Kd}(hk:k.Ok 3)(h5:k.all.length<=500):xY [] [k.t]= .ok (.non,sv k.t [.lst k.all] [] []):=by
 show uN 101 2 (Gs f_o [.ob 101 0,.vl k.t,.st [(101,[])]])=_;have e:z9 (za 1 f_o (z9 (vE 1) zj)) zj [.ob 101 0,.vl k.t,.st [(101,[("kind",.tv k.t)])]]= .ok [.lst k.all]:=by
  show ((za 1 f_o (z9 (vE 1) zj)) _).bind _=_;rw[zQ,v1,bOk,jH hk h5];rfl
 have e2:Q7 101 0 2 "remaining" (z9 (za 1 f_o (z9 (vE 1) zj)) zj) [.ob 101 0,.vl k.t,.st [(101,[("kind",.tv k.t)])]]= .nx [.ob 101 0,.vl k.t,.st [(101,[("kind",.tv k.t),("remaining",.tl [.lst k.all])])]]:=by
  unfold Q7;rw[e];rfl
 unfold Gs;show uN 101 2 (match Q7 101 0 2 "remaining" (z9 (za 1 f_o (z9 (vE 1) zj)) zj) [.ob 101 0,.vl k.t,.st [(101,[("kind",.tv k.t)])]] with
  | .nx ρ' =>_
  | .ex c=> .ex c
  | _=> .bad)=_
 rw[e2];rfl
def vt (b:Bool)(r:Ru)(ws:List T):List T:=ws.filter λx=>kp r x == b
noncomputable def dw (b:Bool):Str:=if b then "keep" else "bar"
def stp (b:Bool)(r:Ru):T:= .tup [.str (dw b),r.t]
theorem kw (b:Bool):eqC (.str (dw b)) (.str "keep")= .ok b:=by cases b <;> rfl
theorem z1p (a b:Bool):eqC (.bl a) (.bl b)= .ok (a == b):=by cases a <;> cases b <;> rfl
theorem stp0 {i:Nat}{b:Bool}{r:Ru}{ρ:En}(h:vE i ρ= .ok (stp b r)):zb ixT (vE i) (cE (.int 0)) ρ= .ok (.str (dw b)):=ix0 h
theorem stp1 {i:Nat}{b:Bool}{r:Ru}{ρ:En}(h:vE i ρ= .ok (stp b r)):zb ixT (vE i) (cE (.int 1)) ρ= .ok r.t:=ix1 h
theorem yc {b:Bool}{r:Ru}(hr:jl 3 r){ws:List T}(hw:∀x∈ws,W 2 x)(hl:ws.length<=bnd):KZ [stp b r,.lst ws]= .ok (.lst (vt b r ws)):=by
 show zy (Gy (f_d 8) [.vl (stp b r),.vl (.lst ws),.un])=_;have e1:zV 2 (ZL eqC (zb ixT (vE 0) (cE (.int 0))) (cE (.str "keep"))) [.vl (stp b r),.vl (.lst ws),.un]= .nx [.vl (stp b r),.vl (.lst ws),.vl (.bl b)]:=by
  rw[zX (t:= .bl b)]
  ·rfl
  ·rw[ZT,stp0 rfl,bOk,zZ,bOk,kw,bOk]
 have ec:zD (zP 0) (zL eqC (za 2 (f_d 8) (z9 (zb ixT (vE 1) (cE (.int 1))) (z9 (vE 0) (zj)))) (vB 2)) (vE 0) 1 [0,2] [.vl (stp b r),.vl (.lst ws),.vl (.bl b)] ws= .ok (vt b r ws):=
  jU _ hl λt ht=>⟨by
   show zL eqC _ _ [.vl t,.vl (stp b r),.vl (.bl b)]=_;rw[zU,zS,stp1 (b:=b) rfl,bOk,v0,bOk,wo (hw t ht) hr,bOk];exact z1p _ _,rfl⟩
 rw[Gy,zd e1,zz (t:= .lst (vt b r ws))]
 ·rfl
 ·show Z6 _ _ _ _ _ _ [.vl (stp b r),.vl (.lst ws),.vl (.bl b)]=_;rw[Zb,jk,v1,bOk];show ((zD _ _ _ _ _ _ ws).bind _)=_;rw[ec,bOk]
theorem vv {t:T}{rs ds us:List T}:f_f (sv t rs ds us) []= .ok (.lst ds):=rfl
theorem gT {k i j n:Nat}{f:Str}{fa:En->R T}{ρ:En}{fs:List (Str×Fd)}{os:List Ob}{ts:List T}{t:T}(h:obD k i j ρ=some (n,fs,os))(hl:fs.lookup f=some (.tl ts))(hf:fa ρ= .ok t)(hb:ts.length < bnd):XH k i j f fa ρ= .nx (ρ.set j (.st (os.set n (k,uO f (.tl (ts++[t])) fs)))):=by
 unfold XH;rw[h];dsimp only;rw[hl];dsimp only;rw[hf,ZC,if_pos hb]
theorem Xs {k i j n nn:Nat}{m:Str}{g:List (Str×Fd)->List T->R (T×List (Str×Fd))}{ga:En->R (List T)}{ρ:En}{fs fs' :List (Str×Fd)}{os:List Ob}{ts:List T}{t:T}(h:obD k i j ρ=some (n,fs,os))(hm:fs.lookup m=none)(ha:ga ρ= .ok ts)(hn:ts.length=nn)(hg:g fs ts= .ok (t,fs')):Q8 k i j m nn g ga ρ= .ok (t,ρ.set j (.st (os.set n (k,fs')))):=by
 unfold Q8;rw[h];dsimp only;rw[hm,if_pos (show (none:Option Fd).isNone=true from rfl),ha,bOk,if_pos hn,hg];rfl
theorem Xt {t:T}{rs ds us:List T}(m:Str)(h:(m == ("kind":Str) || (m == ("remaining":Str) || (m == ("done":Str) || m == ("undone":Str))))=false):(sv t rs ds us).lookup m=none:=by
 simp only[f7]at h;obtain⟨a,b,c,d⟩:=h;simp only[sv,av,a,b,c,d];rfl
theorem jg {f:En->RS}{g:En->R (T×En)}{ρ ρ' :En}(h:f ρ= .nx ρ'):jp f g ρ=g ρ' :=by unfold jp;rw[h]
theorem z1q {f g:En->R T}{ρ:En}{x y:T}(hf:f ρ= .ok x)(hg:g ρ= .ok y):z9 f (z9 g zj) ρ= .ok [x,y]:=by
 show ((f ρ).bind λt=>((z9 g zj) ρ).bind λts=> .ok (t :: ts))=_;rw[hf,bOk];show ((g ρ).bind λt=>(R.ok []).bind λts=>R.ok (t :: ts)).bind _=_;rw[hg];rfl
theorem gU {f:En->R T}{ρ:En}{x:T}(hf:f ρ= .ok x):z9 f zj ρ= .ok [x]:=by
 show ((f ρ).bind λt=>(R.ok []).bind λts=>R.ok (t :: ts))=_;rw[hf];rfl
theorem Xu {b:Bool}{r:Ru}{a c s:Sl}:z9 (Zt (z9 (vE 1) (z9 (vE 2) zj))) zj [a,.vl (.str (dw b)),.vl r.t,c,s]= .ok [stp b r]:=rfl
theorem gW {y:T}{a c:Sl}:z9 (cE (.str "keep")) (z9 (vE 1) zj) [a,.vl y,c]= .ok [.str (dw true),y]:=by
 rw[show dw true="keep" from if_pos rfl];rfl
theorem ob2 {a:Sl}(fs:List (Str×Fd)):obD 101 0 2 [.ob 101 0,a,.st [(101,fs)]]=some (0,fs,[(101,fs)]):=rfl
theorem ob4 {a b c:Sl}(fs:List (Str×Fd)):obD 101 0 4 [.ob 101 0,a,b,c,.st [(101,fs)]]=some (0,fs,[(101,fs)]):=rfl
theorem z1r (fs:List (Str×Fd))(x:T):XJ fs [x]=uN 101 2 (Gz KZ [.ob 101 0,.vl x,.st [(101,fs)]]):=rfl
theorem gX (fs:List (Str×Fd))(x y:T):g9 fs [x,y]=uN 101 4 (GA f_c KW XJ [.ob 101 0,.vl x,.vl y,.un,.st [(101,fs)]]):=rfl
theorem Xv (fs:List (Str×Fd))(x:T):gc fs [x]=uN 101 2 (Q8 101 0 2 "new_step" 2 g9 (z9 (cE (.str "keep")) (z9 (vE 1) zj)) [.ob 101 0,.vl x,.st [(101,fs)]]):=rfl
theorem out2 (fs:List (Str×Fd))(x t:T):uN 101 2 (.ok (t,[.ob 101 0,.vl x,.st [(101,fs)]]))= .ok (t,fs):=rfl
section
variable {k:Kd}{t:T}{rs ds us ws:List T}{b:Bool}{r:Ru}
abbrev sv' (t:T)(rs ds us ws:List T)(b:Bool)(r:Ru):List (Str×Fd):=sv t ((rs++[.lst ws])++[.lst (vt b r ws)]) (ds++[stp b r]) us
theorem z1s (hr:jl 3 r)(hw:∀x∈ws,W 2 x)(hl:ws.length<=1000)(h1:rs.length<=1000)(h2:ds.length<=1000):XJ (sv t (rs++[.lst ws]) ds us) [stp b r]= .ok (.non,sv' t rs ds us ws b r):=by
 have hb:bnd=16777216:=rfl;rw[z1r];have e1:=gT (k:=101) (i:=0) (j:=2) (f:="remaining") (fa:=za 2 KZ (z9 (vE 1) (z9 (ixF 101 0 2 "remaining" (JX (cE (.int 1)))) (zj)))) (ρ:=[.ob 101 0,.vl (stp b r),.st [(101,sv t (rs++[.lst ws]) ds us)]]) (t:= .lst (vt b r ws)) rfl rfl
  (by rw[zS,v1,bOk,ix_l (rs:=rs) (w:= .lst ws) rfl rfl,bOk,yc hr hw (by omega)]) (by rw[aA,aK];omega)
 have e2:=gT (k:=101) (i:=0) (j:=2) (f:="done") (fa:=vE 1) (ρ:=[.ob 101 0,.vl (stp b r),.st [(101,sv t ((rs++[.lst ws])++[.lst (vt b r ws)]) ds us)]]) (ts:=ds) (t:=stp b r) rfl rfl rfl (by omega)
 unfold Gz;rw[jg e1];show uN 101 2 (jp _ _ [.ob 101 0,.vl (stp b r),.st [(101,sv t ((rs++[.lst ws])++[.lst (vt b r ws)]) ds us)]])=_;rw[jg e2];rfl
theorem gY (hr:jl 3 r)(hw:∀x∈ws,W 2 x)(hl:ws.length<=1000)(h1:rs.length<=1000)(h2:ds.length<=1000):g9 (sv t (rs++[.lst ws]) ds us) [.str (dw b),r.t]= .ok (.int ((ws.length:Int) - ((vt b r ws).length:Int)),sv' t rs ds [] ws b r):=by
 rw[gX];have e1:jn (za 1 f_c (z9 (vE 2) zj)) [.ob 101 0,.vl (.str (dw b)),.vl r.t,.un,.st [(101,sv t (rs++[.lst ws]) ds us)]]= .nx [.ob 101 0,.vl (.str (dw b)),.vl r.t,.un,.st [(101,sv t (rs++[.lst ws]) ds us)]]:=jt (t:= .non) (by rw[zQ];exact J9 hr)
 have e2:zV 3 (u9 101 0 4 0 KW zj) [.ob 101 0,.vl (.str (dw b)),.vl r.t,.un,.st [(101,sv t (rs++[.lst ws]) ds us)]]= .nx [.ob 101 0,.vl (.str (dw b)),.vl r.t,.vl (.int (ws.length:Int)),.st [(101,sv t (rs++[.lst ws]) ds us)]]:=by
  rw[zX (t:= .int (ws.length:Int))]
  ·rfl
  ·exact vq rfl (qS (rs:=rs) rfl)
 have d0:=z1s (t:=t) (rs:=rs) (ds:=ds) (ws:=ws) (b:=b) (us:=us) hr hw hl h1 h2;have m1:(sv t (rs++[.lst ws]) ds us).lookup ("do_step":Str)=none:=Xt _ (by decide+kernel)
 have m:=Xs (nn:=1) (ob4 (a:= .vl (.str (dw b))) (b:= .vl r.t) (c:= .vl (.int (ws.length:Int))) (sv t (rs++[.lst ws]) ds us)) m1 Xu rfl d0;have e3:drM (Q8 101 0 4 "do_step" 1 XJ (z9 (Zt (z9 (vE 1) (z9 (vE 2) (zj)))) (zj))) [.ob 101 0,.vl (.str (dw b)),.vl r.t,.vl (.int (ws.length:Int)),.st [(101,sv t (rs++[.lst ws]) ds us)]]= .nx [.ob 101 0,.vl (.str (dw b)),.vl r.t,.vl (.int (ws.length:Int)),.st [(101,sv' t rs ds us ws b r)]]:=by
  unfold drM;rw[m];rfl
 have e4:Q7 101 0 4 "undone" zj [.ob 101 0,.vl (.str (dw b)),.vl r.t,.vl (.int (ws.length:Int)),.st [(101,sv' t rs ds us ws b r)]]= .nx [.ob 101 0,.vl (.str (dw b)),.vl r.t,.vl (.int (ws.length:Int)),.st [(101,sv' t rs ds [] ws b r)]]:=by
  unfold Q7;rw[ob4];rfl
 unfold GA;rw[jg e1,jg e2,jg e3,jg e4];unfold xQ;have ev:vE 3 [.ob 101 0,.vl (.str (dw b)),.vl r.t,.vl (.int (ws.length:Int)),.st [(101,sv' t rs ds [] ws b r)]]= .ok (.int (ws.length:Int)):=rfl;rw[zv,ev,bOk,vq (fs:=sv' t rs ds [] ws b r) rfl (qS (rs:=rs++[.lst ws]) rfl)];rfl
theorem Xw (hr:jl 3 r)(hw:∀x∈ws,W 2 x)(hl:ws.length<=1000)(h1:rs.length<=1000)(h2:ds.length<=1000):gc (sv t (rs++[.lst ws]) ds us) [r.t]= .ok (.int ((ws.length:Int) - ((vt true r ws).length:Int)),sv' t rs ds [] ws true r):=by
 have d0:=gY (t:=t) (rs:=rs) (ds:=ds) (ws:=ws) (b:=true) (us:=us) hr hw hl h1 h2;have m1:(sv t (rs++[.lst ws]) ds us).lookup ("new_step":Str)=none:=Xt _ (by decide+kernel)
 rw[Xv,Xs (nn:=2) (ob2 _) m1 gW rfl d0];exact out2 _ _ _
end
theorem wp {α:Type}{f g:α->T}{fe:En->R T}{k:Nat}{js:List Nat}{ρ:En}(l:List α)(hl:l.length<=bnd)(H:∀a∈l,fe ((Jb k js ρ).set 0 (.vl (f a)))= .ok (g a)):zD (zP 0) Zi fe k js ρ (l.map f)= .ok (l.map g):=by
 rw[Z2 (h:=λt=>match fe ((Jb k js ρ).set 0 (.vl t)) with | .ok u=>u | _=>t) (l.map f) (by rw[ae];exact hl) (λt ht=>by
  obtain⟨a,ha,rfl⟩:=aN.mp ht;rw[H a ha]),bb]
 congr 1
 refine bX λa ha=> ?_;show (match fe ((Jb k js ρ).set 0 (.vl (f a))) with | .ok u=>u | _=>f a)=_
 rw[H a ha]
def cnt (ws:List T)(r:Ru):Int:=((ws.filter λx=>kp r x).length:Nat)
inductive Cn:(List T->T)->Prop where
 | l:Cn T.lst
 | t:Cn T.tup
theorem qT {C:List T->T}(hC:Cn C){ws:List T}{rs:List Ru}(hr:∀r∈rs,jl 3 r)(hw:∀x∈ws,W 2 x)(hl:ws.length<=1000)(hn:rs.length<=1000):gj [.lst ws,C (rs.map Ru.t)]= .ok (.lst (rs.map λr=> .int (cnt ws r))):=by
 have hb:bnd=16777216:=rfl;show zy (GE (f_d 8) (en2 (.lst ws) (C (rs.map Ru.t))))=_;unfold GE;rw[ui];show Z6 _ _ _ _ _ _ (en2 (.lst ws) (C (rs.map Ru.t)))=_;rw[Zb,jk,v1,bOk];rw[show jZ (C (rs.map Ru.t))= .ok (rs.map Ru.t) by cases hC <;> rfl]
 show ((zD _ _ _ _ _ _ (rs.map Ru.t)).bind _)=_;rw[wp (g:=λr=> .int (cnt ws r)) rs (by omega) λr hr' => ?_,bOk]
 show ap1 Zw _ (en2 r.t (.lst ws))=_;rw[ZO,Zb,jk,v1,bOk];show (((zD _ _ _ _ _ _ ws).bind _).bind _)=_;rw[jU (p:=λx=>kp r x) ws (by omega) λt ht=>⟨?_,rfl⟩,bOk]
 ·rfl
 ·show JN _ (en2 t r.t)=_;rw[Jx,zS,v1,bOk,v0,bOk,wo (hw t ht) (hr r hr')];rfl
theorem WN {C:List T->T}(hC:Cn C){rs:List Ru}(hr:∀r∈rs,jl 3 r)(hn:rs.length<=1000):gh [C (rs.map Ru.t)]= .ok .non:=by
 have lp:∀(us:List T) (rs:List Ru) (y:Sl),(∀r∈rs,jl 3 r)->∃y',Zn (zP 1) (jn (za 1 f_c (z9 (vE 1) (zj)))) (rs.map Ru.t) [.vl (C us),y]= .nx [.vl (C us),y']:=by
  intro us rs
  induction rs with
  | nil=>exact λy _=>⟨y,rfl⟩
  | cons r rs ih=>
   intro y h;obtain⟨y',e⟩:=ih (.vl r.t) λq hq=>h q (a8 _ hq);refine⟨y', ?_⟩;rw[aI,JD (ρ1:=[.vl (C us),.vl r.t]) rfl (jt (t:= .non) (by rw[zQ];exact J9 (h r ab))),e]
 obtain⟨y',e⟩:=lp (rs.map Ru.t) rs .un hr;show zy (GD f_c [.vl (C (rs.map Ru.t)),.un])=_;unfold GD;rw[zd (zC (by cases hC <;> rfl))]
 have ei:jc (vE 0) [.vl (C (rs.map Ru.t)),.un]= .ok (rs.map Ru.t):=by cases hC <;> rfl
 unfold jJ;rw[ei];show zy (Zn _ _ (rs.map Ru.t) [.vl (C (rs.map Ru.t)),.un])=_;rw[e];rfl
theorem qU (m:Int):∀is:List Int,eqs (.int m) (is.map T.int)=some (is.map λi=>i == m)
 | []=>rfl
 | c :: cs=>by
  show (match eqF 30 (.int c) (.int m) with
   | none=>none
   | some b=>match eqs (.int m) (cs.map T.int) with
    | none=>none
    | some bs=>some (b :: bs))=_
  rw[qU m cs];rfl
theorem qV (f:Int->Int->Bool):∀(l:List Int) (i:Int),ZI f i l∈i :: l
 | [],i=>by rw[ZI];exact ab
 | j :: l,i=>by
  rw[ZI];have:=qV f l (if f j i then j else i)
  rcases ah.mp this with h | h
  ·rw[h];split
   ·exact a8 _ ab
   ·exact ab
  ·exact a8 _ (a8 _ h)
abbrev bsE:En->R T:=ifE (zL gtC (ap1 Zw (vB 3)) (cE (.int 0))) (Gj Ye (vB 3) (ap1 Yo (vB 3))) (cE .non)
theorem z1t {a b c:Sl}(i:Int)(is:List Int):bsE [a,b,c,.vl (.lst ((i :: is).map T.int))]= .ok (.int (((i :: is).map λj=>j == ZI (λa b=>decide (a < b)) i is).idxOf true:Nat)):=by
 show ifE _ _ _ _=_;rw[z1l]
 ·show (Yo (.lst ((i :: is).map T.int))).bind (λu=>Ye u ((i :: is).map T.int))=_;have em:Yo (.lst ((i :: is).map T.int))= .ok (.int (ZI (λa b=>decide (a < b)) i is)):=by
   show (match Zq ((i :: is).map T.int) with | some (i :: l)=>R.ok (T.int (ZI (λa b=>decide (a < b)) i l)) | _=> .bad)=_
   rw[uh]
  rw[em];show Ye (.int (ZI (λa b=>decide (a < b)) i is)) _=_;unfold Ye;rw[qU];dsimp only;rw[if_pos];refine aN.mpr ⟨_,qV _ is i,beq_self_eq_true _⟩
 ·show R.ok (decide ((0:Int) < (((i :: is).map T.int).length:Nat)))=_;rw[decide_eq_true];rw[ae,ar];omega
noncomputable def mxB (n c:Int):Int:=if n - c > c then n - c else c
def bst (n:Int)(cs:List Int):R T:=bsE [.un,.un,.un,.vl (.lst ((cs.map (mxB n)).map T.int))]
theorem Xx (n c:Int)(cs:List Int):∃i,bst n (c :: cs)= .ok (.int i):=⟨_,z1t _ _⟩
theorem qW {C:List T->T}(hC:Cn C){k:Kd}(hk:k.Ok 3)(h5:k.all.length<=500){rs:List Ru}(hr:∀q∈rs,jl 3 q)(hn:rs.length<=1000):f_x [k.t,C (rs.map Ru.t)]=bst (k.all.length:Int) (rs.map (cnt k.all)):=by
 have hb:bnd=16777216:=rfl;have e1:jn (za 1 gh (z9 (vE 1) (zj))) [.vl k.t,.vl (C (rs.map Ru.t)),.un,.un]= .nx [.vl k.t,.vl (C (rs.map Ru.t)),.un,.un]:=jt (t:= .non) (by rw[zQ,v1,bOk,WN hC hr hn])
 have e2:zV 2 (za 1 f_o (z9 (vE 0) (zj))) [.vl k.t,.vl (C (rs.map Ru.t)),.un,.un]= .nx [.vl k.t,.vl (C (rs.map Ru.t)),.vl (.lst k.all),.un]:=by
  rw[zX (t:= .lst k.all)]
  ·rfl
  ·rw[zQ,v0,bOk,jH hk h5]
 have e3:zV 3 (Z6 (jc (za 2 gj (z9 (vE 2) (z9 (vE 1) (zj))))) (zP 0) (Zi) (zb xH (vE 0) (zb ju (ap1 Zw (vB 1)) (vE 0))) 1 [2]) [.vl k.t,.vl (C (rs.map Ru.t)),.vl (.lst k.all),.un]= .nx [.vl k.t,.vl (C (rs.map Ru.t)),.vl (.lst k.all),.vl (.lst (rs.map λq=> .int (mxB (k.all.length:Int) (cnt k.all q))))]:=by
  rw[zX (t:= .lst (rs.map λq=> .int (mxB (k.all.length:Int) (cnt k.all q))))]
  ·rfl
  ·rw[Zb,jk,zS,v2,bOk,v1,bOk,qT hC hr (λx hx=>Xq hk hx) (by omega) hn,bOk]
   show ((zD _ _ _ _ _ _ (rs.map λr=> .int (cnt k.all r))).bind _)=_;rw[wp (g:=λq=> .int (mxB (k.all.length:Int) (cnt k.all q))) rs (by omega) λq _=>rfl,bOk]
 show zy (b_x f_o gh gj [.vl k.t,.vl (C (rs.map Ru.t)),.un,.un])=_;unfold b_x bst;rw[zd e1,zd e2,zd e3,ui,bb,bb];rfl
theorem Xy {d:Nat}{r:Ru}(h:jl d r):Pl (d+1) r.t:=by
 induction h with
 | sum _ _=>intro x hx;simp only[ah,aM,or_false]at hx;rcases hx with rfl | rfl | rfl <;> trivial
 | size _ _=>intro x hx;simp only[ah,aM,or_false]at hx;rcases hx with rfl | rfl | rfl <;> trivial
 | word _=>intro x hx;simp only[ah,aM,or_false]at hx;rcases hx with rfl | rfl <;> trivial
 | rising=>intro x hx;simp only[ah,aM,or_false]at hx;subst hx;trivial
 | unlike=>intro x hx;simp only[ah,aM,or_false]at hx;subst hx;trivial
 | no _ ih=>intro x hx;simp only[ah,aM,or_false]at hx;rcases hx with rfl | rfl;trivial;exact ih
 | all _ _ i1 i2=>intro x hx;simp only[ah,aM,or_false]at hx;rcases hx with rfl | rfl | rfl;trivial;exact i1;exact i2
 | some _ _ i1 i2=>intro x hx;simp only[ah,aM,or_false]at hx;rcases hx with rfl | rfl | rfl;trivial;exact i1;exact i2
theorem gZ {b:Bool}{r:Ru}(h:jl 2 r):Pl 29 (stp b r):=λx hx=>by
 simp only[ah,aM,or_false]at hx;rcases hx with rfl | rfl
 ·trivial
 ·exact(Xy h).le (show 2+1<=28 by decide)
theorem qX (xs:List T)(a n:Nat)(h:a+n<=xs.length):((rng (a:Int) n).map λt=>match t with | .int i=>(xs[i.toNat]?).getD .non | y=>y)=(xs.drop a).take n:=by
 unfold rng;rw[bb];refine d6 λi=> ?_;rw[ak]
 by_cases hi:i < n
 ·rw[bN hi,cO hi,List.getElem?_drop];show some ((xs[((a:Int)+(i:Int)).toNat]?).getD .non)=_;rw[show ((a:Int)+(i:Int)).toNat=a+i by omega]
  obtain⟨x,hx⟩:=j7 (xs:=xs) (i:=a+i) (by omega)
  rw[hx];rfl
 ·rw[aR (by simpa using hi),aR (by rw[cH];omega)];rfl
theorem G1 {k:Kd}(hk:k.Ok 3){i:Nat}{x:T}(hx:k.all[i]? =some x):f_r [k.t,x]= .ok .non:=by
 have hh:k.has x=true:=(JF k x).mp (bH hx);have hw:gf [k.t,x]= .ok (.bl true):=by
  show zy (GC f_p (f_8 20) (en2 k.t x))=_;rw[GC,zd (jt (t:= .non) (by rw[zQ,v0,bOk,qQ hk])),zz (t:= .bl true)]
  ·rfl
  ·show za 2 _ _ (en2 k.t x)=_;rw[zS,v0,bOk,v1,bOk,show f_8 20 [k.t,x]=_ from Vc 3 20 (by omega) k x hk,hh]
 show zy (b_r gf (en2 k.t x))=_;rw[b_r,zC]
 ·rfl
 ·rw[Wv,Jx,zS,v0,bOk,v1,bOk,hw];rfl
abbrev btE (a:T)(b c d e:Sl):En:=[.vl a,b,c,d,e]
theorem yd {k:Kd}(hk:k.Ok 3)(h5:k.all.length<=500){a b:Nat}{x y:T}(hx:k.all[a]? =some x)(hy:k.all[b]? =some y):f_e [k.t,x,y]= .ok (.lst ((k.all.drop a).take (b+1 - a))):=by
 have ha:=(am.mp hx).1;have hb:=(am.mp hy).1;show zy (b_e f_r (f_4 20) (f_3 20) (btE k.t (.vl x) (.vl y) .un .un))=_;have e1:zV 3 (za 2 (f_3 20) (z9 (vE 0) (z9 (vE 1) (zj)))) (btE k.t (.vl x) (.vl y) .un .un)= .nx (btE k.t (.vl x) (.vl y) (.vl (.int (a:Int))) .un):=by
  rw[zX (t:= .int (a:Int))]
  ·rfl
  ·rw[zS,v0,bOk,v1,bOk,gK hk hx]
 have e2:zV 4 (za 2 (f_3 20) (z9 (vE 0) (z9 (vE 2) (zj)))) (btE k.t (.vl x) (.vl y) (.vl (.int (a:Int))) .un)= .nx (btE k.t (.vl x) (.vl y) (.vl (.int (a:Int))) (.vl (.int (b:Int)))):=by
  rw[zX (t:= .int (b:Int))]
  ·rfl
  ·rw[zS,v0,bOk,v2,bOk,gK hk hy]
 have e3:zL gtC (zb zE (zb ju (vE 4) (vE 3)) (cE (.int 1))) (cE (.int 500)) (btE k.t (.vl x) (.vl y) (.vl (.int (a:Int))) (.vl (.int (b:Int))))= .ok false:=by
  rw[zU,zv,zv,v4,bOk,v3,bOk,Zk,bOk,zZ,bOk,Z3,bOk,zZ,bOk,vk,decide_eq_false (by omega)]
 have er:jh (vE 3) (zb zE (vE 4) (cE (.int 1))) (btE k.t (.vl x) (.vl y) (.vl (.int (a:Int))) (.vl (.int (b:Int))))= .ok (rng (a:Int) (b+1 - a)):=by
  rw[wU (i:=(a:Int)) (j:=(b:Int)+1) rfl rfl ⟨by omega,by omega,by omega,by omega⟩]
  congr 2;omega
 have ec:zD (zP 0) Zi (za 2 (f_4 20) (z9 (vE 1) (z9 (vE 0) (zj)))) 1 [0] (btE k.t (.vl x) (.vl y) (.vl (.int (a:Int))) (.vl (.int (b:Int)))) (rng (a:Int) (b+1 - a))= .ok ((rng (a:Int) (b+1 - a)).map λt=>match t with | .int i=>(k.all[i.toNat]?).getD .non | y=>y):=
  Z2 _ (by unfold rng;rw[ae,bx];have:bnd=16777216:=rfl;omega) λt ht=>by
   unfold rng at ht;obtain⟨i,hi,rfl⟩:=aN.mp ht;have hi2:=bo.mp hi;obtain⟨z,hz⟩:=j7 (xs:=k.all) (i:=a+i) (by omega)
   show za 2 _ _ (en2 (.int ((a:Int)+(i:Int))) k.t)=R.ok ((k.all[((a:Int)+(i:Int)).toNat]?).getD .non);rw[show ((a:Int)+(i:Int))=((a+i:Nat):Int) by omega,zS,v1,bOk,v0,bOk,Vg hk hz,bw,hz]
   rfl
 rw[b_e,zd (jt (t:= .non) (by rw[zS,v0,bOk,v1,bOk,G1 hk hx])),zd (jt (t:= .non) (by rw[zS,v0,bOk,v2,bOk,G1 hk hy])),zd e1,zd e2,zd (zC e3)]
 have e4:vQ (jh (vE 3) (zb zE (vE 4) (cE (.int 1)))) (zP 0) (Zi) (za 2 (f_4 20) (z9 (vE 1) (z9 (vE 0) (zj)))) 1 [0] (btE k.t (.vl x) (.vl y) (.vl (.int (a:Int))) (.vl (.int (b:Int))))= .rf ((k.all.drop a).take (b+1 - a)):=by
  show ((jh (vE 3) (zb zE (vE 4) (cE (.int 1))) (btE k.t (.vl x) (.vl y) (.vl (.int (a:Int))) (.vl (.int (b:Int))))).s λts=>(zD _ _ _ _ _ (btE k.t (.vl x) (.vl y) (.vl (.int (a:Int))) (.vl (.int (b:Int)))) ts).s λvs=>RS.rf vs)=_;rw[er,ZC,ec,ZC]
  by_cases hab:a<=b+1
  ·rw[qX k.all a (b+1 - a) (by omega)]
  ·rw[show b+1 - a=0 by omega];rfl
 rw[e4];rfl
section
variable {ns:List Int}{k:Kd}{ro go:List T}{m n ev:Sl}{fs:List (Str×Fd)}{t:T}{ts:List T}
abbrev en (ns:List Int)(k:Kd)(ro:List T)(g m n:Sl)(fs:List (Str×Fd)):En:=[.vl (scr ns),.vl k.t,.vl (.lst k.all),.ob 101 0,.ow ro,g,m,n,.un,.st [(101,fs)]]
theorem obe {g:Sl}:obD 101 3 9 (en ns k ro g m n fs)=some (0,fs,[(101,fs)]):=rfl
theorem ole {g:Sl}:obL 101 3 9 (en ns k ro g m n fs)=some fs:=rfl
theorem G2 {f g:En->R T}{ρ:En}{t:T}(h:f ρ= .ok t)(h' :g ρ= .ok t)(hp:Pl 30 t):zL neC f g ρ= .ok false:=by rw[zU,h,bOk,h',bOk,Xi hp]
theorem qY {f g:En->R T}{ρ:En}{t:T}(h:f ρ= .ok t)(h' :g ρ= .ok t)(hp:Pl 30 t):ZL eqC f g ρ= .ok (.bl true):=by rw[ZT,h,bOk,h',bOk,Uf hp];rfl
theorem qZ {f g:En->R T}{ρ:En}(h:f ρ= .ok (.bl true))(h' :g ρ= .ok (.bl true)):ZM f g ρ= .ok (.bl true):=by unfold ZM;rw[h,bOk];exact h'
theorem W2 {r:R T}(h:r= .ok (.lst ts))(hl:ts.length < bnd)(hp:Pl 30 (.lst ts)):wf r= .ok (.bl true):=by
 subst h;show (if ts.length < bnd then (eqC (.lst ts) (.lst ts)).bind λb=>R.ok (T.bl b) else .bad)=_
 rw[if_pos hl,Uf hp];rfl
theorem z1u {f:En->R (T×En)}{ρ ρ' :En}{t:T}(hf:f ρ= .ok (t,ρ')):drM f ρ= .nx ρ' :=by unfold drM;rw[hf];rfl
theorem ye {fs:List (Str×Fd)}{rs ws:List T}(hl:Rem fs (rs++[.lst ws])):f_s fs= .ok (.lst ws):=by
 show zy (UQ (ixV 101 0 1 "remaining" (JX (cE (.int 1)))) (oo fs))=_;unfold UQ;rw[ix_v hl];rfl
theorem Q0 {t:T}{rs ds us:List T}:f_t (sv t rs ds us)= .ok (.lst ds):=rfl
end
theorem Vj {k:Kd}(hk:k.Ok 3){ts:List T}(h:∀x∈ts,x∈k.all):Pl 30 (.lst ts):=λx hx=>(Xq hk (h x hx)).pl.le (show 2+1<=29 by decide)
abbrev lB:En->RS:=UR 2 3 4 8 (za 1 (f_6 8) (z9 (vE 1) (zj))) (mkA 8 9 101 1 xY (z9 (vE 1) (zj))) (z9 (za 3 (f_m 8) (z9 (vE 0) (z9 (cE (.int 4000)) (z9 (cE (.int 2)) (zj))))) (z9 (Zt (z9 (cE (.str "unlike")) (zj))) (zj)))
theorem z1v {ns:List Int}{k:Kd}{fs:List (Str×Fd)}{r:Ru}(h:xY [] [k.t]= .ok (.non,fs))(ha:f_6 8 [k.t]= .ok (.lst k.all))(hr:f_m 8 [scr ns,.int 4000,.int 2]= .ok r.t):lB [.vl (scr ns),.vl k.t,.un,.un,.un,.un,.un,.un,.un,.st []]= .nx (en ns k [r.t,Ru.unlike.t] .un .un .un fs):=by
 have e0:za 1 (f_6 8) (z9 (vE 1) (zj)) [.vl (scr ns),.vl k.t,.un,.un,.un,.un,.un,.un,.un,.st []]= .ok (.lst k.all):=by rw[zQ,v1,bOk,ha]
 have e1:mkA 8 9 101 1 xY (z9 (vE 1) (zj)) [.vl (scr ns),.vl k.t,.un,.un,.un,.un,.un,.un,.un,.st []]= .ok [.vl (scr ns),.vl k.t,.un,.un,.un,.un,.un,.un,.ob 101 0,.st [(101,fs)]]:=by
  unfold mkA;rw[gU (x:=k.t) rfl,bOk,if_pos ⟨rfl,by decide,show 8 < 10 by decide⟩]
  show (match xY [] [k.t] with | .ok (.non,fs)=>_ | .ex c=>_ | _=>_)=_
  rw[h];rfl
 show UR 2 3 4 8 _ _ _ _=_;unfold UR;rw[e0,ZC,e1,ZC,z1q (x:=r.t) (y:=Ru.unlike.t) (by rw[Zj,v0,bOk,zZ,bOk,zZ,bOk,hr]) rfl];rfl
theorem law_ok (ns:List Int)(h:ns.length<=63):f_0 [.fz (ns.map T.int)]= .ok (.bl true):=by
 obtain⟨k,hk,hl,hs⟩:=vg ns 10 (by omega) 40 (by omega)
 have ha:=qa 3 8 (by omega) (by omega) k hk (by omega)
 obtain⟨r,hr0,hr⟩:=W1 ns 8 2 (by omega) (by omega) 4000 (by omega)
 have hb:bnd=16777216:=rfl;have hpos:=Zl 3 k hk;obtain⟨x0,hx0⟩:=j7 (xs:=k.all) (i:=0) (by omega)
 obtain⟨x1,hx1⟩:=j7 (xs:=k.all) (i:=k.all.length - 1) (by omega)
 have e0:zV 1 (za 3 KS (z9 (vE 0) (z9 (cE (.int 10)) (z9 (cE (.int 40)) (zj))))) [.vl (scr ns),.un,.un,.un,.un,.un,.un,.un,.un,.st []]= .nx [.vl (scr ns),.vl k.t,.un,.un,.un,.un,.un,.un,.un,.st []]:=by
  rw[zX (t:=k.t)]
  ·rfl
  ·rw[Zj,v0,bOk,zZ,bOk,zZ,bOk];exact hs
 have hr2:∀q∈[r,Ru.unlike],jl 3 q:=λq hq=>by
  simp only[ah,aM,or_false]at hq;rcases hq with rfl | rfl
  ·exact hr.up
  ·exact .unlike
 obtain⟨i,hi⟩:=Xx (k.all.length:Int) (cnt k.all r) [cnt k.all Ru.unlike];have bl:f_x [k.t,.lst [r.t,Ru.unlike.t]]= .ok (.int i):=(qW .l hk (by omega) hr2 (show 2<=1000 by decide)).trans hi
 have bt:f_x [k.t,.tup [r.t,Ru.unlike.t]]= .ok (.int i):=(qW .t hk (by omega) hr2 (show 2<=1000 by decide)).trans hi
 have plr:Pl 30 (.lst [r.t,Ru.unlike.t]):=λx hx=>by
  simp only[ah,aM,or_false]at hx;rcases hx with rfl | rfl
  ·exact(Xy hr).le (by decide)
  ·exact(Xy (d:=1) .unlike).le (by decide)
 let F:=sv' k.t [] [] [] k.all true r
 have s2:drM (Q8 101 3 9 "keep" 1 gc (z9 (ixO 4 (cE (.int 0))) (zj))) (en ns k [r.t,Ru.unlike.t] .un .un .un (sv k.t [.lst k.all] [] []))= .nx (en ns k [r.t,Ru.unlike.t] .un .un .un F):=
  z1u (Xs (nn:=1) (ga:=z9 (ixO 4 (cE (.int 0))) (zj)) (ts:=[r.t]) obe (Xt _ (by decide+kernel)) rfl rfl (Xw (rs:=[]) (ds:=[]) (us:=[]) hr.up (λx hx=>Xq hk hx) (by omega) (by decide) (by decide)))
 have b3:uU [1,2] 3 f_e (z9 (vE 0) (z9 (zb ixT (vE 1) (cE (.int 0))) (z9 (zb ixT (vE 1) (JX (cE (.int 1)))) (zj)))) (en ns k [r.t,Ru.unlike.t] .un .un .un F)= .ok (.bl true):=by
  refine W2 (ts:=(k.all.drop 0).take (k.all.length - 1+1 - 0)) ?_ (by rw[cH];omega) (Vj hk λx hx=>by simpa using f8 hx)
  show za 3 f_e _ [.vl k.t,.vl (.lst k.all)]=_;rw[Zj,v0,bOk,zv,v1,bOk,zZ,bOk,show ixT (.lst k.all) (.int 0)= .ok x0 from X6 (j:=0) hx0,bOk,zv,v1,bOk];show ((R.ok (T.int (-1))).bind _).bind _=_;rw[bOk];have hlast:ixT (.lst k.all) (.int (-1))= .ok x1:=by
   show atT k.all (-1)=_;unfold atT atI ixN;rw[if_neg (by decide),if_pos (by omega),show ((-1:Int)+(k.all.length:Int)).toNat=k.all.length - 1 by omega]
   show (match k.all[k.all.length - 1]? with | some t=>R.ok t | none=> .bad)=_
   rw[hx1]
  rw[hlast,bOk,yd hk (by omega) hx0 hx1]
 have s3:WX 5 (z9 (uU [1,2] 3 f_e (z9 (vE 0) (z9 (zb ixT (vE 1) (cE (.int 0))) (z9 (zb ixT (vE 1) (JX (cE (.int 1)))) (zj))))) (zj)) (en ns k [r.t,Ru.unlike.t] .un .un .un F)= .nx (en ns k [r.t,Ru.unlike.t] (.ow [.bl true]) .un .un F):=by
  unfold WX;rw[gU b3];rfl
 have s4:UG 5 (jE 101 3 9 f_s) (en ns k [r.t,Ru.unlike.t] (.ow [.bl true]) .un .un F)= .nx (en ns k [r.t,Ru.unlike.t] (.ow [.bl true,.bl true]) .un .un F):=by
  rw[qr (ts:=[.bl true]) (t:= .bl true) rfl (by rw[hb];decide)]
  ·rfl
  ·unfold jE;rw[ole];exact W2 (ye (rs:=[.lst k.all]) rfl) (bB (List.length_filter_le _ _) (by omega)) (Vj hk λx hx=>(cT.mp hx).1)
 have pls:Pl 30 (.lst [stp true r]):=λx hx=>by
  simp only[ah,aM,or_false]at hx;subst hx;exact gZ hr
 have s5:UG 5 (jE 101 3 9 f_t) (en ns k [r.t,Ru.unlike.t] (.ow [.bl true,.bl true]) .un .un F)= .nx (en ns k [r.t,Ru.unlike.t] (.ow [.bl true,.bl true,.bl true]) .un .un F):=by
  rw[qr (ts:=[.bl true,.bl true]) (t:= .bl true) rfl (by rw[hb];decide)]
  ·rfl
  ·unfold jE;rw[ole];exact W2 (ts:=[stp true r]) Q0 (by rw[hb];show 1 < 16777216;decide) pls
 have s6:zV 6 (Gm 4) (en ns k [r.t,Ru.unlike.t] (.ow [.bl true,.bl true,.bl true]) .un .un F)= .nx (en ns k [r.t,Ru.unlike.t] (.ow [.bl true,.bl true,.bl true]) (.vl (.lst [r.t,Ru.unlike.t])) .un F):=rfl;have s7:KO 7 (za 2 f_x (z9 (vE 1) (z9 (vE 4) (zj)))) (en ns k [r.t,Ru.unlike.t] (.ow [.bl true,.bl true,.bl true]) (.vl (.lst [r.t,Ru.unlike.t])) .un F)= .nx (en ns k [r.t,Ru.unlike.t] (.ow [.bl true,.bl true,.bl true]) (.vl (.lst [r.t,Ru.unlike.t])) (.vl (.int i)) F):=by
  unfold KO;rw[show za 2 f_x (z9 (vE 1) (z9 (vE 4) (zj))) (frz (en ns k [r.t,Ru.unlike.t] (.ow [.bl true,.bl true,.bl true]) (.vl (.lst [r.t,Ru.unlike.t])) .un F))= .ok (.int i) from by rw[zS];exact bl];rfl
 have s8:ifS (orT (zL neC (vB 4) (vB 6)) (zL neC (za 2 f_x (z9 (vE 1) (z9 (Gn 4) (zj)))) (vB 7))) (zF (cE (.bl false))) (nxS) (en ns k [r.t,Ru.unlike.t] (.ow [.bl true,.bl true,.bl true]) (.vl (.lst [r.t,Ru.unlike.t])) (.vl (.int i)) F)= .nx (en ns k [r.t,Ru.unlike.t] (.ow [.bl true,.bl true,.bl true]) (.vl (.lst [r.t,Ru.unlike.t])) (.vl (.int i)) F):=
  zC (yb (G2 rfl rfl plr) (G2 (t:= .int i) (by rw[zS];exact bt) rfl trivial))
 have s9:stI 4 0 (Zt (z9 (cE (.str "rising")) (zj))) (en ns k [r.t,Ru.unlike.t] (.ow [.bl true,.bl true,.bl true]) (.vl (.lst [r.t,Ru.unlike.t])) (.vl (.int i)) F)= .nx (en ns k [.tup [.str "rising"],Ru.unlike.t] (.ow [.bl true,.bl true,.bl true]) (.vl (.lst [r.t,Ru.unlike.t])) (.vl (.int i)) F):=rfl;have s10:KI (xQ (ZM (ZL eqC (vB 5) (zb Z4 (jb (z9 (cE (.bl true)) (zj))) (cE (.int 3)))) (ZM (ZL eqC (u9 101 3 9 0 f_f zj) (jb (z9 (Zt (z9 (cE (.str "keep")) (z9 (zb ixT (vE 6) (cE (.int 0))) (zj)))) (zj)))) (ZL eqC (u9 101 3 9 0 GF zj) (Zt (z9 (cE (.int 1)) (z9 (cE (.int 0)) (zj)))))))) (en ns k [.tup [.str "rising"],Ru.unlike.t] (.ow [.bl true,.bl true,.bl true]) (.vl (.lst [r.t,Ru.unlike.t])) (.vl (.int i)) F)= .rt (.bl true):=by
  have hA:ZM (ZL eqC (vB 5) (zb Z4 (jb (z9 (cE (.bl true)) (zj))) (cE (.int 3)))) (ZM (ZL eqC (u9 101 3 9 0 f_f zj) (jb (z9 (Zt (z9 (cE (.str "keep")) (z9 (zb ixT (vE 6) (cE (.int 0))) (zj)))) (zj)))) (ZL eqC (u9 101 3 9 0 GF zj) (Zt (z9 (cE (.int 1)) (z9 (cE (.int 0)) (zj)))))) (en ns k [.tup [.str "rising"],Ru.unlike.t] (.ow [.bl true,.bl true,.bl true]) (.vl (.lst [r.t,Ru.unlike.t])) (.vl (.int i)) F)= .ok (.bl true):=by
   refine qZ (qY (t:= .lst [.bl true,.bl true,.bl true]) rfl rfl (λx hx=> ?_)) (qZ (qY (t:= .lst [stp true r]) (vq ole vv) ?_ pls) (qY (t:= .tup [.int 1,.int 0]) (vq ole rfl) rfl (λx hx=> ?_)))
   ·simp only[ah,aM,or_false]at hx;rcases hx with rfl | rfl | rfl <;> trivial
   ·rw[XM (x:=stp true r)];rw[show stp true r= .tup [.str "keep",r.t] by unfold stp dw;rw[if_pos rfl]]
    exact Q9 rfl rfl
   ·simp only[ah,aM,or_false]at hx;rcases hx with rfl | rfl <;> trivial
  unfold KI xQ;rw[hA];rfl
 show zy (b_0 _ _ _ _ _ _ _ _ _ _ _ [.vl (scr ns),.un,.un,.un,.un,.un,.un,.un,.un,.st []])=_;rw[b_0];exact congrArg zy ((zd e0).trans ((zd (z1v (Xr hk (by omega)) ha hr0)).trans ((zd s2).trans ((zd s3).trans ((zd s4).trans ((zd s5).trans ((zd s6).trans ((zd s7).trans ((zd s8).trans ((zd s9).trans s10))))))))))
end G
namespace G
open PySem PySem.Spec PyProof.Rows L2 PV
noncomputable def top (i:Nat):Stmt:=PySem.Challenge.pw_worthkinds_k87_whole_told_lists.main.body.getD i (.Pass ⟨0,0,0,0⟩)
noncomputable def WO (s:Stmt)(j:Nat):Stmt:=match s with
 | .ClassDef _ _ _ b _ _ _ _ _ _ _=>b.getD j (.Pass ⟨0,0,0,0⟩)
 | s=>s
set_option genInjectivity false in
set_option genSizeOf false in
structure Tx (K:a9) (mg:Str->Option Value):Prop where
 C_1j:FE K mg "_law_cell" (top 68) ["_law_script","_law_k"]
 C_5:FE K mg "_law_pick" (top 69) ["_law_script","_law_k","_law_many"]
 C_14:FE K mg "_law_word_of" (top 70) ["_law_script","_law_at"]
 C_19:FE K mg "_law_leaf_kind" (top 71) ["_law_script","_law_at"]
 C_i:FE K mg "_law_kind" (top 72) ["_law_script","_law_at","_law_deep"]
 C_k:FE K mg "_law_rows_of" (top 76) ["_law_lists"]
 C_6:FE K mg "_law_all" (top 75) ["_law_kind_here"]
 C_h:FE K mg "_law_size" (top 73) ["_law_kind_here"]
 C_1c:FE K mg "_law_small" (top 74) ["_law_script","_law_at","_law_most"]
 C_9:FE K mg "is_whole" (top 13) ["thing"]
 C_12:FE K mg "is_span" (top 16) ["low","high","least","most"]
 C_a:FE K mg "is_tuple_of" (top 14) ["thing","least","most"]
 C_q:FE K mg "is_word" (top 15) ["thing"]
 C_y:FE K mg "is_choice" (top 19) ["thing"]
 C_w:FE K mg "are_choices" (top 18) ["thing"]
 C_7:FE K mg "is_kind_within" (top 17) ["thing","levels"]
 C_17:FE K mg "are_kinds_within" (top 20) ["thing","levels"]
 C_2:FE K mg "is_kind" (top 9) ["thing"]
 C_p:FE K mg "need_kind" (top 11) ["kind"]
 C_1:FE K mg "count_of" (top 27) ["kind"]
 C_u:FE K mg "count_of_parts" (top 28) ["kinds"]
 C_j:FE K mg "count_shorter" (top 29) ["kind","length"]
 C_g:FE K mg "words_of_pick" (top 21) ["kind"]
 C_4:FE K mg "worth_at" (top 30) ["kind","number"]
 C_16:FE K mg "many_at" (top 31) ["kind","number"]
 C_v:FE K mg "parts_at" (top 32) ["kinds","number"]
 C_o:FE K mg "all_worths" (top 26) ["kind"]
 C_m:FE K mg "_law_rule" (top 77) ["_law_script","_law_at","_law_deep"]
 C_1h:FE K mg "is_bound" (top 53) ["thing"]
 C_n:FE K mg "is_rule_within" (top 52) ["thing","levels"]
 C_b:FE K mg "is_rule" (top 48) ["thing"]
 C_c:FE K mg "need_rule" (top 49) ["rule"]
 C_l:FE K mg "leaves_of" (top 57) ["worth"]
 C_1g:FE K mg "numbers_in" (top 58) ["worth"]
 C_1k:FE K mg "parts_of" (top 56) ["worth"]
 C_1m:FE K mg "are_rising" (top 59) ["numbers"]
 C_1n:FE K mg "are_unlike" (top 60) ["parts"]
 C_1b:FE K mg "is_single_kept" (top 55) ["rule","worth"]
 C_d:FE K mg "is_kept" (top 54) ["rule","worth"]
 C_1e:FE K mg "left_by" (top 64) ["step","worths"]
 C_8:FE K mg "has_worth" (top 22) ["kind","thing"]
 C_15:FE K mg "have_parts" (top 23) ["kinds","parts"]
 C_10:FE K mg "is_worth" (top 10) ["kind","thing"]
 C_r:FE K mg "need_worth" (top 12) ["kind","worth"]
 C_3:FE K mg "place_of" (top 33) ["kind","worth"]
 C_z:FE K mg "place_of_parts" (top 34) ["kinds","parts"]
 C_e:FE K mg "between" (top 66) ["kind","one","other"]
 C__law_stays:FE K mg "_law_stays" (top 78) ["_law_deed"]
 C_1d:FE K mg "need_rules" (top 50) ["rules"]
 C_1a:FE K mg "counts_keeping" (top 51) ["worths","rules"]
 C_x:FE K mg "best_rule" (top 63) ["kind","rules"]
 C_0:FE K mg "law" (top 79) ["_law_script"]
 z:∀x,(["all","any","bool","enumerate","int","isinstance","len","list","max","min","range","reversed","set","str","sum","tuple","zip"]:List Str).contains x=true->mg x=none
 c_DEEPEST:∃u,mg "DEEPEST"=some u/\∃t,u=Value.int 3 t
 c_DEEPEST_RULE:∃u,mg "DEEPEST_RULE"=some u/\∃t,u=Value.int 3 t
 c_FARTHEST_BOUND:∃u,mg "FARTHEST_BOUND"=some u/\∃t,u=Value.int 50 t
 c_MOST_TOLD:∃u,mg "MOST_TOLD"=some u/\∃t,u=Value.int 500 t
structure To (K:a9) (mg:Str->Option Value) (cl:Nat->Value):Prop where
 A_Sieve:CA 101 ["kind","remaining","done","undone"] K cl
 M_Sieve_init:FI K mg cl 101 "Sieve" (WO (top 62) 0) ["self","kind"]
 M_Sieve_left:FM K cl 101 "left" (WO (top 62) 3) ["self"]
 M_Sieve_do_step:FM K cl 101 "do_step" (WO (top 62) 13) ["self","step"]
 M_Sieve_new_step:FM K cl 101 "new_step" (WO (top 62) 12) ["self","word","rule"]
 M_Sieve_keep:FM K cl 101 "keep" (WO (top 62) 1) ["self","rule"]
 M_Sieve_worths:FM K cl 101 "worths" (WO (top 62) 4) ["self"]
 M_Sieve_steps:FM K cl 101 "steps" (WO (top 62) 7) ["self"]
 M_Sieve_counts:FM K cl 101 "counts" (WO (top 62) 10) ["self"]
section
variable {Z:Zz}{Pt:Addr}(tx:Tx Z.K Z.mg)(tc:To Z.K Z.mg Z.cl)
include tx tc
set_option hygiene false
local macro_rules | `(tactic| gp_on)=> `(tactic| first
  | (show W3 _ _ _ _;first
   | refine kz ?_ ?_
   | exact z0d)
  | (show Snd _ _ (.Name ..) _;first
   | exact z09 _ (pv _)
   | exact tx.c_MOST_TOLD.elim λ_ h=>wE (by rfl) h.1 h.2
   | exact tx.c_FARTHEST_BOUND.elim λ_ h=>wE (by rfl) h.1 h.2
   | exact tx.c_DEEPEST.elim λ_ h=>wE (by rfl) h.1 h.2
   | exact tx.c_DEEPEST_RULE.elim λ_ h=>wE (by rfl) h.1 h.2)
  | (show Snd _ _ (.Constant ..) _;first
   | exact z0a
   | exact z0c
   | exact s_bl
   | exact z0b)
  | (show JZ _ _ _ _;first
   | refine kN ?_ ?_
   | exact z0B
   | refine z0C ?_)
  | (show ji _ _ _ _;first
   | exact ky _ (pv _)
   | exact CA.go tc.A_Sieve λ_ e c n=>KK (pv _) (by rw[hy];exact e) c (n _ (by kernel_rfl))
   | refine Snd.b ?_)
  | (show jA _ _ _ _;first
   | refine z0D ?_
   | refine z0E ?_ ?_ ?_
   | refine kP nd (by rfl) (.inl (by rfl)) ?_
   | refine z0I ii (by rfl) ?_ ?_ ?_
   | refine kR ?_
   | refine kQ nd (by rfl) (.inl (by rfl)) ?_
   | exact z0N
   | refine kP nd (by rfl) (.inr (by rfl)) ?_
   | refine z0F (pv _) ?_
   | refine CA.go tc.A_Sieve λ_ e c n=>KD (pv _) (by rw[hy];exact e) c (n _ (by kernel_rfl)) ?_
   | refine K3 (cr1 hy (by kernel_rfl) (by kernel_rfl) (by rfl) ?_ (λ_ hy _ _ _ _ _ _=> ?_) (λ_ hy _ _ _ _ _ _ _ hp=> ?_)) nd (by rfl) (.inl (by rfl)) (by rfl)
   | refine z0G (pv _) ?_
   | refine Kf (cr1 hy (by kernel_rfl) (by kernel_rfl) (by rfl) ?_ (λ_ hy _ _ _ _ _ _=> ?_) (λ_ hy _ _ _ _ _ _ _ hp=> ?_))
   | refine CA.go tc.A_Sieve λ_ e c n=>KF (pv _) (by rw[hy];exact e) c (n _ (by kernel_rfl)) ?_
   | refine z13 ?_
   | exact s_mv (pv _) nd (by rfl) (.inl (by rfl))
   | refine x6 (n:=_) ii ?_ ?_
   | refine CA.go tc.A_Sieve λ_ e c n=>z11 (pv _) (by rw[hy];exact e) c (n _ (by kernel_rfl)) ?_
   | refine xW (by rfl) (tx.z _ (by kernel_rfl)) ?_
   | exact CA.go tc.A_Sieve λ_ e c n=>xV (pv _) (by rw[hy];exact e) c (n _ (by kernel_rfl)) (by rfl) (tx.z _ (by kernel_rfl))
   | refine xX (w:="?q") (by rfl) nd (by rfl) (by rfl) (by rfl) (by decide) (by decide) (by decide) (.inr (by rfl)) (.inr (by rfl)) (.inl (by rfl)) (by rfl) (by rfl) ?_ ?_ ?_
   | refine KP nd (by rfl) (.inl (by rfl)) ?_
   | refine z18 (n:=_) (pv _) ?_
   | refine KJ ?_)
  | (show Snd _ _ (.Call ..) _;first
   | refine z0x (by rfl) (tx.z _ (by kernel_rfl)) ?_
   | refine Qw (n:="tuple") (Wk _) (by rfl) (tx.z _ (by kernel_rfl)) (by rfl) (tx.z _ (by kernel_rfl)) PyProof.Rows.Boot.«tuple» ?_
   | refine z0A hr.hd (by rfl) (tx.z _ (by kernel_rfl)) ?_
   | refine Ke (by rfl) (tx.z _ (by kernel_rfl)) ?_
   | exact QM.go (by assumption) λ_ _ _ _ _ _ e c M F=>QX (pv _) hy e c M.m F hr (by omega) M.b hp
   | refine kM (by rfl) (by rfl) (tx.z _ (by kernel_rfl)) ?_ ?_
   | refine VU (by rfl) (tx.z _ (by kernel_rfl)) ?_
   | refine z0O hr.hd (by rfl) (tx.z _ (by kernel_rfl)) ?_
   | refine xv hr.units ?_ ?_
   | refine K7 ?_
   | refine xu hr.hd (by rfl) (tx.z _ (by kernel_rfl)) (by rfl) (tx.z _ (by kernel_rfl)) ?_ ?_
   | refine Qw (n:="int") (VV _) (by rfl) (tx.z _ (by kernel_rfl)) (by rfl) (tx.z _ (by kernel_rfl)) PyProof.Rows.Boot.«int» ?_
   | refine Qw (n:="bool") (Qv _) (by rfl) (tx.z _ (by kernel_rfl)) (by rfl) (tx.z _ (by kernel_rfl)) PyProof.Rows.Boot.«bool» ?_
   | refine Qw (n:="str") (VW _) (by rfl) (tx.z _ (by kernel_rfl)) (by rfl) (tx.z _ (by kernel_rfl)) PyProof.Rows.Boot.«str» ?_
   | refine K8 hr.hd (by rfl) (tx.z _ (by kernel_rfl)) (by rfl) (tx.z _ (by kernel_rfl)) ?_
   | refine Kr hr.hd (by rfl) (tx.z _ (by kernel_rfl)) (by rfl) (tx.z _ (by kernel_rfl)) ?_
   | refine z0U hr.hd (by rfl) (tx.z _ (by kernel_rfl)) ?_
   | refine Kt (n:="list") (m:="tuple") (uz _) (Wk _) (by rfl) (tx.z _ (by kernel_rfl)) (by rfl) (tx.z _ (by kernel_rfl)) PyProof.Rows.Boot.«list» (by rfl) (tx.z _ (by kernel_rfl)) PyProof.Rows.Boot.«tuple» ?_
   | refine Ku (by rfl) (by rfl) (tx.z _ (by kernel_rfl)) ?_ ?_
   | refine Kw hr.hd (by rfl) (tx.z _ (by kernel_rfl)) ?_
   | exact CA.go tc.A_Sieve λ_ e c n=>KL (pv _) (by rw[hy];exact e) c (n _ (by kernel_rfl)) (by rfl) (tx.z _ (by kernel_rfl))
   | refine QZ L hT hy (by assumption) U_between hr (by kernel_rfl) (by kernel_rfl) (λbase A outer s H E f c' clos Y' _ hy _ hr=> ?_)
   | exact uV L hT hy (by assumption) U_Sieve_worths_F hr (by kernel_rfl) (by kernel_rfl)
   | exact uV L hT hy (by assumption) U_Sieve_steps_F hr (by kernel_rfl) (by kernel_rfl)
   | exact KM (pv _) (by rfl) (tx.z _ (by kernel_rfl))
   | exact KN (pv _) (by rfl) (tx.z _ (by kernel_rfl))
   | refine cZ hy (by assumption) hr ?_)
  | (show Snd _ _ (.Subscript ..) _;first
   | refine s_ix ?_ ?_
   | refine CA.go tc.A_Sieve λ_ e c n=>z16 (pv _) (by rw[hy];exact e) c (n _ (by kernel_rfl)) ?_
   | refine VZ ?_ ?_ ?_
   | refine CA.go tc.A_Sieve λ_ e c n=>z14 (pv _) (by rw[hy];exact e) c (n _ (by kernel_rfl)) ?_
   | refine z0X (pv _) ?_)
  | (show Snd _ _ (.BinOp ..) _;first
   | refine z0h ?_ ?_
   | refine z0k ?_ ?_
   | refine z0i ?_ ?_
   | refine z0j ?_ ?_
   | refine kB ?_ ?_)
  | (show Wg _ _ _ _;first
   | refine WW VP (yS hr.units) ?_ ?_ (Jm _)
   | refine z0u ?_
   | refine WW z0o kG ?_ ?_ (Jm _)
   | refine WW z0n kD ?_ ?_ (Jm _)
   | refine WW wz jz ?_ ?_ (Jm _)
   | refine WW z0m (kC hr.units) ?_ ?_ (Jm _)
   | refine WW kH (VQ hr.units) ?_ ?_ (by rfl)
   | refine WW Qs (vF hr.units) ?_ ?_ (by rfl)
   | refine VS wz wz jz jz ?_ ?_ ?_
   | refine z0v ?_
   | refine yf.t ?_)
  | (show Snd _ _ (.BoolOp ..) _;first
   | refine z0q ?_ ?_
   | refine s_or ?_ ?_
   | refine z0p ?_)
  | (show W4 _ _ _ _ _;first
   | refine kW (by rfl) (tx.z _ (by kernel_rfl)) ?_
   | refine kX (by rfl) (tx.z _ (by kernel_rfl)) ?_ ?_
   | refine z0L (by rfl) (tx.z _ (by kernel_rfl)) ?_ ?_
   | refine K5 (by rfl) (tx.z _ (by kernel_rfl)) ?_
   | refine z0S (by rfl) (tx.z _ (by kernel_rfl)) ?_
   | refine xF (by rfl) (tx.z _ (by kernel_rfl)) ?_
   | refine z0K ?_)
  | (show Snd _ _ (.Compare ..) _;first
   | refine VO VP (yS hr.units) ?_ ?_ (Jm _)
   | refine VR wz wz jz jz ?_ ?_ ?_
   | refine VO Qs (vF hr.units) ?_ ?_ (by rfl)
   | refine Qt wz wz wz jz jz jz ?_ ?_ ?_ ?_
   | refine VO wz jz ?_ ?_ (Jm _))
  | (show Jc _ _ _ _;first
   | exact K1
   | refine K2 ?_)
  | (show Snd _ _ (.Tuple ..) _;first
   | refine z0e ?_)
  | (show yf _ _ _ _;first
   | refine w_or ?_ ?_
   | refine z0t ?_ ?_
   | refine z0s ?_
   | refine kJ ?_)
  | (show Snd _ _ (.ListComp ..) _;first
   | refine xM (cd1 (by rfl) hy (by kernel_rfl) (by kernel_rfl) (by rfl) ?_ (λ_ hy _ _ _ _ _ _ _=> ?_) (λ_ hy _ _ _ _ _ _ _=> ?_))
   | refine vN (cr1 hy (by kernel_rfl) (by kernel_rfl) (by rfl) ?_ (λ_ hy _ _ _ _ _ _=> ?_) (λ_ hy _ _ _ _ _ _ _ hp=> ?_))
   | refine vN (cr2 hy (by kernel_rfl) (by kernel_rfl) (by rfl) ?_ (λ_ hy _ _ _ _ _ _=> ?_) (λ_ hy _ _ _ _ _ _ _ hp=> ?_)))
  | (show Snd _ _ (.List ..) _;first
   | refine z0f ?_)
  | (show V0 _ _ _ _;first
   | refine KC ?_ ?_
   | exact z10
   | refine z0Y ?_)
  | (show Snd _ _ (.UnaryOp ..) _;first
   | refine z0l ?_
   | refine z0r ?_)
  | (show Gg _ _ _ _;first
   | exact vL nd (by rfl) (.inl (by rfl))
   | exact vL nd (by rfl) (.inr (by rfl))
   | exact kY (by rfl) nd (by rfl) (by rfl) (.inl (by rfl)) (.inl (by rfl)))
  | (show Snd _ _ (.IfExp ..) _;first
   | refine s_if ?_ ?_ ?_)
  | (show VX _ _ _ _;first
   | refine kL ?_
   | exact kK)
  | (show xP _ _ (.Call ..) _;first
   | refine QM.go (by assumption) λ_ _ _ _ _ _ e c M F=>KG (pv _) hy e c M.m F hr (by omega) M.b hp ?_)
  | (show xP _ _ _ _;first
   | refine KA ?_)
  | (show xT _ _ _ _ _;first
   | refine QI.go (by assumption) λ_ _ _ _ _ _ e g M O F=>q_mk hy e M F hr (by omega) (by rfl) g O.b hp ?_)
  )
local macro_rules | `(tactic| kd_all)=> `(tactic| (intro cdv A outer s H E Y hy hE hr nd hp;repeat' gp_on))
theorem z1w:qP Z "_law_cell" 2 1 (oP 2 b_1j):=by
 refine okP tx.C_1j ["_law_script","_law_k"] λ_=> ?_
 kd_all
theorem ok_5 (_:qP Z "_law_cell" 2 1 c_1j):qP Z "_law_pick" 3 2 (oP 4 (b_5 c_1j)):=by
 refine okP tx.C_5 ["_law_script","_law_k","_law_many","_law_drawn"] λ_=> ?_
 kd_all
theorem z1x (_:qP Z "_law_pick" 3 2 c_5):qP Z "_law_word_of" 2 3 (oP 3 (Go c_5)):=by
 refine okP tx.C_14 ["_law_script","_law_at","_law_letters"] λ_=> ?_
 kd_all
theorem z1y (_:qP Z "_law_pick" 3 2 c_5)(_:qP Z "_law_word_of" 2 3 c_14):qP Z "_law_leaf_kind" 2 4 (oP 6 (Gp c_5 c_14)):=by
 refine okP tx.C_19 ["_law_script","_law_at","_law_low","_law_words","_law_k","_law_word"] λ_=> ?_
 kd_all
theorem ok_i {j:Nat}(hj:4<=j)(_:qP Z "_law_pick" 3 2 c_5)(_:qP Z "_law_leaf_kind" 2 4 c_19)(_:qP Z "_law_kind" 3 j c_i):qP Z "_law_kind" 3 (j+1) (oP 6 (b_i c_5 c_19 c_i)):=by
 refine okP tx.C_i ["_law_script","_law_at","_law_deep","_law_way","_law_some","_law_low"] λ_=> ?_
 kd_all
theorem ok_k:qP Z "_law_rows_of" 1 1 (oP 5 b_k):=by
 refine okP tx.C_k ["_law_lists","_law_made","_law_some","_law_longer","_law_ahead"] λ_=> ?_
 kd_all
theorem ok_6 {j:Nat}(hj:1<=j)(_:qP Z "_law_all" 1 j c_6)(_:qP Z "_law_rows_of" 1 1 c_k):qP Z "_law_all" 1 (j+1) (oP 3 (b_6 c_6 c_k)):=by
 refine okP tx.C_6 ["_law_kind_here","_law_made","_law_size_here"] λ_=> ?_
 kd_all
theorem ok_h {j:Nat}(hj:9<=j)(_:qP Z "_law_all" 1 9 c_6)(_:qP Z "_law_size" 1 j c_h):qP Z "_law_size" 1 (j+1) (oP 5 (b_h c_6 c_h)):=by
 refine okP tx.C_h ["_law_kind_here","_law_sizes","_law_made","_law_size_here","_law_inner"] λ_=> ?_
 kd_all
theorem z1z (_:qP Z "_law_kind" 3 12 c_i)(_:qP Z "_law_size" 1 17 c_h):qP Z "_law_small" 3 18 (oP 5 (Gq c_i c_h)):=by
 refine okP tx.C_1c ["_law_script","_law_at","_law_most","_law_kind_here","_law_k"] λ_=> ?_
 kd_all
theorem ok_9:qP Z "is_whole" 1 1 (oP 1 b_9):=by
 refine okP tx.C_9 ["thing"] λ_=> ?_
 kd_all
theorem G4 (_:qP Z "is_whole" 1 1 c_9):qP Z "is_span" 4 2 (oP 4 (b_12 c_9)):=by
 refine okP tx.C_12 ["low","high","least","most"] λ_=> ?_
 kd_all
theorem ok_a:qP Z "is_tuple_of" 3 1 (oP 3 b_a):=by
 refine okP tx.C_a ["thing","least","most"] λ_=> ?_
 kd_all
theorem ok_q:qP Z "is_word" 1 1 (oP 1 b_q):=by
 refine okP tx.C_q ["thing"] λ_=> ?_
 kd_all
theorem ok_y (_:qP Z "is_whole" 1 1 c_9)(_:qP Z "is_tuple_of" 3 1 c_a)(_:qP Z "is_word" 1 1 c_q):qP Z "is_choice" 1 2 (oP 1 (b_y c_9 c_a c_q)):=by
 refine okP tx.C_y ["thing"] λ_=> ?_
 kd_all
theorem ok_w (_:qP Z "is_tuple_of" 3 1 c_a)(_:qP Z "is_choice" 1 2 c_y):qP Z "are_choices" 1 3 (oP 2 (b_w c_a c_y)):=by
 refine okP tx.C_w ["thing","words"] λ_=> ?_
 kd_all
theorem ok_7 {j:Nat}(hj:3<=j)(_:qP Z "is_span" 4 2 c_12)(_:qP Z "is_kind_within" 2 j c_7)(_:qP Z "are_choices" 1 3 c_w)(_:qP Z "are_kinds_within" 2 j c_17):qP Z "is_kind_within" 2 (j+1) (oP 2 (b_7 c_12 c_7 c_w c_17)):=by
 refine okP tx.C_7 ["thing","levels"] λ_=> ?_
 kd_all
theorem G5 {j:Nat}(hj:3<=j)(_:qP Z "is_tuple_of" 3 1 c_a)(_:qP Z "is_kind_within" 2 j c_7):qP Z "are_kinds_within" 2 (j+1) (oP 2 (Gr c_a c_7)):=by
 refine okP tx.C_17 ["thing","levels"] λ_=> ?_
 kd_all
theorem ok_2 (_:qP Z "is_kind_within" 2 23 c_7):qP Z "is_kind" 1 24 (oP 1 (b_2 c_7)):=by
 refine okP tx.C_2 ["thing"] λ_=> ?_
 kd_all
theorem ok_p (_:qP Z "is_kind" 1 24 c_2):qP Z "need_kind" 1 25 (oP 1 (b_p c_2)):=by
 refine okP tx.C_p ["kind"] λ_=> ?_
 kd_all
theorem ok_1 {j:Nat}(hj:0<=j)(_:qP Z "count_of_parts" 1 j c_u)(_:qP Z "count_shorter" 2 j c_j):qP Z "count_of" 1 (j+1) (oP 1 (b_1 c_u c_j)):=by
 refine okP tx.C_1 ["kind"] λ_=> ?_
 kd_all
theorem ok_u {j:Nat}(hj:0<=j)(_:qP Z "count_of" 1 j c_1):qP Z "count_of_parts" 1 (j+1) (oP 3 (b_u c_1)):=by
 refine okP tx.C_u ["kinds","count","kind"] λ_=> ?_
 kd_all
theorem ok_j {j:Nat}(hj:0<=j)(_:qP Z "count_of_parts" 1 j c_u):qP Z "count_shorter" 2 (j+1) (oP 2 (b_j c_u)):=by
 refine okP tx.C_j ["kind","length"] λ_=> ?_
 kd_all
theorem ok_g:qP Z "words_of_pick" 1 1 (oP 1 b_g):=by
 refine okP tx.C_g ["kind"] λ_=> ?_
 kd_all
theorem ok_4 {j:Nat}(hj:20<=j)(_:qP Z "words_of_pick" 1 1 c_g)(_:qP Z "many_at" 2 j c_16)(_:qP Z "parts_at" 2 j c_v):qP Z "worth_at" 2 (j+1) (oP 2 (b_4 c_g c_16 c_v)):=by
 refine okP tx.C_4 ["kind","number"] λ_=> ?_
 kd_all
theorem G6 {j:Nat}(hj:20<=j)(_:qP Z "count_shorter" 2 20 c_j)(_:qP Z "parts_at" 2 j c_v):qP Z "many_at" 2 (j+1) (oP 3 (KU c_j c_v)):=by
 refine okP tx.C_16 ["kind","number","length"] λ_=> ?_
 kd_all
theorem ok_v {j:Nat}(hj:20<=j)(_:qP Z "count_of" 1 20 c_1)(_:qP Z "worth_at" 2 j c_4):qP Z "parts_at" 2 (j+1) (oP 6 (b_v c_1 c_4)):=by
 refine okP tx.C_v ["kinds","number","parts","rest","kind","count"] λ_=> ?_
 kd_all
theorem ok_o (_:qP Z "need_kind" 1 25 c_p)(_:qP Z "count_of" 1 20 c_1)(_:qP Z "worth_at" 2 40 c_4):qP Z "all_worths" 1 41 (oP 2 (b_o c_p c_1 c_4)):=by
 refine okP tx.C_o ["kind","count"] λ_=> ?_
 kd_all
theorem z1A (_:qP Z "all_worths" 1 41 c_o):qI Z 101 "Sieve" 1 42 (oM 101 2 (Gs c_o)):=by
 refine okI tc.M_Sieve_init ["self","kind","?"] λ_ _=> ?_
 kd_all
theorem ok_m {j:Nat}(hj:2<=j)(_:qP Z "_law_pick" 3 2 c_5)(_:qP Z "_law_rule" 3 j c_m):qP Z "_law_rule" 3 (j+1) (oP 6 (b_m c_5 c_m)):=by
 refine okP tx.C_m ["_law_script","_law_at","_law_deep","_law_way","_law_one","_law_low"] λ_=> ?_
 kd_all
theorem z1B (_:qP Z "is_whole" 1 1 c_9):qP Z "is_bound" 1 2 (oP 1 (z19 c_9)):=by
 refine okP tx.C_1h ["thing"] λ_=> ?_
 kd_all
theorem ok_n {j:Nat}(hj:2<=j)(_:qP Z "is_word" 1 1 c_q)(_:qP Z "is_rule_within" 2 j c_n)(_:qP Z "is_bound" 1 2 c_1h):qP Z "is_rule_within" 2 (j+1) (oP 2 (b_n c_q c_n c_1h)):=by
 refine okP tx.C_n ["thing","levels"] λ_=> ?_
 kd_all
theorem ok_b (_:qP Z "is_rule_within" 2 10 c_n):qP Z "is_rule" 1 11 (oP 1 (b_b c_n)):=by
 refine okP tx.C_b ["thing"] λ_=> ?_
 kd_all
theorem ok_c (_:qP Z "is_rule" 1 11 c_b):qP Z "need_rule" 1 12 (oP 1 (b_c c_b)):=by
 refine okP tx.C_c ["rule"] λ_=> ?_
 kd_all
theorem z1C:qO Z 101 "left" 0 1 (oO 101 1 0 b_1f):=by
 refine okO tc.A_Sieve tc.M_Sieve_left ["self","?"] λ_ _=> ?_
 kd_all
theorem ok_l {j:Nat}(hj:0<=j)(_:qP Z "leaves_of" 1 j c_l):qP Z "leaves_of" 1 (j+1) (oP 3 (b_l c_l)):=by
 refine okP tx.C_l ["worth","leaves","part"] λ_=> ?_
 kd_all
theorem z1D (_:qP Z "is_whole" 1 1 c_9)(_:qP Z "leaves_of" 1 8 c_l):qP Z "numbers_in" 1 9 (oP 1 (z1a c_9 c_l)):=by
 refine okP tx.C_1g ["worth"] λ_=> ?_
 kd_all
theorem z1E:qP Z "parts_of" 1 1 (oP 1 b_1k):=by
 refine okP tx.C_1k ["worth"] λ_=> ?_
 kd_all
theorem z1F:qP Z "are_rising" 1 1 (oP 1 z1b):=by
 refine okP tx.C_1m ["numbers"] λ_=> ?_
 kd_all
theorem z1G:qP Z "are_unlike" 1 1 (oP 1 z1d):=by
 refine okP tx.C_1n ["parts"] λ_=> ?_
 kd_all
theorem z1H (_:qP Z "parts_of" 1 1 c_1k)(_:qP Z "leaves_of" 1 8 c_l)(_:qP Z "numbers_in" 1 9 c_1g)(_:qP Z "are_rising" 1 1 c_1m)(_:qP Z "are_unlike" 1 1 c_1n):qP Z "is_single_kept" 2 10 (oP 2 (Gx c_1k c_l c_1g c_1m c_1n)):=by
 refine okP tx.C_1b ["rule","worth"] λ_=> ?_
 kd_all
theorem ok_d {j:Nat}(hj:10<=j)(_:qP Z "is_kept" 2 j c_d)(_:qP Z "is_single_kept" 2 10 c_1b):qP Z "is_kept" 2 (j+1) (oP 2 (b_d c_d c_1b)):=by
 refine okP tx.C_d ["rule","worth"] λ_=> ?_
 kd_all
theorem z1I (_:qP Z "is_kept" 2 18 c_d):qP Z "left_by" 2 19 (oP 3 (Gy c_d)):=by
 refine okP tx.C_1e ["step","worths","is_keep"] λ_=> ?_
 kd_all
theorem z1J (_:qP Z "left_by" 2 19 c_1e):qM Z 101 "do_step" 1 20 (oM 101 2 (Gz c_1e)):=by
 refine okM tc.A_Sieve tc.M_Sieve_do_step ["self","step","?"] λ_ _=> ?_
 kd_all
theorem z1K (_:qP Z "need_rule" 1 12 c_c)(_:qO Z 101 "left" 0 1 c_1f)(_:qM Z 101 "do_step" 1 20 c_13):qM Z 101 "new_step" 2 21 (oM 101 4 (GA c_c c_1f c_13)):=by
 refine okM tc.A_Sieve tc.M_Sieve_new_step ["self","word","rule","before","?"] λ_ _=> ?_
 kd_all
theorem z1L (_:qM Z 101 "new_step" 2 21 c_18):qM Z 101 "keep" 1 22 (oM 101 2 (b_1i c_18)):=by
 refine okM tc.A_Sieve tc.M_Sieve_keep ["self","rule","?"] λ_ _=> ?_
 kd_all
theorem ok_8 {j:Nat}(hj:1<=j)(_:qP Z "is_whole" 1 1 c_9)(_:qP Z "is_tuple_of" 3 1 c_a)(_:qP Z "words_of_pick" 1 1 c_g)(_:qP Z "have_parts" 2 j c_15):qP Z "has_worth" 2 (j+1) (oP 2 (b_8 c_9 c_a c_g c_15)):=by
 refine okP tx.C_8 ["kind","thing"] λ_=> ?_
 kd_all
theorem G7 {j:Nat}(hj:1<=j)(_:qP Z "has_worth" 2 j c_8):qP Z "have_parts" 2 (j+1) (oP 2 (GB c_8)):=by
 refine okP tx.C_15 ["kinds","parts"] λ_=> ?_
 kd_all
theorem G8 (_:qP Z "need_kind" 1 25 c_p)(_:qP Z "has_worth" 2 21 c_8):qP Z "is_worth" 2 26 (oP 2 (GC c_p c_8)):=by
 refine okP tx.C_10 ["kind","thing"] λ_=> ?_
 kd_all
theorem ok_r (_:qP Z "is_worth" 2 26 c_10):qP Z "need_worth" 2 27 (oP 2 (b_r c_10)):=by
 refine okP tx.C_r ["kind","worth"] λ_=> ?_
 kd_all
theorem ok_3 {j:Nat}(hj:20<=j)(_:qP Z "words_of_pick" 1 1 c_g)(_:qP Z "count_shorter" 2 20 c_j)(_:qP Z "place_of_parts" 2 j c_z):qP Z "place_of" 2 (j+1) (oP 3 (b_3 c_g c_j c_z)):=by
 refine okP tx.C_3 ["kind","worth","length"] λ_=> ?_
 kd_all
theorem ok_z {j:Nat}(hj:20<=j)(_:qP Z "count_of" 1 20 c_1)(_:qP Z "place_of" 2 j c_3):qP Z "place_of_parts" 2 (j+1) (oP 5 (b_z c_1 c_3)):=by
 refine okP tx.C_z ["kinds","parts","place","kind","part"] λ_=> ?_
 kd_all
theorem ok_e (_:qP Z "need_worth" 2 27 c_r)(_:qP Z "worth_at" 2 40 c_4)(_:qP Z "place_of" 2 40 c_3):qP Z "between" 3 41 (oP 5 (b_e c_r c_4 c_3)):=by
 refine okP tx.C_e ["kind","one","other","first","last"] λ_=> ?_
 kd_all
theorem G9 (_:qP Z "need_worth" 2 27 c_r)(_:qP Z "worth_at" 2 40 c_4)(_:qP Z "place_of" 2 40 c_3):qF Z "between" 3 41 (oP 5 (b_e c_r c_4 c_3)):=by
 refine okF tx.C_e ["kind","one","other","first","last"] (by unfold b_e;repeat (first | apply xy | apply Kg | exact QG | exact xz | exact nrt_raise | exact xA | exact Kh | exact QH)) λ_=> ?_
 kd_all
theorem ok_s:qOF Z 101 "worths" 1 (oOF 101 1 b_s):=by
 refine okOF (by unfold b_s;first | exact V4 | exact V5) tc.A_Sieve tc.M_Sieve_worths ["self","?"] λ_ _=> ?_
 kd_all
theorem ok_t:qOF Z 101 "steps" 1 (oOF 101 1 b_t):=by
 refine okOF (by unfold b_t;first | exact V4 | exact V5) tc.A_Sieve tc.M_Sieve_steps ["self","?"] λ_ _=> ?_
 kd_all
theorem z1M (_:qP Z "need_rule" 1 12 c_c):qP Z "need_rules" 1 13 (oP 2 (GD c_c)):=by
 refine okP tx.C_1d ["rules","rule"] λ_=> ?_
 kd_all
theorem z1N (_:qP Z "is_kept" 2 18 c_d):qP Z "counts_keeping" 2 19 (oP 2 (GE c_d)):=by
 refine okP tx.C_1a ["worths","rules"] λ_=> ?_
 kd_all
theorem ok_x (_:qP Z "all_worths" 1 41 c_o)(_:qP Z "need_rules" 1 13 c_1d)(_:qP Z "counts_keeping" 2 19 c_1a):qP Z "best_rule" 2 42 (oP 4 (b_x c_o c_1d c_1a)):=by
 refine okP tx.C_x ["kind","rules","worths","greater"] λ_=> ?_
 kd_all
theorem ok_f:qO Z 101 "steps" 0 1 (oO 101 1 0 b_f):=by
 refine okO tc.A_Sieve tc.M_Sieve_steps ["self","?"] λ_ _=> ?_
 kd_all
theorem z1O:qO Z 101 "counts" 0 1 (oO 101 1 0 b_1l):=by
 refine okO tc.A_Sieve tc.M_Sieve_counts ["self","?"] λ_ _=> ?_
 kd_all
theorem ok_0 {f c:Addr}{fd:FuncData}(C:Fn Z.K Z.mg "law" (top 79) ["_law_script"] f fd)(ec:fd.code= .ref c)(hd:cK Z.K c Pt=true)(hBT:Z.base.BuiltinsAt Z.mg Pt)(_:qP Z "_law_all" 1 9 c_6)(_:qP Z "_law_small" 3 18 c_1c)(_:qP Z "_law_rule" 3 10 c_m)(_:qP Z "between" 3 41 c_e)(_:qP Z "best_rule" 2 42 c_x)(_:qI Z 101 "Sieve" 1 42 c_11)(_:qM Z 101 "keep" 1 22 c_1i)(U_Sieve_worths_F:∀b,Z.K.In b->qOF { Z with base:=b } 101 "worths" 1 c_s)(_:qO Z 101 "steps" 0 1 c_f)(U_Sieve_steps_F:∀b,Z.K.In b->qOF { Z with base:=b } 101 "steps" 1 c_t)(_:qO Z 101 "counts" 0 1 c_1l)(_:qP Z "between" 3 41 c_e)(_:QS "_law_stays" 41 Z)(U_between:∀b,Z.K.In b->qF { Z with base:=b } "between" 3 41 c_e)(_:qF Z "between" 3 41 c_e):ZX Z.P Z.w Z.K Z.mg Z.base (CX1 Z.P Z.w) 44 f fd ["_law_script"] (vY Z.cl 1 (oS 10 (b_0 c_6 c_1c c_m c_e c_x c_11 c_1i c_s c_f c_t c_1l)) Pt (qlT "law")):=by
 refine z17 C ec hd hBT ["_law_script","_law_kind_here","_law_every","_law_sieve","_law_rules","_law_good","_law_mine","_law_number","?q","?"] ?_;intro A outer s H E Y L hT hy hE hr nd hp
 repeat' gp_on
end
section
variable {Z:Zz}{Pt:Addr}(tx:Tx Z.K Z.mg)(tc:To Z.K Z.mg Z.cl)
include tx tc
theorem jI:qOF Z 101 "worths" 1 (f_s):=by
 have O_s:qOF Z 101 "worths" 1 f_s:=ok_s tx tc;exact O_s
theorem jX:qOF Z 101 "steps" 1 (f_t):=by
 have O_t:qOF Z 101 "steps" 1 f_t:=ok_t tx tc;exact O_t
theorem uj:qF Z "between" 3 41 (f_e):=by
 have O_9:qP Z "is_whole" 1 1 f_9:=ok_9 tx tc;have O_12:qP Z "is_span" 4 2 KT:=G4 tx tc O_9;have O_a:qP Z "is_tuple_of" 3 1 f_a:=ok_a tx tc;have O_q:qP Z "is_word" 1 1 f_q:=ok_q tx tc;have O_y:qP Z "is_choice" 1 2 f_y:=ok_y tx tc O_9 O_a O_q;have O_w:qP Z "are_choices" 1 3 f_w:=ok_w tx tc O_a O_y;have R_7:∀n:Nat,qP Z "is_kind_within" 2 (3+n) (S_7 n 0)/\qP Z "are_kinds_within" 2 (3+n) (S_7 n 1):=by
  intro n
  induction n with
  | zero=>exact⟨okB tx.C_7,okB tx.C_17⟩
  | succ n ih=>exact⟨ok_7 tx tc (aw _ _) O_12 ih.1 O_w ih.2,G5 tx tc (aw _ _) O_a ih.1⟩
 have O_7:qP Z "is_kind_within" 2 23 (f_7 20):=(R_7 20).1;have O_17:qP Z "are_kinds_within" 2 23 (f_17 20):=(R_7 20).2;have O_2:qP Z "is_kind" 1 24 f_2:=ok_2 tx tc O_7;have O_p:qP Z "need_kind" 1 25 f_p:=ok_p tx tc O_2;have R_1:∀n:Nat,qP Z "count_of" 1 (0+n) (S_1 n 0)/\qP Z "count_of_parts" 1 (0+n) (S_1 n 1)/\qP Z "count_shorter" 2 (0+n) (S_1 n 2):=by
  intro n
  induction n with
  | zero=>exact⟨okB tx.C_1,okB tx.C_u,okB tx.C_j⟩
  | succ n ih=>exact⟨ok_1 tx tc (aw _ _) ih.2.1 ih.2.2,ok_u tx tc (aw _ _) ih.1,ok_j tx tc (aw _ _) ih.2.1⟩
 have O_1:qP Z "count_of" 1 20 (f_1 20):=(R_1 20).1;have O_u:qP Z "count_of_parts" 1 20 (f_u 20):=(R_1 20).2.1;have O_j:qP Z "count_shorter" 2 20 (f_j 20):=(R_1 20).2.2;have O_g:qP Z "words_of_pick" 1 1 f_g:=ok_g tx tc;have R_4:∀n:Nat,qP Z "worth_at" 2 (20+n) (S_4 n 0)/\qP Z "many_at" 2 (20+n) (S_4 n 1)/\qP Z "parts_at" 2 (20+n) (S_4 n 2):=by
  intro n
  induction n with
  | zero=>exact⟨okB tx.C_4,okB tx.C_16,okB tx.C_v⟩
  | succ n ih=>exact⟨ok_4 tx tc (aw _ _) O_g ih.2.1 ih.2.2,G6 tx tc (aw _ _) O_j ih.2.2,ok_v tx tc (aw _ _) O_1 ih.1⟩
 have O_4:qP Z "worth_at" 2 40 (f_4 20):=(R_4 20).1;have O_16:qP Z "many_at" 2 40 (f_16 20):=(R_4 20).2.1;have O_v:qP Z "parts_at" 2 40 (f_v 20):=(R_4 20).2.2;have R_8:∀n:Nat,qP Z "has_worth" 2 (1+n) (S_8 n 0)/\qP Z "have_parts" 2 (1+n) (S_8 n 1):=by
  intro n
  induction n with
  | zero=>exact⟨okB tx.C_8,okB tx.C_15⟩
  | succ n ih=>exact⟨ok_8 tx tc (aw _ _) O_9 O_a O_g ih.2,G7 tx tc (aw _ _) ih.1⟩
 have O_8:qP Z "has_worth" 2 21 (f_8 20):=(R_8 20).1;have O_15:qP Z "have_parts" 2 21 (f_15 20):=(R_8 20).2;have O_10:qP Z "is_worth" 2 26 gf:=G8 tx tc O_p O_8;have O_r:qP Z "need_worth" 2 27 f_r:=ok_r tx tc O_10;have R_3:∀n:Nat,qP Z "place_of" 2 (20+n) (S_3 n 0)/\qP Z "place_of_parts" 2 (20+n) (S_3 n 1):=by
  intro n
  induction n with
  | zero=>exact⟨okB tx.C_3,okB tx.C_z⟩
  | succ n ih=>exact⟨ok_3 tx tc (aw _ _) O_g O_j ih.2,ok_z tx tc (aw _ _) O_1 ih.1⟩
 have O_3:qP Z "place_of" 2 40 (f_3 20):=(R_3 20).1;have O_z:qP Z "place_of_parts" 2 40 (f_z 20):=(R_3 20).2;have O_e:qP Z "between" 3 41 f_e:=ok_e tx tc O_r O_4 O_3;have V_e:qF Z "between" 3 41 f_e:=G9 tx tc O_r O_4 O_3;exact V_e
theorem Ga {f c:Addr}{fd:FuncData}(C:Fn Z.K Z.mg "law" (top 79) ["_law_script"] f fd)(ec:fd.code= .ref c)(hd:cK Z.K c Pt=true)(hBT:Z.base.BuiltinsAt Z.mg Pt):ZX Z.P Z.w Z.K Z.mg Z.base (CX1 Z.P Z.w) 44 f fd ["_law_script"] (vY Z.cl 1 f_0 Pt (qlT "law")):=by
 have U_Sieve_worths_F:∀b,Z.K.In b->qOF { Z with base:=b } 101 "worths" 1 (f_s):=λb hb=>jI (Z:={ Z with base:=b }) tx tc;have U_Sieve_steps_F:∀b,Z.K.In b->qOF { Z with base:=b } 101 "steps" 1 (f_t):=λb hb=>jX (Z:={ Z with base:=b }) tx tc;have UF_between:∀b,Z.K.In b->qF { Z with base:=b } "between" 3 41 (f_e):=λb hb=>uj (Z:={ Z with base:=b }) tx tc;have O_1j:qP Z "_law_cell" 2 1 KQ:=z1w tx tc;have O_5:qP Z "_law_pick" 3 2 f_5:=ok_5 tx tc O_1j;have O_14:qP Z "_law_word_of" 2 3 XI:=z1x tx tc O_5;have O_19:qP Z "_law_leaf_kind" 2 4 KR:=z1y tx tc O_5 O_14;have R_i:∀n:Nat,qP Z "_law_kind" 3 (4+n) (S_i n 0):=by
  intro n
  induction n with
  | zero=>exact okB tx.C_i
  | succ n ih=>exact ok_i tx tc (aw _ _) O_5 O_19 ih
 have O_i:qP Z "_law_kind" 3 12 (f_i 8):=(R_i 8);have O_k:qP Z "_law_rows_of" 1 1 f_k:=ok_k tx tc;have R_6:∀n:Nat,qP Z "_law_all" 1 (1+n) (S_6 n 0):=by
  intro n
  induction n with
  | zero=>exact okB tx.C_6
  | succ n ih=>exact ok_6 tx tc (aw _ _) ih O_k
 have O_6:qP Z "_law_all" 1 9 (f_6 8):=(R_6 8);have R_h:∀n:Nat,qP Z "_law_size" 1 (9+n) (S_h n 0):=by
  intro n
  induction n with
  | zero=>exact okB tx.C_h
  | succ n ih=>exact ok_h tx tc (aw _ _) O_6 ih
 have O_h:qP Z "_law_size" 1 17 (f_h 8):=(R_h 8);have O_1c:qP Z "_law_small" 3 18 KS:=z1z tx tc O_i O_h;have O_9:qP Z "is_whole" 1 1 f_9:=ok_9 tx tc;have O_12:qP Z "is_span" 4 2 KT:=G4 tx tc O_9;have O_a:qP Z "is_tuple_of" 3 1 f_a:=ok_a tx tc;have O_q:qP Z "is_word" 1 1 f_q:=ok_q tx tc;have O_y:qP Z "is_choice" 1 2 f_y:=ok_y tx tc O_9 O_a O_q;have O_w:qP Z "are_choices" 1 3 f_w:=ok_w tx tc O_a O_y;have R_7:∀n:Nat,qP Z "is_kind_within" 2 (3+n) (S_7 n 0)/\qP Z "are_kinds_within" 2 (3+n) (S_7 n 1):=by
  intro n
  induction n with
  | zero=>exact⟨okB tx.C_7,okB tx.C_17⟩
  | succ n ih=>exact⟨ok_7 tx tc (aw _ _) O_12 ih.1 O_w ih.2,G5 tx tc (aw _ _) O_a ih.1⟩
 have O_7:qP Z "is_kind_within" 2 23 (f_7 20):=(R_7 20).1;have O_17:qP Z "are_kinds_within" 2 23 (f_17 20):=(R_7 20).2;have O_2:qP Z "is_kind" 1 24 f_2:=ok_2 tx tc O_7;have O_p:qP Z "need_kind" 1 25 f_p:=ok_p tx tc O_2;have R_1:∀n:Nat,qP Z "count_of" 1 (0+n) (S_1 n 0)/\qP Z "count_of_parts" 1 (0+n) (S_1 n 1)/\qP Z "count_shorter" 2 (0+n) (S_1 n 2):=by
  intro n
  induction n with
  | zero=>exact⟨okB tx.C_1,okB tx.C_u,okB tx.C_j⟩
  | succ n ih=>exact⟨ok_1 tx tc (aw _ _) ih.2.1 ih.2.2,ok_u tx tc (aw _ _) ih.1,ok_j tx tc (aw _ _) ih.2.1⟩
 have O_1:qP Z "count_of" 1 20 (f_1 20):=(R_1 20).1;have O_u:qP Z "count_of_parts" 1 20 (f_u 20):=(R_1 20).2.1;have O_j:qP Z "count_shorter" 2 20 (f_j 20):=(R_1 20).2.2;have O_g:qP Z "words_of_pick" 1 1 f_g:=ok_g tx tc;have R_4:∀n:Nat,qP Z "worth_at" 2 (20+n) (S_4 n 0)/\qP Z "many_at" 2 (20+n) (S_4 n 1)/\qP Z "parts_at" 2 (20+n) (S_4 n 2):=by
  intro n
  induction n with
  | zero=>exact⟨okB tx.C_4,okB tx.C_16,okB tx.C_v⟩
  | succ n ih=>exact⟨ok_4 tx tc (aw _ _) O_g ih.2.1 ih.2.2,G6 tx tc (aw _ _) O_j ih.2.2,ok_v tx tc (aw _ _) O_1 ih.1⟩
 have O_4:qP Z "worth_at" 2 40 (f_4 20):=(R_4 20).1;have O_16:qP Z "many_at" 2 40 (f_16 20):=(R_4 20).2.1;have O_v:qP Z "parts_at" 2 40 (f_v 20):=(R_4 20).2.2;have O_o:qP Z "all_worths" 1 41 f_o:=ok_o tx tc O_p O_1 O_4;have O_11:qI Z 101 "Sieve" 1 42 xY:=z1A tx tc O_o;have R_m:∀n:Nat,qP Z "_law_rule" 3 (2+n) (S_m n 0):=by
  intro n
  induction n with
  | zero=>exact okB tx.C_m
  | succ n ih=>exact ok_m tx tc (aw _ _) O_5 ih
 have O_m:qP Z "_law_rule" 3 10 (f_m 8):=(R_m 8);have O_1h:qP Z "is_bound" 1 2 Gu:=z1B tx tc O_9;have R_n:∀n:Nat,qP Z "is_rule_within" 2 (2+n) (S_n n 0):=by
  intro n
  induction n with
  | zero=>exact okB tx.C_n
  | succ n ih=>exact ok_n tx tc (aw _ _) O_q ih O_1h
 have O_n:qP Z "is_rule_within" 2 10 (f_n 8):=(R_n 8);have O_b:qP Z "is_rule" 1 11 f_b:=ok_b tx tc O_n;have O_c:qP Z "need_rule" 1 12 f_c:=ok_c tx tc O_b;have O_1f:qO Z 101 "left" 0 1 KW:=z1C tx tc;have R_l:∀n:Nat,qP Z "leaves_of" 1 (0+n) (S_l n 0):=by
  intro n
  induction n with
  | zero=>exact okB tx.C_l
  | succ n ih=>exact ok_l tx tc (aw _ _) ih
 have O_l:qP Z "leaves_of" 1 8 (f_l 8):=(R_l 8);have O_1g:qP Z "numbers_in" 1 9 Gv:=z1D tx tc O_9 O_l;have O_1k:qP Z "parts_of" 1 1 Gw:=z1E tx tc;have O_1m:qP Z "are_rising" 1 1 z1c:=z1F tx tc;have O_1n:qP Z "are_unlike" 1 1 z1e:=z1G tx tc;have O_1b:qP Z "is_single_kept" 2 10 KY:=z1H tx tc O_1k O_l O_1g O_1m O_1n;have R_d:∀n:Nat,qP Z "is_kept" 2 (10+n) (S_d n 0):=by
  intro n
  induction n with
  | zero=>exact okB tx.C_d
  | succ n ih=>exact ok_d tx tc (aw _ _) ih O_1b
 have O_d:qP Z "is_kept" 2 18 (f_d 8):=(R_d 8);have O_1e:qP Z "left_by" 2 19 KZ:=z1I tx tc O_d;have O_13:qM Z 101 "do_step" 1 20 XJ:=z1J tx tc O_1e;have O_18:qM Z 101 "new_step" 2 21 g9:=z1K tx tc O_c O_1f O_13;have O_1i:qM Z 101 "keep" 1 22 gc:=z1L tx tc O_18;have R_8:∀n:Nat,qP Z "has_worth" 2 (1+n) (S_8 n 0)/\qP Z "have_parts" 2 (1+n) (S_8 n 1):=by
  intro n
  induction n with
  | zero=>exact⟨okB tx.C_8,okB tx.C_15⟩
  | succ n ih=>exact⟨ok_8 tx tc (aw _ _) O_9 O_a O_g ih.2,G7 tx tc (aw _ _) ih.1⟩
 have O_8:qP Z "has_worth" 2 21 (f_8 20):=(R_8 20).1;have O_15:qP Z "have_parts" 2 21 (f_15 20):=(R_8 20).2;have O_10:qP Z "is_worth" 2 26 gf:=G8 tx tc O_p O_8;have O_r:qP Z "need_worth" 2 27 f_r:=ok_r tx tc O_10;have R_3:∀n:Nat,qP Z "place_of" 2 (20+n) (S_3 n 0)/\qP Z "place_of_parts" 2 (20+n) (S_3 n 1):=by
  intro n
  induction n with
  | zero=>exact⟨okB tx.C_3,okB tx.C_z⟩
  | succ n ih=>exact⟨ok_3 tx tc (aw _ _) O_g O_j ih.2,ok_z tx tc (aw _ _) O_1 ih.1⟩
 have O_3:qP Z "place_of" 2 40 (f_3 20):=(R_3 20).1;have O_z:qP Z "place_of_parts" 2 40 (f_z 20):=(R_3 20).2;have O_e:qP Z "between" 3 41 f_e:=ok_e tx tc O_r O_4 O_3;have V_e:qF Z "between" 3 41 f_e:=G9 tx tc O_r O_4 O_3;have O_s:qOF Z 101 "worths" 1 f_s:=ok_s tx tc;have O_t:qOF Z 101 "steps" 1 f_t:=ok_t tx tc;have O__law_stays:QS "_law_stays" 41 Z:=okSt (n:="_law_told") (m:="_law_kept") tx.C__law_stays (tx.z _ (by kernel_rfl)) (tx.z _ (by kernel_rfl)) (uz _) (by refine⟨rfl,rfl,rfl, ?_,rfl, ?_, ?_⟩ <;> decide+kernel) rfl rfl rfl rfl rfl rfl (by rfl)
 have O_1d:qP Z "need_rules" 1 13 gh:=z1M tx tc O_c;have O_1a:qP Z "counts_keeping" 2 19 gj:=z1N tx tc O_d;have O_x:qP Z "best_rule" 2 42 f_x:=ok_x tx tc O_o O_1d O_1a;have O_f:qO Z 101 "steps" 0 1 f_f:=ok_f tx tc;have O_1l:qO Z 101 "counts" 0 1 GF:=z1O tx tc;exact ok_0 tx tc C ec hd hBT O_6 O_1c O_m O_e O_x O_11 O_1i U_Sieve_worths_F O_f U_Sieve_steps_F O_1l O_e O__law_stays UF_between V_e
end
noncomputable def Vk:List Str:=["NoKind","NoWorth","NoRule","TooMany","Ended","NoText","NoBack"]
noncomputable def clK (K:a9)(c:Nat):Value:=match eM K mainGlobals (if c=101 then ("Sieve":Str) else if c=102 then "Finder" else Vk.getD c "") with
 | some (some v)=>v
 | _=> .none
theorem clK_at {K:a9}{c:Nat}{x:Str}{q:Addr}(hx:(if c=101 then ("Sieve":Str) else if c=102 then "Finder" else Vk.getD c "")=x)(h:eM K mainGlobals x=some (some (.ref q))):clK K c= .ref q:=by unfold clK;rw[hx,h]
theorem lz1 {fd:FuncData}{p0:Str}(us:List Value)(hl:us.length=1)(h:∀a0,bindArgs fd ⟨[a0],[]⟩=pure ([p0].zip [a0])):bindArgs fd ⟨us,[]⟩=pure ([p0].zip us):=match us,hl with | [a0],_=>h a0
theorem lz2 {fd:FuncData}{p0 p1:Str}(us:List Value)(hl:us.length=2)(h:∀a0 a1,bindArgs fd ⟨[a0,a1],[]⟩=pure ([p0,p1].zip [a0,a1])):bindArgs fd ⟨us,[]⟩=pure ([p0,p1].zip us):=match us,hl with | [a0,a1],_=>h a0 a1
theorem lz3 {fd:FuncData}{p0 p1 p2:Str}(us:List Value)(hl:us.length=3)(h:∀a0 a1 a2,bindArgs fd ⟨[a0,a1,a2],[]⟩=pure ([p0,p1,p2].zip [a0,a1,a2])):bindArgs fd ⟨us,[]⟩=pure ([p0,p1,p2].zip us):=match us,hl with | [a0,a1,a2],_=>h a0 a1 a2
theorem lz4 {fd:FuncData}{p0 p1 p2 p3:Str}(us:List Value)(hl:us.length=4)(h:∀a0 a1 a2 a3,bindArgs fd ⟨[a0,a1,a2,a3],[]⟩=pure ([p0,p1,p2,p3].zip [a0,a1,a2,a3])):bindArgs fd ⟨us,[]⟩=pure ([p0,p1,p2,p3].zip us):=match us,hl with | [a0,a1,a2,a3],_=>h a0 a1 a2 a3
theorem fn1 {K:a9}{h:Heap}{mg:Str->Option Value}{f:Addr}{od an:Option Addr}{sl:Array (Option Value)}{oc kV dc pm cd ct:Value}{x:Str}{st:Stmt}{ps:List Str}(X:K.In h)(G:h.Ns mainGlobals mg)(e:eM K mainGlobals x=some (some (.ref f)))(l:K.lookup f=some ⟨oc,od,.func (bv x x (Zs st) (zK st) (zq st) .none kV dc pm an cd ct),sl⟩)(g:d3 K cd x=true)(k:bG K (.ref f)=true)
  (hb:∀F:Fun K x x st f (bv x x (Zs st) (zK st) (zq st) .none kV dc pm an cd ct),L2.Binds K (bv x x (Zs st) (zK st) (zq st) .none kV dc pm an cd ct) ps []):Fn K mg x st ps f (bv x x (Zs st) (zK st) (zq st) .none kV dc pm an cd ct):=
 have F:=vC (st:=st) l g k
 ⟨F,hb F,PySem.W.mg_of X G e⟩
theorem zs_of {K:a9}{h:Heap}{mg:Str->Option Value}{zs:List Str}(X:K.In h)(G:h.Ns mainGlobals mg)(hz:(zs.all λx=>eM K mainGlobals x == some none)=true):∀x,zs.contains x=true->mg x=none:=λx hx=>PySem.W.mg_none_of X G (beq_iff_eq.mp (aQ.mp hz x (eT.mp hx)))
theorem fo1 {K:a9}{f C:Addr}{od an:Option Addr}{sl:Array (Option Value)}{oc kV dc pm cd ct:Value}{x qual:Str}{st:Stmt}{ps:List Str}(i:bp K (.ref C) x=some (some (.ref f)))(l:K.lookup f=some ⟨oc,od,.func (bv x qual (Zs st) (zK st) (zq st) .none kV dc pm an cd ct),sl⟩)(g:d3 K cd qual=true)(k:bG K (.ref f)=true)(fn:eC K (.ref f)=true)
  (hb:∀F:Fun K x qual st f (bv x qual (Zs st) (zK st) (zq st) .none kV dc pm an cd ct),L2.Binds K (bv x qual (Zs st) (zK st) (zq st) .none kV dc pm an cd ct) ps []):FnO K x qual st ps f (bv x qual (Zs st) (zK st) (zq st) .none kV dc pm an cd ct) C:=
 have F:=vC (st:=st) l g k
 ⟨F,hb F,⟨i,fn,k⟩⟩
theorem no_of {K:a9}{C:Addr}{as:List Str}(hz:(as.all λx=>bp K (.ref C) x == some none)=true):∀x,as.contains x=true->L2.NoAttr K C x:=λx hx=>beq_iff_eq.mp (aQ.mp hz x (eT.mp hx))
noncomputable abbrev Tx' {K:a9}{h:Heap}(_:K.In h)(mg:Str->Option Value):Prop:=Tx K mg
abbrev To' {K:a9}{h:Heap}(_:K.In h)(mg:Str->Option Value):Prop:=To K mg (clK K)
def Q1 (K:a9):Bool:=K.all λp=> !(p.2.cls == Value.type "list")
theorem Xz {K:a9}(h:Q1 K=true){a:Addr}{o:Obj}(e:K.lookup a=some o)(c:o.cls=Value.type "list"):False:=by
 have hm:(a,o)∈K:=by
  clear h
  induction K with
  | nil=>cases e
  | cons p r ih=>
   obtain⟨b,u⟩:=p
   by_cases hb:a=b
   ·subst hb;have e' :some u=some o:=by simpa[av] using e
    cases e';exact ab
   ·have e' :r.lookup a=some o:=by rw[av,(beq_eq_false_iff_ne.mpr hb)]at e;exact e
    exact a8 _ (ih e')
 have:=aQ.mp h _ hm;rw[c]at this;simp at this
noncomputable def tabO (o:Obj):Option Addr:=match o.data with
 | .fields vs=>(match (vs[11]? :Option Value) with | some (.ref P)=>some P | _=>none)
 | _=>none
structure z1P (K:a9) (c P:Addr) (o:Obj):Prop where
 t:K.lookup c=some o
 u:tabO o=some P
 h:cK K c P=true
 n:K.lookup P=none
abbrev TP {K:a9}{h:Heap}(_:K.In h)(mg:Str->Option Value):Prop:=∃f fd c Pt o,Fn K mg "law" (top 79) ["_law_script"] f fd/\fd.code= .ref c/\z1P K c Pt o/\h.get? Pt=some (d9 #[])
theorem fin_ {l:PySem.W.OpenLaw}{w:World}{K:a9}{h:Heap}{mg:Str->Option Value}{fa:Addr}(X:K.In h)(G:h.Ns mainGlobals mg)(hfa:mg "law"=some (.ref fa))(tx:Tx K mg)(tc:To K mg (clK K))(tp:TP X mg):∃(fd:FuncData) (c Pt:Addr),(∀(s:Shared) (v:Value),BindsTo s fd ⟨[v],[]⟩ [("_law_script",v)])/\h.get? Pt=some (d9 #[])/\K.lookup Pt=none/\cK K c Pt=true/\∀base:Heap,K.In base->base.BuiltinsAt mg Pt->ZX l.prog w K mg base (CX1 l.prog w) 44 fa fd ["_law_script"] (vY (clK K) 1 f_0 Pt (qlT "law")):=by
 obtain⟨f,fd,c,Pt,o,C,ec,tk,hm⟩:=tp;have e:=hfa.symm.trans C.m;cases e;obtain⟨oc,od,kV,doc,pm,an,cdv,ct,osl,rfl,lk,hcd⟩:=C.F.ex;exact⟨_,c,Pt,λs v=> .of_eq rfl,hm,tk.n,tk.h,λbase KB hBT=>Ga (Z:=⟨l.prog,w,K,mg,base,(clK K)⟩) tx tc C ec tk.h hBT⟩
theorem Gb {cl:Nat->Value}{H:Hp}{a Pt:Addr}{o:Obj}{q:Str}{ns:List Int}(hL:f_0 [.fz (ns.map T.int)]= .ok (.bl true))(h:H a=some (.frz o (.lst (ns.map V.int))))(h2:H Pt=some (.tbl #[] q)):vY cl 1 f_0 Pt q [.ref a] H (λv _=>v= .bl true) λ_ _ _=>False:=by
 have scrR:∀ns:List Int,zB H (ns.map V.int) (ns.map T.int):=λns=>by
  induction ns with
  | nil=>exact .nil
  | cons n r ih=>exact .cons (.int n) ih
 refine⟨h2,H,[.fz (ns.map T.int)],rfl,zt.refl H,.cons (.fz h (scrR ns)) .nil, ?_⟩;rw[hL];intro v H' _ r;cases r;rfl
theorem walk {l:PySem.W.OpenLaw}{q:Program}{loose:List Str}{XP:(Str->Option Value)->Heap->Prop}{YP:World->Heap->Prop}{d:DefRec}{K:Params->a9}{ts:List Addr}(hn:l.most=some 63)(hdf:d.params.defaults=[])
  (hL:∀ns:List Int,ns.length<=63->f_0 [.fz (ns.map T.int)]= .ok (.bl true)) (hK:∀p,Q1 (K p)=true)
  (hY:∀(w:World) (h:Heap),YP w h->(K w.params).In h/\∀P∈ts,h.get? P=some (d9 #[]))
  (F:∀(w:World) (mg:Str->Option Value) (fa:Addr) (h:Heap),(K w.params).In h->h.Ns mainGlobals mg->mg d.name=some (.ref fa)->(∀P∈ts,h.get? P=some (d9 #[]))->
   ∃(fd:FuncData) (c Pt:Addr),(∀(s:Shared) (u:Value),BindsTo s fd ⟨[u],[]⟩ [("_law_script",u)])/\h.get? Pt=some (d9 #[])/\(K w.params).lookup Pt=none/\cK (K w.params) c Pt=true/\∀base:Heap,(K w.params).In base->base.BuiltinsAt mg Pt->ZX l.prog w (K w.params) mg base (CX1 l.prog w) 44 fa fd ["_law_script"] (vY (clK (K w.params)) 1 f_0 Pt (qlT "law"))):
  PySem.W.WalkO q loose XP YP l.row.toRowW d [] (λf vs=>ik f vs):=
 L2.walk_ofT (n:=63) (k:=44) (x:="_law_script") (nm:=(qlT "law")) (CX:=λw=>(CX1 l.prog w)) (sp:=λw Pt=>vY (clK (K w.params)) 1 f_0 Pt (qlT "law")) hn (by decide) hdf ⟨rfl,by decide,by decide,rfl⟩ hY (λw a o e c=>Xz (hK w.params) e c) F (λw H a Pt o ns hl h1 h2=>Gb (hL ns hl) h1 h2) λ_ _ _ _ _ ⟨_,_,_,_,_,_,_,z⟩=>z
end G
namespace PySem.W.Fast
noncomputable def tw6799720130653565874:=0
noncomputable def tw17867635907950185523:=0
noncomputable def tw193495284568763956:=0
noncomputable def tw10918885770704030220:=0
noncomputable def tw16526700293997375513:=0
noncomputable def tw9352882560235591948:=0
noncomputable def tw5023313519637058638:=0
noncomputable def tw16847179146098042699:=0
noncomputable def tw2494262092781004685:=0
noncomputable def tw14754781389141617357:=0
noncomputable def tw456056192786765116:=0
noncomputable def tw17590483969106730195:=0
noncomputable def tw5120802247877417130:=0
noncomputable def tw1171155208514675644:=0
noncomputable def tw17036585417607465147:=0
noncomputable def tw11958987727849685102:=0
noncomputable def tw14046041650073387693:=0
noncomputable def tw7996118724724748007:=0
noncomputable def tw10894407852620072346:=0
noncomputable def tw11589434519419739729:=0
noncomputable def tw6086866134340303661:=0
noncomputable def tw18124697398858200905:=0
noncomputable def tw7581399726734839585:=0
noncomputable def tw16025096680973713370:=0
noncomputable def tw11288046084674983682:=0
noncomputable def tw2764374988416421231:=0
noncomputable def tw4845679658557025742:=0
noncomputable def tw6025269532078574606:=0
noncomputable def tw13826137783821706469:=0
noncomputable def tw9292215183413279960:=0
noncomputable def tw4468020892047439169:=0
noncomputable def tw9204318188932118731:=0
noncomputable def tw5700353197471395227:=0
noncomputable def tw4733937171783892645:=0
noncomputable def tw7869667920548015513:=0
noncomputable def tw12796378653819597666:=0
noncomputable def tw14606922130713013378:=0
noncomputable def tw8863854644930911459:=0
noncomputable def tw7654865307441883512:=0
noncomputable def tw2098846336555776592:=0
noncomputable def tw1250527020929130584:=0
noncomputable def tw6012464031032587546:=0
noncomputable def tw6600641326202749199:=0
noncomputable def tw17649777261789594910:=0
noncomputable def tw15720656601290611687:=0
noncomputable def tw13658098049398418263:=0
noncomputable def tw10980294148207841544:=0
noncomputable def tw7007759465001096330:=0
noncomputable def tw5876563714523149220:=0
noncomputable def tw1211543855656487267:=0
noncomputable def tw1865387047754424565:=0
noncomputable def tw10827304982692232344:=0
noncomputable def tw17223894340168273890:=0
noncomputable def tw16057476058820041644:=0
noncomputable def tw15957596915431948428:=0
noncomputable def tw2194174088611357484:=0
noncomputable def tw9952387118322546528:=0
noncomputable def tw3646563995069781708:=0
noncomputable def tw4172339650944276070:=0
noncomputable def tw17388576649797230233:=0
noncomputable def tw9817161305064764578:=0
noncomputable def tw17271064601117779715:=0
noncomputable def tw4102007623004649684:=0
noncomputable def tw5702890666983966346:=0
noncomputable def tw9738356055197524760:=0
noncomputable def tw1175018757586860048:=0
noncomputable def tw508254007548195498:=0
noncomputable def tw7480311222474775369:=0
noncomputable def tw12965111521794763695:=0
noncomputable def tw7296001827358897280:=0
noncomputable def tw785440119281552844:=0
noncomputable def tw8138982129313837042:=0
noncomputable def tw3576871719344503019:=0
noncomputable def tw9861793010062152642:=0
noncomputable def tw17363432149361971299:=0
noncomputable def tw15052936547780282690:=0
noncomputable def tw7599868812656497456:=0
noncomputable def tw14728787719550786754:=0
noncomputable def tw9210839224285218278:=0
noncomputable def tw15321155814424805838:=0
noncomputable def tw6530869304458050623:=0
noncomputable def tw16675341202625686148:=0
noncomputable def tw1261169439162395699:=0
noncomputable def tw5117066312160651875:=0
noncomputable def tw7907654340845255308:=0
noncomputable def tw12622710459548425885:=0
noncomputable def tw15640766771958460917:=0
noncomputable def tw11147077704755429353:=0
noncomputable def tw5837050391145595318:=0
noncomputable def tw16908815224359834485:=0
noncomputable def tw1396949122643969960:=0
noncomputable def tw826569236361314783:=0
noncomputable def tw5294265073661696119:=0
noncomputable def tw15601983940888790617:=0
noncomputable def tw15326429518245094558:=0
noncomputable def tw4572776394018123423:=0
noncomputable def tw12766723221505361180:=0
noncomputable def tw13829434641165877687:=0
noncomputable def tw15766304344142987399:=0
noncomputable def tw796065160310555319:=0
noncomputable def tw10946279566260770248:=0
noncomputable def tw4214646099885317352:=0
noncomputable def tw2938758707051309195:=0
noncomputable def tw6472767612076996766:=0
noncomputable def tw9626524776125792751:=0
noncomputable def tw14829108092284937118:=0
noncomputable def tw10601635999841189182:=0
noncomputable def tw17505357635607739896:=0
noncomputable def tw14877734496074530364:=0
noncomputable def tw6158029608780759070:=0
noncomputable def tw101958664906993520:=0
noncomputable def tw8507155139024581873:=0
noncomputable def tw16984452437411285578:=0
noncomputable def tw7957966379076295670:=0
noncomputable def tw10567990710497003721:=0
noncomputable def tw6346239765195131422:=0
noncomputable def tw14663015777513104815:=0
noncomputable def tw1842864008904968204:=0
noncomputable def tw12585925080199258972:=0
noncomputable def tw7390091807329418138:=0
noncomputable def tw8642609598116045472:=0
noncomputable def tw4557278821440683703:=0
noncomputable def tw15797879595658452100:=0
noncomputable def tw637738425600745100:=0
noncomputable def tw2092380627292395487:=0
noncomputable def tw12981935791085872335:=0
noncomputable def tw16893943341967905454:=0
noncomputable def tw8956765902417067111:=0
noncomputable def tw8846988784561395805:=0
noncomputable def tw13172340503797108171:=0
noncomputable def tw4127376450551938961:=0
noncomputable def tw13548032313039885768:=0
noncomputable def tw14154457756712346317:=0
noncomputable def tw16761196629628153036:=0
noncomputable def tw8548502122114138612:=0
noncomputable def tw7315310211041465553:=0
noncomputable def tw14891862051515048906:=0
noncomputable def tw3735433120069738629:=0
noncomputable def tw17994421832318107065:=0
noncomputable def tw10758406508729420749:=0
noncomputable def tw14093454276285304319:=0
noncomputable def tw14335746883858948959:=0
noncomputable def tw17232751034748620278:=0
noncomputable def tw12850644642622750805:=0
noncomputable def tw4780048248738820574:=0
noncomputable def tw10150239243836175103:=0
noncomputable def tw4862041137184723471:=0
noncomputable def tw12192033341501161995:=0
noncomputable def tw16351602200395015079:=0
noncomputable def tw15268409409535945029:=0
noncomputable def tw12980672803019024881:=0
noncomputable def tw1075162848019790221:=0
noncomputable def tw6571111149028837256:=0
noncomputable def tw5645808674296866056:=0
noncomputable def tw937989708502800908:=0
noncomputable def tw14569035002026232596:=0
noncomputable def tw9986117275601033294:=0
noncomputable def tw1542957138664540196:=0
noncomputable def tw1139163401244262051:=0
noncomputable def tw9665386115004947909:=0
noncomputable def tw4116282322934758665:=0
noncomputable def tw2787280038917450625:=0
noncomputable def tw2854161403421499583:=0
noncomputable def tw4088610790370332062:=0
noncomputable def tw337451698820391272:=0
noncomputable def tw4280509213567784923:=0
noncomputable def tw17423579202163213182:=0
noncomputable def tw7573297811590142489:=0
noncomputable def tw11168409685913083759:=0
noncomputable def tw12709229033337491947:=0
noncomputable def tw18150630928844887820:=0
noncomputable def tw731009744351191807:=0
noncomputable def tw11663476403813547203:=0
noncomputable def tw2958663720098618492:=0
noncomputable def tw7160772634106657657:=0
noncomputable def tw7085755059371333438:=0
noncomputable def tw10071176879331383267:=0
noncomputable def tw17604229660948782805:=0
noncomputable def tw17668491546527465787:=0
noncomputable def tw2898045168314010613:=0
noncomputable def tw13457111570242632998:=0
noncomputable def tw14545512579042468023:=0
noncomputable def tw4115259590768914649:=0
noncomputable def tw18293135379403637045:=0
noncomputable def tw5277381669779372384:=0
noncomputable def tw6968336982764820817:=0
noncomputable def tw12444170690202964959:=0
noncomputable def tw13685868739319264127:=0
noncomputable def tw10213511337575367461:=0
noncomputable def tw16737230476695244162:=0
noncomputable def tw12404590499244569953:=0
noncomputable def tw17570932248122694095:=0
noncomputable def tw671718010744017486:=0
noncomputable def tw12337998550015941185:=0
noncomputable def tw8075966601234795199:=0
noncomputable def tw8309937121443540049:=0
noncomputable def tw693185903429278206:=0
noncomputable def tw13733799159053668167:=0
noncomputable def tw14993201039999996058:=0
noncomputable def tw2452461751115217923:=0
noncomputable def tw15096599842773796066:=0
noncomputable def tw11412147829484715937:=0
noncomputable def tw8224517393447087086:=0
end PySem.W.Fast
open PySem PySem.W PyProof.Rows
set_option maxRecDepth 100000 in
set_option maxHeartbeats 0 in
theorem PySem.Challenge.cw_worthkinds_k87_whole_told_lists_holds : PySem.Challenge.rw_worthkinds_k87_whole_told_lists.Holds := by
 w_on; o_law; k_head; (case hw=>w_witness2)
 k_fill
 refine G.walk (l:=PySem.Challenge.rw_worthkinds_k87_whole_told_lists) rfl rfl G.law_ok ?nl (fun w h Y=>⟨PySem.W.km_in_of Y,PySem.W.km_tabs_of Y⟩) ?F
 case nl=>intro p; kernel_rfl
 case F=>
  intro w mg fa h KX G0 hmg hT
  have tx:G.Tx' KX mg:=by
   constructor
   all_goals first
    | (refine' ⟨_,_,G.fn1 KX G0 ?e ?l ?g ?k (fun F=>F.binds fun _ _ _ _ _ _ us hl=>by first | exact G.lz1 us hl fun _=>rfl | exact G.lz2 us hl fun _ _=>rfl | exact G.lz3 us hl fun _ _ _=>rfl | exact G.lz4 us hl fun _ _ _ _=>rfl)⟩; (case e | l | g | k=>k_is))
    | exact ⟨_,PySem.W.mg_of KX G0 (by k_is),_,rfl⟩
    | exact G.zs_of KX G0 (by kernel_rfl)
  have tc:G.To' KX mg:=by
   constructor
   ·refine' ⟨_,G.clK_at (x:="Sieve") rfl ?ze,⟨?zp, ?zh, ?zo, ?zs⟩,G.no_of ?zn⟩; (case ze=>k_is); (case zp | zh | zo | zs | zn=>kernel_rfl)
   all_goals first
    | (refine' ⟨_,_,_,_,G.clK_at (x:="Sieve") rfl ?ze,G.fo1 ?zi ?zl ?zg ?zk ?zf (fun F=>F.binds fun _ _ _ _ _ _ us hl=>by first | exact G.lz1 us hl fun _=>rfl | exact G.lz2 us hl fun _ _=>rfl | exact G.lz3 us hl fun _ _ _=>rfl | exact G.lz4 us hl fun _ _ _ _=>rfl)⟩; (case ze | zi | zl | zg | zk=>k_is); (case zf=>kernel_rfl))
    | (refine' ⟨_,_,_,_,G.clK_at (x:="Sieve") rfl ?ze,PySem.W.mg_of KX G0 ?ze,⟨?zm, ?zi, ?zf, ?zc⟩,G.fo1 ?zi ?zl ?zg ?zk ?zf (fun F=>F.binds fun _ _ _ _ _ _ us hl=>by first | exact G.lz1 us hl fun _=>rfl | exact G.lz2 us hl fun _ _=>rfl | exact G.lz3 us hl fun _ _ _=>rfl | exact G.lz4 us hl fun _ _ _ _=>rfl)⟩; (case ze | zi | zl | zg | zk | zc=>k_is); (case zf | zm=>kernel_rfl))
  have tp:G.TP KX mg:=by
   refine' ⟨_,_,_,_,_,G.fn1 KX G0 ?e ?l ?g ?k (fun F=>F.binds fun _ _ _ _ _ _ us hl=>by first | exact G.lz1 us hl fun _=>rfl | exact G.lz2 us hl fun _ _=>rfl | exact G.lz3 us hl fun _ _ _=>rfl | exact G.lz4 us hl fun _ _ _ _=>rfl),rfl,⟨?t, ?u, ?h, ?n⟩, ?m⟩; (case e | l | g | k | t=>k_is); (case u=>exact rfl); (case h | n=>kernel_rfl); (case m=>exact hT _ (by decide))
  refine' G.fin_ KX G0 hmg tx tc tp
