import PyProof.Rows.All
import Wide.All
import OpenK.AllK
import Wide.FinOn
import Lean
import PyProof.EqAt
import PyProof.EqKinds
import PyProof.TupleCall
import PyProof.NeKinds
import PyProof.WalksEnum
import PyProof.StrWalks
import PyProof.ExcAttrAll.ValueError
import PyProof.ZipIter
import KE.KRevIter
import PyProof.ListNew
import PyProof.WalksMore
import PyProof.ReprLoop
import PyProof.FactsAll.list
import PyProof.CollectIter
import PyProof.TupleOfGen
import PyProof.Draws
import PyProof.EnumMake
import PyProof.SeqI3
import KE.KMinBuiltin
import PyProof.SetRoads
import PyProof.CollectWalk
import KE.KDictSum
import PyProof.AttrMiss
import PyProof.IsiH_tuple
import KE.KDictOf
import PyProof.FitsBits
import PyProof.SliceList
import PyProof.InstFacts
import PyProof.Rows.StrNews2
import PyProof.StrBlockH
import PyProof.CallStr
import KE.KIntText
import PyProof.Rows.RuleB_pow
import KE.KSortTup
import PyProof.ReprRoads
import PySem.Challenge.RW_worthkinds_k30_whole_common
open PySem renaming wpAny_bind->aa,wpAny_pure->ak,wpAny_newObj_type->aZ,wpAny_field->bp,wpAny_truthy_bool->bv,wpAny_callSpecial?_slot->bI,wpAny_mono->bQ,sizeLine_eq->bS,mem_of_lookup->bW,wpAny_holding->b_,wpAny_call_entry->c7,wpAny_seqItems->cb,wpAny_setField_rec->cc,call_meets->cD,typeIs_int->dE,seqSlot_of->im,call->iK
open List renaming length_map->ac,getElem?_eq_getElem->ad,mem_cons_of_mem->ae,replicate->ag,mem_cons_self->ah,length_cons->al,size_toArray->av,mem_map->aw,mem_cons->ax,getElem?_eq_some_iff->az,length_append->aA,map_cons->aB,range->aC,length_singleton->aD,getElem?_replicate->aF,getElem?_map->aG,length_replicate->aI,all_eq_true->aJ,Nodup->aK,getElem?_set_ne->aM,length_nil->aP,map_map->aQ,lookup_cons->aS,mem_singleton->aT,replicate_succ->aU,length_filter_le->aW,not_mem_nil->aY,length_range->a_,mem_range->ba,mem_append_right->bb,all_cons->bc,getElem?_set_self->bg,append_assoc->bh,length_set->bj,length_take->bn,getElem?_append_right->bo,getElem?_append_left->bq,pairwise_iff_getElem->br,toArray->bw,mem_of_getElem?->bx,length_drop->bB,eq_of_mem_replicate->bF,nil_append->bG,map_replicate->bH,mem_iff_getElem->bJ,map_congr_left->bN,mem_filter->bO,getElem?_eq_none->bP,flatten_cons->bU,mem_append->bV,map_nil->bY,getD_eq_getElem?_getD->ce,drop_eq_getElem_cons->cg,append_nil->ci,pairwise_map->cj,getElem_inj->cv,append_cancel_left->cz,eq_nil_iff_forall_not_mem->cA,range_succ_eq_map->cF,mem_append_left->cL,perm_ext_iff_of_nodup->cO,mem_flatMap->cR,any_eq_true->cS,filterMap_cons->cT,filter_eq_self->cU,sum_cons->cY,nodup_cons->da,of_mem_zip->db,map_append->df,getElem?_cons_succ->dk,filter_cons_of_pos->dl,filter_cons_of_neg->dm,reverse_cons->dA,foldl->dF,cons_append->dH,range'->dI,forIn_cons->dJ,length_reverse->dO,filter_sublist->dQ,mem_filterMap->dW,drop_zero->dZ,getElem?_zip_eq_some->eH,mem_take_iff_getElem->eJ,map_id->eQ,flatMap_cons->eS,length_eq_zero_iff->eZ,nodup_range->fj,pairwise_mergeSort->fk,take_of_length_le->fy,take_eq_take_iff->fI,pairwise_flatMap->fJ,getElem_toArray->fN,mem_of_mem_drop->fQ,mergeSort_perm->fS,takeWhile_cons->fU,perm_singleton->fV,map_drop->fX,getElem?_take->h_,pairwise_cons->i4,all_map->i9,drop_length->io,zipIdx_cons->iq,le_antisymm->ir,getElem_mem->iw,map_reverse->ix,length->iy,not_lt->iB,foldl_cons->iE,zipIdx_nil->iH,filter_map->iI,length_zip->iJ
open Bool renaming and_eq_true->af,false_ne_true->ao,false_eq_true->au,not_true->bi,true_and->bA,eq_false_iff->bE,and_eq_true_iff->ck,eq_iff_iff->dh,or_eq_true->dL,not_eq_true'->eP,or_eq_false_iff->fP
open PySem.W renaming Frag->ai,kitOne->aN,kia_one->bz,keepIn->bL,fnOf->bX,nsIn->bZ,mg_of->c6,findIn->dn,codeIn->dX,methodObj->eK,cellsFrom_some->fu,instObj->fB,lookIn->fK,mroIn->fW,excIn->fY,callWith_K->f_,specialIn->i6,kitx_list->i7,kitx_dict->i8,plainGet->ij,takesIn->iD
open PySem.Heap renaming get?_push_of_some->aj,lt_size->ar,get?_push_size->ay,SameBut->cP,FlyingW->dv,size_push->dy,get?_update_ne->fT,ExtBut->iA
open Nat renaming le_refl->am,le_trans->aq,lt_of_lt_of_le->aE,ne_of_lt->aH,lt_irrefl->bR,zero_le->bT,lt_of_le_of_lt->c9,le_mul_of_pos_right->cx,mul_le_mul->cy,one_mul->cB,le_add_right->cQ,mul_assoc->c_,mul_comm->dt,min_eq_left->dM,add_le_add_left->dN,mul_le_mul_left->dP,pow_succ->dS,lt_succ_of_lt->eN,mul_pos->eR,ne_of_gt->fo,sub_zero->fA,pow_le_pow_right->fO,le_of_lt->i5,zero_add->ie,le_succ->iz,add_mul->iC
open PyProof.Rows renaming slot_tuple_getitem->aL,callWith_type1->bK
open PySem.Str renaming ofString->aO,length->h9
open Option.some renaming inj->aR
open Int renaming toNat_natCast->aV,zero_add->dR,emod_lt_of_pos->eB,eq_ofNat_of_zero_le->fm,emod_nonneg->fE,natCast_add->fF,natCast_mul->iG
open PySem.Builtin.Tuple renaming tupleExact->aX,tupleItemsOf->cM,tupleTooMany->dY
open PySem.Builtin.Slice renaming slicePlaces->bf,sliceAdjust->bC,sliceApplied->c8,sliceFields->eG
open Array renaming length_toList->bu,getElem?_eq_none->cG,getD->d_,perm_iff_toList_perm->e9,getElem?_eq_getElem->eI,append_assoc->fZ
open PySem.Obj renaming mapSeq->bM,data_mapFields->hW
open Ne renaming symm->cf
open PySem.Builtin.List renaming listTooLong->cq
open PyProof.Rows.KeyOrd renaming klt_of_klt_of_kle->cu,kle_of_klt->dB
open PySem.F renaming plainAttrs_list->cw,called_set->cH,slot_int_rmul->cI,slot_zip_next->cJ,args_tuple_add_2->cW,entry_tuple_add->di,slot_tuple_add->dq,slot_tuple_iterator_next->dz,slot_tuple_mul->dG,excBase_ValueError->eC,args_int_rmul_2->eM,slot_int_index->eX,entry_int_rmul->eY,attr_ValueError->f7,args_zip_next_1->f8,slot_list_count->f9,slot_list_index->fg,entry_zip_next->fx,fills_int_mul->fD,args_tuple_mul_2->hU,slot_tuple_rmul->ib,entry_tuple_mul->ic
open False renaming elim->cC
open PySem.SeqAt renaming EqAt->cK,RcNeAt->dw,RcAt->fw
open PySem.Builtin.Str renaming reprChar->cN
open Option renaming isSome_iff_exists->cV,isNone->eV,getD_none->ik
open PySem.PyData renaming showable->de,hasDict->dC,showableAll->eA,hasDictAll->eO,shownAll->fG,depthAll->fH,shown->ig,depth->ii
open PyProof.Rows.F renaming plain_set_update_loop->dj,entry_set_update_loop->e_
open List.Pairwise renaming imp->dD,imp_of_mem->eU
open PySem.Calls renaming Name_function_global->dU,evalArgs_plain->fL
open List.Perm renaming eq_of_pairwise->eT
open PySem.Builtin.Range renaming rangeSize->eW
open PySem.Around renaming under_plainId->fM
open PySem.Heap.SameBut renaming update->fR
open PySem.Heap.IsSliceOf renaming new->g_
open PySem.SeqAt.EqAt renaming of_refs->hJ,same->iF
open PySem.Code renaming quiet_builtin->hV
open PyProof.Rows.SortSt renaming mk'->hZ
open PySem.AutoSeq1 renaming idx_int->il
open PySem.WalksT renaming enumerate->ip
open Classical renaming skolem->iu
noncomputable section
set_option maxHeartbeats 4000000
set_option Elab.async false
set_option linter.all false
set_option maxRecDepth 100000
namespace L2
open PySem PySem.Spec PyProof.Rows
abbrev Key:=Sum Int Str
def Xc:Key->Value->Bool
 | .inl k,v=>Value.isInt k v
 | .inr x,v=>Value.isStrOf x v
def keyH (w:World):Key->Int
 | .inl k=>hashInt k
 | .inr x=>hashStr w x
theorem Z7:∀{k:Key} {v:Value},Xc k v=true->(∃i t,k=Sum.inl i/\v=Value.int i t)\/(∃x t,k=Sum.inr x/\v=Value.str x t)
 | .inl i,v,h=>by
  obtain⟨t,e⟩:=Value.isInt_shape (k:=i) (v:=v) h;exact .inl ⟨i,t,rfl,e⟩
 | .inr x,v,h=>by
  obtain⟨t,e⟩:=Value.isStrOf_shape (x:=x) (v:=v) h;exact .inr ⟨x,t,rfl,e⟩
theorem Xd (a b:Int):decide ((Sum.inl a:Key)=Sum.inl b)=(a == b):=by
 by_cases e:a=b
 ·subst e;simp
 ·have h:¬ (Sum.inl a:Key)=Sum.inl b:=λq=>e (Sum.inl.inj q);rw[decide_eq_false h];exact(beq_eq_false_iff_ne.mpr e).symm
theorem Xe (a b:Str):decide ((Sum.inr a:Key)=Sum.inr b)=decide (a=b):=by
 by_cases e:a=b
 ·subst e;simp
 ·have h:¬ (Sum.inr a:Key)=Sum.inr b:=λq=>e (Sum.inr.inj q);rw[decide_eq_false h,decide_eq_false e]
theorem Xf (a:Int)(b:Str):decide ((Sum.inl a:Key)=Sum.inr b)=false:=decide_eq_false (λq=>nomatch q)
theorem Xg (a:Str)(b:Int):decide ((Sum.inr a:Key)=Sum.inl b)=false:=decide_eq_false (λq=>nomatch q)
def WT (prog:Program)(w:World):PySem.KeyKind prog w Key where
 is:=Xc
 hash:=keyH w
 inj:=λv a b ha hb=>by
  rcases Z7 ha with ⟨i,t,rfl,rfl⟩ | ⟨x,t,rfl,rfl⟩
  ·rcases Z7 hb with ⟨j,u,rfl,e⟩ | ⟨y,u,rfl,e⟩
   ·injection e with e1 _;rw[e1]
   ·exact nomatch e
  ·rcases Z7 hb with ⟨j,u,rfl,e⟩ | ⟨y,u,rfl,e⟩
   ·exact nomatch e
   ·injection e with e1 _;rw[e1]
 byValue:=λk v h=>by
  rcases Z7 h with ⟨i,t,rfl,rfl⟩ | ⟨x,t,rfl,rfl⟩ <;> rfl
 pyHash:=λhv h=>by
  rcases Z7 hv with ⟨i,t,rfl,rfl⟩ | ⟨x,t,rfl,rfl⟩
  ·exact wpAny_pyHash_int h
  ·exact wpAny_pyHash_str h
 eqBool:=λhu hv h=>by
  rcases Z7 hu with ⟨i,t,rfl,rfl⟩ | ⟨x,t,rfl,rfl⟩
  ·rcases Z7 hv with ⟨j,u,rfl,rfl⟩ | ⟨y,u,rfl,rfl⟩
   ·rw[Xd]at h;exact wpAny_eqBool_int h
   ·rw[Xf]at h;exact cK.int_str i t y u _ _ _ _ h
  ·rcases Z7 hv with ⟨j,u,rfl,rfl⟩ | ⟨y,u,rfl,rfl⟩
   ·rw[Xg]at h;exact cK.str_int x t j u _ _ _ _ h
   ·rw[Xe]at h;exact wpAny_eqBool_str h
 «strs»:=λk x t v h=>by
  rcases Z7 h with ⟨i,u,rfl,e⟩ | ⟨y,u,rfl,e⟩
  ·exact nomatch e
  ·injection e with e1 _;subst e1;cases v <;> rfl
end L2
namespace L2
open PySem PySem.Spec PyProof.Rows
inductive V where
 | non | bl (b:Bool) | int (i:Int) | str (x:Str) | byt (b:Array UInt8) | flt (b:UInt64) | ref (a:Addr) | ty (n:String)
 deriving DecidableEq
def RelV:V->Value->Prop
 | .non,u=>u=Value.none
 | .bl b,u=>u=Value.bool b
 | .int i,u=>∃t,u=Value.int i t
 | .str x,u=>∃t,u=Value.str x t
 | .byt b,u=>∃t,u=Value.bytes b t
 | .flt b,u=>∃t,u=Value.float b t
 | .ref a,u=>u=Value.ref a
 | .ty n,u=>u=Value.type n
abbrev Vals:List V->List Value->Prop:=Paired RelV
theorem Vals.length {xs:List V}{us:List Value}(r:Vals xs us):xs.length=us.length:=Paired.length r
theorem Vals.get:∀{xs:List V} {us:List Value} {i:Nat} {x:V},Vals xs us->xs[i]? =some x->∃u,us[i]? =some u/\RelV x u
 | _,_,_,_,.nil,e=>by simp at e
 | _,_,0,_,.cons r _,e=>by simp at e;subst e;exact⟨_,rfl,r⟩
 | _,_,i+1,x,.cons _ t,e=>by
  obtain⟨u,h1,h2⟩:=Vals.get (i:=i) (x:=x) t (by simpa using e)
  exact⟨u,by simpa using h1,h2⟩
theorem Vals.append:∀{xs ys:List V} {us ws:List Value},Vals xs us->Vals ys ws->Vals (xs++ys) (us++ws)
 | _,_,_,_,.nil,s=>s
 | _,_,_,_,.cons r t,s=> .cons r (Vals.append t s)
theorem Vals.take:∀{xs:List V} {us:List Value} (n:Nat),Vals xs us->Vals (xs.take n) (us.take n)
 | _,_,0,_=> .nil
 | _,_,_+1,.nil=> .nil
 | _,_,n+1,.cons r t=> .cons r (Vals.take n t)
theorem Vals.drop:∀{xs:List V} {us:List Value} (n:Nat),Vals xs us->Vals (xs.drop n) (us.drop n)
 | _,_,0,r=>r
 | _,_,_+1,.nil=> .nil
 | _,_,n+1,.cons _ t=>Vals.drop n t
def gE:Option V->Option Value->Prop
 | some v,some u=>RelV v u
 | none,none=>True
 | _,_=>False
def KV {κ:Type}:List (κ×V)->List (κ×Value)->Prop:=Paired λ(p:κ×V) (q:κ×Value)=>p.1=q.1/\RelV p.2 q.2
def kV:Key->V
 | .inl i=> .int i
 | .inr x=> .str x
inductive HO where
 | lst (xs:List V)
 | tup (xs:List V)
 | dK (kvs:List (Key×V)) | dT (kvs:List (List Key×V))
 | set (S:Int->Bool) (n:Nat)
 | ins (C dx:Addr) (fs:List (Str×V))
 | own (x:Addr)
 | xd (fs:List (Str×V))
 | met (f x:Addr)
 | rng (lo hi:Int)
 | frz (o:Obj) (u:HO)
 | tbl (ps:Array Value)
 | ext (φ:Heap->Prop)
abbrev Hp:=Addr->Option HO
def upd (H:Hp)(a:Addr)(o:HO):Hp:=λb=>if b=a then some o else H b
theorem zU {H:Hp}{a:Addr}{o:HO}:upd H a o a=some o:=by unfold upd;rw[if_pos rfl]
theorem zy {H:Hp}{a b:Addr}{o:HO}(h:b ≠ a):upd H a o b=H b:=by unfold upd;rw[if_neg h]
theorem zT {H:Hp}{a b:Addr}{o:HO}(h:H a=some o)(h' :H b=none):a ≠ b:=by
 intro e;subst e;rw[h]at h';cases h'
def ITN (h:Heap)(a:Addr)(its:Array Value):Prop:=IsTup h a its/\((∃i t,its[0]? =some (Value.int i t))\/∃o,h.get? a=some o/\o.dict=none)
theorem ITN.new (h:Heap)(its:Array Value):ITN (h.push { cls:= .type "tuple",data:= .seq its }) h.objs.size its:=⟨IsTup.new h its,.inr ⟨_,ay _ rfl,rfl⟩⟩
section
variable (P:Program)(w:World)
def Zl (H:Hp)(h:Heap)(a:Addr):HO->Prop
 | .lst xs=>xs.length<=sizeLine/\∃(its:List Value) (n:Nat),Vals xs its/\h.get? a=some { cls:= .type "list",data:= .seq its.toArray n }
 | .tup xs=>xs.length<=sizeLine/\∃its:List Value,Vals xs its/\ITN h a its.toArray
 | .dK kvs=>kvs.length<=sizeLine/\(a == sysModules)=false/\∃vs,KV kvs vs/\h.DictOf (WT P w) a vs
 | .dT kvs=>kvs.length<=sizeLine/\(a == sysModules)=false/\∃xs:List (List Key×Addr×Value),
   Paired (λ(p:List Key×V) (q:List Key×Addr×Value)=>p.1=q.1/\H q.2.1=some (.tup (p.1.map kV))/\RelV p.2 q.2.2) kvs xs/\
   ∃o es ep,h.get? a=some o/\o.ExactDict/\o.data= .dict es ep/\es.toList=xs.map (entryOfKey (tupleKind (WT P w)))/\(xs.map (·.1)).Nodup
 | .set S n=>h.SetOf (intKind P w) a S n
 | .ins C dx fs=>H dx=some (.own a)/\fs.length<=1000/\dx ≠ a/\h.get? a=some (fB C dx)/\
   ∃mA,h.Ns1 dx mA/\(∀f,gE (fs.lookup f) (mA f))/\PySem.Within mA (fs.map (·.1))
 | .own _=>∃o,h.get? a=some o
 | .xd fs=>∃mA,h.Ns1 a mA/\∀f,gE (fs.lookup f) (mA f)
 | .rng lo hi=>∃t u v,h.get? a=some { cls:= .type "range",data:= .fields #[.int lo t,.int hi u,.int 1 v] }
 | .frz o u=>h.get? a=some o/\Zl H h a u
 | .tbl ps=>h.get? a=some { cls:= .none,data:= .fields ps }
 | .met f x=>h.get? a=some (eK (.ref f) (.ref x))
 | .ext φ=>φ h/\(∃o,h.get? a=some o)/\∀h1 h2:Heap,φ h1->(∀o,h1.get? a=some o->h2.get? a=some o)->φ h2
def HOk (H:Hp)(h:Heap):Prop:=∀a o,H a=some o->Zl P w H h a o
end
section
variable {P:Program}{w:World}{H H' :Hp}{h h' :Heap}{a:Addr}{o:HO}
theorem Zl.lt (x:Zl P w H h a o):a < h.objs.size:=by
 cases o with
 | lst xs=>obtain⟨_,_,_,_,e⟩:=x;exact ar e
 | tup xs=>obtain⟨_,_,_,p,_⟩:=x;exact p.lt
 | dK kvs=>obtain⟨_,_,_,_,o,_,_,e,_⟩:=x;exact ar e
 | dT kvs=>obtain⟨_,_,_,_,o,_,_,e,_⟩:=x;exact ar e
 | set S n=>obtain⟨o,_,_,_,e,_⟩:=x;exact ar e
 | ins C dx fs=>obtain⟨_,_,_,e,_⟩:=x;exact ar e
 | own y=>obtain⟨_,e⟩:=x;exact ar e
 | xd fs=>obtain⟨_,⟨_,_,_,e,_⟩,_⟩:=x;exact ar e
 | rng lo hi=>obtain⟨_,_,_,e⟩:=x;exact ar e
 | frz ob u=>obtain⟨e,_⟩:=x;exact ar e
 | tbl ps=>exact ar (show h.get? a=some _ from x)
 | met f y=>exact ar (show h.get? a=some _ from x)
 | ext φ=>obtain⟨_,⟨_,e⟩,_⟩:=x;exact ar e
theorem Paired.mapP {α β:Type}{F G:α->β->Prop}:∀{l₁:List α} {l₂:List β},Paired F l₁ l₂->(∀a b,F a b->G a b)->Paired G l₁ l₂
 | _,_,.nil,_=> .nil
 | _,_,.cons r t,f=> .cons (f _ _ r) (Paired.mapP t f)
theorem Zl.stay (x:Zl P w H h a o)(k:∀b u,(b=a\/H b=some (.own a))->h.get? b=some u->h'.get? b=some u)
  (ho:∀b,H b=some (.own a)->H' b=some (.own a)) (ht:∀b xs,H b=some (.tup xs)->H' b=some (.tup xs)):Zl P w H' h' a o:=by
 induction o with
 | lst xs=>obtain⟨z,its,n,r,e⟩:=x;exact⟨z,its,n,r,k _ _ (.inl rfl) e⟩
 | tup xs=>obtain⟨z,its,r,⟨ob,e,c⟩,q⟩:=x;exact⟨z,its,r,⟨ob,k _ _ (.inl rfl) e,c⟩,q.imp id λ⟨o2,e2,d2⟩=>⟨o2,k _ _ (.inl rfl) e2,d2⟩⟩
 | dK kvs=>obtain⟨z,y,vs,r,ob,es,ep,e,c⟩:=x;exact⟨z,y,vs,r,ob,es,ep,k _ _ (.inl rfl) e,c⟩
 | dT kvs=>
  obtain⟨z,y,xs,r,ob,es,ep,e,c⟩:=x;exact⟨z,y,xs,Paired.mapP r λp q z=>⟨z.1,ht _ _ z.2.1,z.2.2⟩,ob,es,ep,k _ _ (.inl rfl) e,c⟩
 | set S n=>obtain⟨ob,es,ep,t,e,c⟩:=x;exact⟨ob,es,ep,t,k _ _ (.inl rfl) e,c⟩
 | ins C dx fs=>
  obtain⟨d,z,ne,e,mA,⟨od,es,ep,e2,c⟩,r⟩:=x;exact⟨ho _ d,z,ne,k _ _ (.inl rfl) e,mA,⟨od,es,ep,k _ _ (.inr d) e2,c⟩,r⟩
 | own y=>obtain⟨ob,e⟩:=x;exact⟨ob,k _ _ (.inl rfl) e⟩
 | xd fs=>obtain⟨mA,⟨od,es,ep,e,c⟩,r⟩:=x;exact⟨mA,⟨od,es,ep,k _ _ (.inl rfl) e,c⟩,r⟩
 | rng lo hi=>obtain⟨t,u,v,e⟩:=x;exact⟨t,u,v,k _ _ (.inl rfl) e⟩
 | frz ob u ih=>obtain⟨e,q⟩:=x;exact⟨k _ _ (.inl rfl) e,ih q⟩
 | tbl ps=>
  have e:h.get? a=some { cls:= .none,data:= .fields ps }:=x;show h'.get? a=some { cls:= .none,data:= .fields ps };exact k a _ (.inl rfl) e
 | met f y=>
  have e:h.get? a=some (eK (.ref f) (.ref y)):=x;show h'.get? a=some (eK (.ref f) (.ref y));exact k a _ (.inl rfl) e
 | ext φ=>obtain⟨p,⟨o,e⟩,st⟩:=x;exact⟨st _ _ p λo q=>k _ _ (.inl rfl) q,⟨o,k _ _ (.inl rfl) e⟩,st⟩
theorem HOk.lt (x:HOk P w H h)(e:H a=some o):a < h.objs.size:=(x a o e).lt
theorem HOk.fresh (x:HOk P w H h)(e:h.objs.size<=a):H a=none:=by
 cases q:H a with
 | none=>rfl
 | some u=>exact absurd (aE (x.lt q) e) (bR _)
theorem HOk.kept (x:HOk P w H h)(k:∀b u,h.get? b=some u->h'.get? b=some u):HOk P w H h' :=λa o e=>
 (x a o e).stay (λb u _ q=>k b u q) (λ_ q=>q) λ_ _ q=>q
theorem HOk.laid (x:HOk P w H h)(k:∀b u,h.get? b=some u->h'.get? b=some u)(hp:h.objs.size<=a)(new:Zl P w (upd H a o) h' a o):HOk P w (upd H a o) h' :=λb u e=>by
 have hn:=x.fresh hp
 by_cases hb:b=a
 ·subst hb;rw[zU]at e;cases e;exact new
 ·rw[zy hb]at e;exact(x b u e).stay (λc v _ q=>k c v q) (λc q=>by rw[zy (zT q hn)];exact q) λc xs q=>by rw[zy (zT q hn)];exact q
end
def Rd (H:Hp)(a:Addr)(u:HO):Prop:=H a=some u\/∃o,H a=some (.frz o u)
theorem Rd.ok {P:Program}{w:World}{H:Hp}{h:Heap}{a:Addr}{u:HO}(r:Rd H a u)(x:HOk P w H h):Zl P w H h a u:=by
 rcases r with r | ⟨o,r⟩
 ·exact x a u r
 ·obtain⟨_,q⟩:=x a _ r;exact q
def Mut:Option HO->Prop
 | some (.lst _)=>True
 | some (.dK _)=>True
 | some (.dT _)=>True
 | some (.set _ _)=>True
 | some (.ins _ _ _)=>True
 | some (.ext _)=>True
 | _=>False
section
variable {P:Program}{w:World}{H:Hp}{h h' :Heap}{x e:Addr}{o' :HO}
theorem HOk.write (ok:HOk P w H h)(mu:Mut (H x))(he:e=x\/H e=some (.own x))(k:∀b u,b ≠ e->h.get? b=some u->h'.get? b=some u)(heo:∃u,h'.get? e=some u)
  (new:Zl P w (upd H x o') h' x o'):HOk P w (upd H x o') h' :=λb u q=>by
 have nown:∀c y,H c=some (.own y)->c ≠ x:=λc y r z=>by subst z;rw[r]at mu;exact mu
 have ntup:∀c xs,H c=some (.tup xs)->c ≠ x:=λc xs r z=>by subst z;rw[r]at mu;exact mu
 by_cases hb:b=x
 ·subst hb;rw[zU]at q;cases q;exact new
 ·rw[zy hb]at q
  by_cases hbe:b=e
  ·have q' :H b=some (.own x):=by
    rcases he with z | z
    ·exact absurd (hbe.trans z) hb
    ·rw[hbe];exact z
   rw[q]at q';cases q';obtain⟨v,hv⟩:=heo;exact⟨v,by rw[hbe];exact hv⟩
  ·refine(ok b u q).stay (λc v hc r=>k c v ?_ r) (λc r=>by rw[zy (nown c b r)];exact r) λc xs r=>by rw[zy (ntup c xs r)];exact r
   rcases hc with rfl | hc
   ·exact hbe
   ·rintro rfl
    rcases he with z | z
    ·exact nown c b hc z
    ·rw[hc]at z;cases z;exact hb rfl
end
structure Un (fs ex:List Addr) (H H' :Hp) (h h' :Heap):Prop where
 keep:∀b o,h.get? b=some o->H b=none->b ∉ fs->b ∉ ex->h'.get? b=some o
 slot:∀b o,h.get? b=some o->H b=none->b∈fs->b ∉ ex->∃sl,h'.get? b=some { o with slots:=sl }
 free:∀b o,h.get? b=some o->H b=none->b ∉ ex->H' b=none
 there:∀b o,h.get? b=some o->b ∉ ex->∃o',h'.get? b=some o'
 tups:∀b xs,H b=some (.tup xs)->H' b=some (.tup xs)
 frzs:∀b o u,H b=some (.frz o u)->H' b=some (.frz o u)
 tbls:∀b ps,H b=some (.tbl ps)->∃more,H' b=some (.tbl (ps++more))
section
variable {fs fs' ex ex' :List Addr}{H H1 H2:Hp}{h h1 h2 h' :Heap}{a x e:Addr}{o:HO}
theorem Un.any (u:Un fs ex H H1 h h1){b:Addr}{ob:Obj}(q:h.get? b=some ob)(n:H b=none)(hx:b ∉ ex):∃sl,h1.get? b=some { ob with slots:=sl }:=by
 by_cases hb:b∈fs
 ·exact u.slot b ob q n hb hx
 ·exact⟨ob.slots,u.keep b ob q n hb hx⟩
theorem Un.kept (k:∀b u,h.get? b=some u->h'.get? b=some u):Un fs ex H H h h' :=
 ⟨λb ob q _ _ _=>k b ob q,λb ob q _ _ _=>⟨ob.slots,k b ob q⟩,λ_ _ _ n _=>n,λb ob q _=>⟨ob,k b ob q⟩,λ_ _ q=>q,λ_ _ _ q=>q,λ_ ps q=>⟨#[],by rw[q];simp⟩⟩
theorem Un.refl:Un fs ex H H h h:=Un.kept λ_ _ q=>q
theorem Un.laid (k:∀b u,h.get? b=some u->h'.get? b=some u)(hp:h.objs.size<=a)(hn:H a=none):Un fs ex H (upd H a o) h h' where
 keep:=λb u q _ _ _=>k b u q
 slot:=λb u q _ _ _=>⟨u.slots,k b u q⟩
 free:=λb u q n _=>by rw[zy (aH (aE (ar q) hp))];exact n
 there:=λb u q _=>⟨u,k b u q⟩
 tups:=λb xs q=>by rw[zy (zT q hn)];exact q
 frzs:=λb u xs q=>by rw[zy (zT q hn)];exact q
 tbls:=λb ps q=>⟨#[],by rw[zy (zT q hn),q];simp⟩
theorem Un.write (mu:Mut (H x))(he:e=x\/H e=some (.own x))(k:∀b u,b ≠ e->h.get? b=some u->h'.get? b=some u)(heo:∃u,h'.get? e=some u):Un fs ex H (upd H x o) h h' :=by
 have hx:∀b,H b=none->b ≠ x:=λb n z=>by subst z;rw[n]at mu;exact mu
 have hb:∀b,H b=none->b ≠ e:=λb n z=>by
  subst z;rcases he with r | r
  ·exact hx b n r
  ·rw[n]at r;cases r
 have hm:∀b u,H b=some u->¬ Mut (some u)->b ≠ x:=λb u q nm z=>by subst z;rw[q]at mu;exact nm mu
 refine⟨λb u q n _ _=>k b u (hb b n) q,λb u q n _ _=>⟨u.slots,k b u (hb b n) q⟩,λb u q n _=>by rw[zy (hx b n)];exact n,λb u q _=> ?_,
  λb xs q=>by rw[zy (hm b _ q λz=>z)];exact q,λb u xs q=>by rw[zy (hm b _ q λz=>z)];exact q,λb ps q=>⟨#[],by rw[zy (hm b _ q λz=>z),q];simp⟩⟩
 by_cases hbe:b=e
 ·subst hbe;exact heo
 ·exact⟨u,k b u hbe q⟩
end
def trk (h:Heap)(H:Hp):List Addr:=(aC h.objs.size).filter λa=>(H a).isSome
def qx (h:Heap)(H:Hp):Heap:=PySem.W.hideAll h (trk h H)
theorem UM (h:Heap)(H:Hp):(qx h H).objs.size=h.objs.size:=PySem.W.hideAll_size _ _
theorem qy {h:Heap}{H:Hp}{b:Addr}{o:Obj}(e:h.get? b=some o)(n:H b=none):(qx h H).get? b=some o:=
 PySem.W.hideAll_get _ e λhm=>by
  have q:(H b).isSome=true:=(bO.mp hm).2;rw[n]at q;simp at q
theorem vY {h:Heap}{H:Hp}{b:Addr}{o:Obj}(e:(qx h H).get? b=some o):h.get? b=some o/\H b=none:=by
 have e' :h.get? b=some o:=PySem.W.of_hideAll (trk h H) e;refine⟨e', ?_⟩;cases q:H b with
 | none=>rfl
 | some x=>
  have hm:b∈trk h H:=bO.mpr ⟨ba.mpr (ar e'),by simp[q]⟩
  have z:(qx h H).get? b=none:=PySem.W.hideAll_none (trk h H) hm;rw[z]at e;cases e
end L2
namespace L2
open PySem PySem.Spec PyProof.Rows
structure Mod (K:ai) (mg:Str->Option Value) (base:Heap):Prop where
 kin:K.In base
 glob:base.Ns mainGlobals mg
 blt:∃mb,base.Ns builtinsNs mb/\∀x:Str,x ≠ "__name__"->mb x=bootBuiltins x
 nolimit:base.NoLimit
structure Cx where
 prog:Program
 w:World
 K:ai
 mg:Str->Option Value
 base:Heap
 A:Around
 N:List Str
 s₀:Shared
 H₀:Hp
 env:Env
 outer:List Env
 stack:List Env
 ex:List Addr
 fn:Str->Bool
 calm:Bool
 pn:List (Addr×Obj)
 xe:Value->Shared->Prop
def frs (l:List Env):List Addr:=l.filterMap (·.frame)
abbrev Cx.fs (X:Cx):List Addr:=frs X.outer
def Vis (sc:Scope)(x:Str):Prop:=sc.names.lookup x=some .local\/sc.names.lookup x=some .cell\/sc.names.lookup x=some .free
def Loc (sc:Scope)(x:Str):Prop:=sc.names.lookup x=some .local\/sc.names.lookup x=some .cell
def Look (env:Env)(h:Heap)(m:Str->Option Value)(x:Str)(u:Value):Prop:=
 (env.kindOf x=some .local/\m x=some u)\/((env.kindOf x=some .cell\/env.kindOf x=some .free)/\∃c,env.cells.lookup x=some c/\h.IsCell c (some u))
structure Cx.Ok (X:Cx):Prop where
 mod:Mod X.K X.mg X.base
 kind:X.env.scope.kind= .function
 glob:X.env.globals=mainGlobals
 blt:X.env.builtins=builtinsNs
 above:X.s₀.heap.objs.size<=X.env.locals
 inj:∀x y c,X.env.cells.lookup x=some c->X.env.cells.lookup y=some c->x=y
 has:∀x,(X.env.kindOf x=some .cell\/X.env.kindOf x=some .free)->∃c,X.env.cells.lookup x=some c
 cab:∀x c,X.fn x=true->X.env.cells.lookup x=some c->X.s₀.heap.objs.size<=c
 hd:X.calm=true->X.A.handled=none
 frames:X.A.frames=some X.stack
 stk:X.stack=X.outer\/(X.stack=X.env :: X.outer/\X.env.frame=some X.env.locals)
 exf:∀b∈X.ex,b ≠ X.env.locals/\∀x c,X.env.cells.lookup x=some c->c ≠ b
 bs:∀b o,X.base.get? b=some o->X.s₀.heap.get? b=some o/\X.H₀ b=none
 bsz:X.base.objs.size<=X.s₀.heap.objs.size
 noex:∀b o,X.base.get? b=some o->b ∉ X.ex
 exfs:∀b∈X.ex,b ∉ X.fs
 funs:X.s₀.heap.FunFrames X.base X.outer
 frf:∀b∈X.fs,X.H₀ b=none
structure Inv (X:Cx) (pins:List (Addr×Obj)) (σ:List (Option V)) (H:Hp) (s:Shared):Prop where
 ok:X.Ok
 os:s.os=X.s₀.os
 bare:AllBare s.gens
 base:Un X.fs X.ex X.H₀ H X.s₀.heap s.heap
 loc:∃m,s.heap.Ns X.env.locals m/\∀(i:Nat) (x:Str) (v:V),X.N[i]? =some x->σ[i]? =some (some v)->Vis X.env.scope x->∃u,RelV v u/\Look X.env s.heap m x u
 cell:∀x c,X.env.cells.lookup x=some c->∃v,s.heap.IsCell c v
 free:H X.env.locals=none
 freeC:∀x c,X.env.cells.lookup x=some c->H c=none
 pin:∀p∈X.pn++pins,s.heap.get? p.1=some p.2/\H p.1=none/\p.1 ≠ X.env.locals/\p.1 ∉ X.fs/\∀v,p.2.data ≠ .cell v
 hok:HOk X.prog X.w H s.heap
 len:σ.length=X.N.length
section
variable {X:Cx}{pins:List (Addr×Obj)}{σ:List (Option V)}{H H' :Hp}{s:Shared}{h' :Heap}
theorem Cx.Ok.nofr (ok:X.Ok){b:Addr}{o:Obj}(e:X.base.get? b=some o):b ∉ X.fs:=λhb=>by
 have:=(ok.funs.mem hb).1;rw[e]at this;cases this
theorem Inv.bs (I:Inv X pins σ H s):∀b o,X.base.get? b=some o->s.heap.get? b=some o/\H b=none:=λb o e=>
 ⟨I.base.keep b o (I.ok.bs b o e).1 (I.ok.bs b o e).2 (I.ok.nofr e) (I.ok.noex b o e),I.base.free b o (I.ok.bs b o e).1 (I.ok.bs b o e).2 (I.ok.noex b o e)⟩
theorem Inv.bk (I:Inv X pins σ H s):∀b o,X.base.get? b=some o->s.heap.get? b=some o:=λb o e=>(I.bs b o e).1
theorem Inv.mod (I:Inv X pins σ H s):Mod X.K X.mg X.base:=I.ok.mod
theorem Inv.kIn (I:Inv X pins σ H s):X.K.In s.heap:=I.ok.mod.kin.keeps I.bk
theorem Inv.lt (I:Inv X pins σ H s):X.env.locals < s.heap.objs.size:=let ⟨_,hn,_⟩:=I.loc;hn.lt
theorem Inv.sz (I:Inv X pins σ H s):X.s₀.heap.objs.size<=s.heap.objs.size:=aq I.ok.above (i5 I.lt)
theorem Inv.nofs (I:Inv X pins σ H s){a:Addr}(h:s.heap.objs.size<=a):a ∉ X.fs:=λhb=>by
 obtain⟨_,o,ho,_⟩:=I.ok.funs.mem hb;exact absurd (aE (ar ho) (aq I.sz h)) (bR _)
theorem Inv.cne (I:Inv X pins σ H s):∀x c,X.env.cells.lookup x=some c->c ≠ X.env.locals:=λx c e z=>by
 obtain⟨v,o,ho,hd⟩:=I.cell x c e;obtain⟨m,⟨o',es,ep,ho',hd',_⟩,_⟩:=I.loc;rw[z,ho']at ho;cases ho;rw[hd']at hd;cases hd
theorem Inv.funs (I:Inv X pins σ H s):s.heap.FunFrames X.base X.outer:=by
 have all:∀(l:List Env),(∀b∈frs l,b∈X.fs)->X.s₀.heap.FunFrames X.base l->s.heap.FunFrames X.base l:=by
  intro l
  induction l with
  | nil=>intro _ _;trivial
  | cons env r ih=>
   intro hs hl;obtain⟨hk,⟨L,o,hf,hn,ho,hd⟩,hr⟩:=hl;have hL:L∈X.fs:=hs L (by unfold frs;rw[cT,hf];exact ah)
   obtain⟨sl,e⟩:=I.base.slot L o ho (I.ok.frf L hL) hL λz=>I.ok.exfs L z hL;exact⟨hk,⟨L,_,hf,hn,e,hd⟩,ih (λb hb=>hs b (by unfold frs;rw[cT,hf];exact ae _ hb)) hr⟩
 exact all X.outer (λ_ hb=>hb) I.ok.funs
theorem Inv.stack (I:Inv X pins σ H s):s.heap.FunFrames X.base X.stack:=by
 rcases I.ok.stk with e | ⟨e,hf⟩
 ·rw[e];exact I.funs
 ·rw[e];obtain⟨m,hn,_⟩:=I.loc;refine .cons (by rw[I.ok.kind];decide) hf hn ?_ I.funs
  exact Heap.get?_none_of_le (aq I.ok.bsz I.ok.above)
theorem Inv.stkSub (I:Inv X pins σ H s):∀b∈frs X.stack,b∈X.env.locals :: X.fs:=λb hb=>by
 rcases I.ok.stk with e | ⟨e,hf⟩
 ·rw[e]at hb;exact ae _ hb
 ·rw[e]at hb;unfold frs at hb;rw[cT,hf]at hb;exact hb
theorem Inv.stkFree (I:Inv X pins σ H s):∀b∈frs X.stack,H b=none:=λb hb=>by
 rcases ax.mp (I.stkSub b hb) with e | hb
 ·rw[e];exact I.free
 ·obtain⟨_,o,ho,_⟩:=I.ok.funs.mem hb;exact I.base.free b o ho (I.ok.frf b hb) λz=>I.ok.exfs b z hb
theorem Inv.step {g' :Array GenState}{t' :Nat}{d' :Drawn}{ch:List Addr}(I:Inv X pins σ H s)
  (hch:∀b∈ch,(b∈X.ex\/X.s₀.heap.objs.size<=b)/\b ≠ X.env.locals/\(∀x c,X.env.cells.lookup x=some c->c ≠ b)/\∀p∈X.pn++pins,p.1 ≠ b)
  (keep:∀b o,b ≠ X.env.locals->b ∉ X.fs->b ∉ ch->s.heap.get? b=some o->H b=none->h'.get? b=some o)
  (slot:∀b o,b ≠ X.env.locals->b∈X.fs->b ∉ ch->s.heap.get? b=some o->H b=none->∃sl,h'.get? b=some { o with slots:=sl }) (free:∀b o,b ∉ ch->s.heap.get? b=some o->H b=none->H' b=none)
  (there:∀b o,b ∉ ch->s.heap.get? b=some o->∃o',h'.get? b=some o')
  (tups:∀b xs,H b=some (.tup xs)->H' b=some (.tup xs)) (frzs:∀b o u,H b=some (.frz o u)->H' b=some (.frz o u)) (tbls:∀b ps,H b=some (.tbl ps)->∃more,H' b=some (.tbl (ps++more)))
  (ns:∀m,s.heap.Ns X.env.locals m->h'.Ns X.env.locals m) (hok:HOk X.prog X.w H' h') (hg:AllBare g'):
  Inv X pins σ H' { s with heap:=h',gens:=g',drawn:=d',toks:=t' }:=by
 have neL:∀b o,X.s₀.heap.get? b=some o->b ≠ X.env.locals:=λb o e=>aH (aE (ar e) I.ok.above);have neC:∀b o,X.s₀.heap.get? b=some o->b ∉ X.ex->b ∉ ch:=λb o e hx hb=>by
  rcases(hch b hb).1 with z | z
  ·exact hx z
  ·exact absurd (aE (ar e) z) (bR _)
 have cellK:∀x c,X.env.cells.lookup x=some c->∀v,s.heap.IsCell c v->h'.IsCell c v:=λx c e v ⟨o,ho,hd⟩=>by
  have nch:c ∉ ch:=λz=>(hch c z).2.2.1 x c e rfl
  by_cases hc:c∈X.fs
  ·obtain⟨sl,q⟩:=slot c o (I.cne x c e) hc nch ho (I.freeC x c e);exact⟨_,q,hd⟩
  ·exact⟨o,keep c o (I.cne x c e) hc nch ho (I.freeC x c e),hd⟩
 refine⟨I.ok,I.os,hg,⟨λb o e n hb hx=> ?_,λb o e n hb hx=> ?_,λb o e n hx=> ?_,λb o e hx=> ?_,λb xs e=>tups b xs (I.base.tups b xs e),λb o xs e=>frzs b o xs (I.base.frzs b o xs e),λb ps e=> ?_⟩, ?_,λx c e=> ?_, ?_,λx c e=> ?_,λp hp=> ?_,hok,I.len⟩
 ·exact keep b o (neL b o e) hb (neC b o e hx) (I.base.keep b o e n hb hx) (I.base.free b o e n hx)
 ·obtain⟨sl,e1⟩:=I.base.slot b o e n hb hx;obtain⟨sl',e2⟩:=slot b _ (neL b o e) hb (neC b o e hx) e1 (I.base.free b o e n hx);exact⟨sl',e2⟩
 ·obtain⟨o',e1⟩:=I.base.there b o e hx;exact free b o' (neC b o e hx) e1 (I.base.free b o e n hx)
 ·obtain⟨o',e1⟩:=I.base.there b o e hx;exact there b o' (neC b o e hx) e1
 ·obtain⟨m1,e1⟩:=I.base.tbls b ps e;obtain⟨m2,e2⟩:=tbls b _ e1;exact⟨m1++m2,by rw[e2,fZ]⟩
 ·obtain⟨m,hn,hl⟩:=I.loc;refine⟨m,ns m hn,λi x v e1 e2 e3=> ?_⟩;obtain⟨u,r,l⟩:=hl i x v e1 e2 e3;refine⟨u,r, ?_⟩;rcases l with l | ⟨k,c,e,z⟩
  ·exact .inl l
  ·exact .inr ⟨k,c,e,cellK x c e _ z⟩
 ·obtain⟨v,z⟩:=I.cell x c e;exact⟨v,cellK x c e v z⟩
 ·obtain⟨m,⟨o,_,_,ho,_⟩,_⟩:=I.loc;exact free _ o (λz=>(hch _ z).2.1 rfl) ho I.free
 ·obtain⟨v,o,ho,hd⟩:=I.cell x c e;exact free c o (λz=>(hch c z).2.2.1 x c e rfl) ho (I.freeC x c e)
 ·obtain⟨e,n,ne,nf,d⟩:=I.pin p hp;have nch:p.1 ∉ ch:=λz=>(hch p.1 z).2.2.2 p hp rfl;exact⟨keep p.1 p.2 ne nf nch e n,free p.1 p.2 nch e n,ne,nf,d⟩
theorem Inv.un {t' :Nat}(I:Inv X pins σ H s)(u:Un X.fs [] H H' s.heap h')(hok:HOk X.prog X.w H' h'):Inv X pins σ H' { s with heap:=h',toks:=t' }:=by
 obtain⟨m,⟨o,es,ep,ho,r⟩,_⟩:=id I.loc;obtain⟨sl,hL⟩:=u.any ho I.free (by simp)
 exact I.step (g' :=s.gens) (d' :=s.drawn) (ch:=[]) (λ_ z=>nomatch z) (λb o _ hb _ e n=>u.keep b o e n hb (by simp)) (λb o _ hb _ e n=>u.slot b o e n hb (by simp)) (λb o _ e n=>u.free b o e n (by simp)) (λb o _ e=>u.there b o e (by simp)) u.tups u.frzs u.tbls (λm' hm=>by
  obtain⟨o',es',ep',ho',r'⟩:=hm;rw[ho]at ho';cases ho';exact⟨_,es',ep',hL,r'⟩) hok I.bare
theorem Inv.call {g' :Array GenState}{t' :Nat}{d' :Drawn}{ch:List Addr}(I:Inv X pins σ H s)(u:Un (frs X.stack) ch H H' s.heap h')(hok:HOk X.prog X.w H' h')(hg:AllBare g')
  (hch:∀b∈ch,(b∈X.ex\/X.s₀.heap.objs.size<=b)/\b ≠ X.env.locals/\(∀x c,X.env.cells.lookup x=some c->c ≠ b)/\∀p∈X.pn++pins,p.1 ≠ b):
  Inv X pins σ H' { s with heap:=h',gens:=g',drawn:=d',toks:=t' }:=by
 obtain⟨m,⟨o,es,ep,ho,r⟩,_⟩:=id I.loc;obtain⟨sl,hL⟩:=u.any ho I.free λz=>(hch _ z).2.1 rfl;exact I.step (ch:=ch) hch (λb o hL hb hc e n=>u.keep b o e n (λz=>(ax.mp (I.stkSub b z)).elim hL hb) hc) (λb o _ _ hc e n=>u.any e n hc) (λb o hc e n=>u.free b o e n hc) (λb o hc e=>u.there b o e hc) u.tups u.frzs u.tbls (λm' hm=>by
  obtain⟨o',es',ep',ho',r'⟩:=hm;rw[ho]at ho';cases ho';exact⟨_,es',ep',hL,r'⟩) hok hg
theorem Inv.turned {t' :Nat}{it:Addr}(I:Inv X pins σ H s)(k:∀b o,b ≠ it->s.heap.get? b=some o->h'.get? b=some o)(hn:H it=none)(hL:it ≠ X.env.locals)
  (h1:it∈X.ex\/X.s₀.heap.objs.size<=it) (h2:∀x c,X.env.cells.lookup x=some c->c ≠ it) (h3:∀p∈X.pn++pins,p.1 ≠ it):Inv X pins σ H { s with heap:=h',toks:=t' }:=by
 have nit:∀b u,H b=some u->b ≠ it:=λb u e z=>by rw[z,hn]at e;cases e
 refine I.step (g' :=s.gens) (d' :=s.drawn) (ch:=[it]) (λb hb=> ?_) (λb o _ _ hc e _=>k b o (λz=>hc (by simp[z])) e) (λb o _ _ hc e _=>⟨o.slots,k b o (λz=>hc (by simp[z])) e⟩) (λ_ _ _ _ n=>n)
  (λb o hc e=>⟨o,k b o (λz=>hc (by simp[z])) e⟩) (λ_ _ e=>e) (λ_ _ _ e=>e) (λb ps e=>⟨#[],by rw[e];simp⟩) (λm hm=> ?_) (λb u e=> ?_) I.bare
 ·have e:b=it:=by simpa using hb
  subst e;exact⟨h1,hL,h2,h3⟩
 ·obtain⟨o,es,ep,ho,r⟩:=hm;exact⟨o,es,ep,k _ o (cf hL) ho,r⟩
 ·refine(I.hok b u e).stay (λc v hc q=>k c v ?_ q) (λ_ q=>q) λ_ _ q=>q;rcases hc with z | z
  ·rw[z];exact nit b u e
  ·exact nit c _ z
theorem Inv.tok (I:Inv X pins σ H s)(t:Nat):Inv X pins σ H { s with toks:=t }:=I.un (h' :=s.heap) (t' :=t) Un.refl I.hok
theorem Inv.kept {t' :Nat}(I:Inv X pins σ H s)(k:∀b u,s.heap.get? b=some u->h'.get? b=some u):Inv X pins σ H { s with heap:=h',toks:=t' }:=I.un (Un.kept k) (I.hok.kept k)
theorem Inv.laid {a:Addr}{o:HO}{t' :Nat}(I:Inv X pins σ H s)(k:∀b u,s.heap.get? b=some u->h'.get? b=some u)(hp:s.heap.objs.size<=a)(new:Zl X.prog X.w (upd H a o) h' a o):
  Inv X pins σ (upd H a o) { s with heap:=h',toks:=t' }:=I.un (Un.laid k hp (I.hok.fresh hp)) (I.hok.laid k hp new)
theorem Inv.write {x e:Addr}{o:HO}{t' :Nat}(I:Inv X pins σ H s)(mu:Mut (H x))(he:e=x\/H e=some (.own x))(k:∀b u,b ≠ e->s.heap.get? b=some u->h'.get? b=some u)(heo:∃u,h'.get? e=some u)
  (new:Zl X.prog X.w (upd H x o) h' x o):Inv X pins σ (upd H x o) { s with heap:=h',toks:=t' }:=I.un (Un.write mu he k heo) (I.hok.write mu he k heo new)
theorem Inv.pins_of {pins' :List (Addr×Obj)}(I:Inv X pins σ H s)(h:∀p∈pins',s.heap.get? p.1=some p.2/\H p.1=none/\p.1 ≠ X.env.locals/\p.1 ∉ X.fs/\∀v,p.2.data ≠ .cell v):Inv X pins' σ H s:=
 ⟨I.ok,I.os,I.bare,I.base,I.loc,I.cell,I.free,I.freeC,λp hp=>(bV.mp hp).elim (λz=>I.pin p (cL _ z)) (h p),I.hok,I.len⟩
theorem wB {N:List Str}(hN:N.Nodup){i j:Nat}{x:Str}(a:N[i]? =some x)(b:N[j]? =some x):i=j:=by
 obtain⟨h1,e1⟩:=az.mp a;obtain⟨h2,e2⟩:=az.mp b;exact(cv hN).mp (e1.trans e2.symm)
theorem W6 {M:Model}{A:Around}{E:Value->Shared->Prop}{i:Nat}{x:Str}{v:V}{u:Value}{Q:Unit->Shared->Prop}(I:Inv X pins σ H s)(hN:X.N.Nodup)(hi:X.N[i]? =some x)(hx:Loc X.env.scope x)(r:RelV v u)
  (h:∀s',Inv X pins (σ.set i (some v)) H s' ->(∃a,cP a s.heap s'.heap/\(a=X.env.locals\/X.env.cells.lookup x=some a))->Q () s') (hf:X.fn x=true\/X.env.scope.names.lookup x=some .local:=by first | exact .inl rfl | exact .inr rfl | assumption):wpAny M A (storeName X.env x u) Q E s:=by
 obtain⟨m,hn,hl⟩:=id I.loc;have hcls:(X.env.scope.kind == .class || (X.env.scope.kind == .module && X.env.locals != X.env.globals))=false:=by rw[I.ok.kind];rfl
 have hiσ:i < σ.length:=by rw[I.len];exact(az.mp hi).1
 have cne:=I.cne;have tracked:∀{a:Addr} {h' :Heap},(∃o,s.heap.get? a=some o/\H a=none)->cP a s.heap h' ->HOk X.prog X.w H h' :=λ{a h'} ha hs b ob e=>by
  obtain⟨_,_,hfree⟩:=ha;refine(I.hok b ob e).stay (λc w' hc q=>(hs.2 c ?_).trans q) (λ_ q=>q) λ_ _ q=>q
  rintro rfl
  rcases hc with rfl | hc
  ·rw[hfree]at e;cases e
  ·rw[hfree]at hc;cases hc
 rcases hx with hk | hk
 ·refine wpAny_storeName_local hk hn (λh' hn' hs=> ?_) hcls;obtain⟨oL,_,_,hoL,_⟩:=id hn;refine h _ ⟨I.ok,I.os,I.bare,⟨λb o e n hb hx=> ?_,λb o e n hb hx=> ?_,I.base.free,λb o e hx=> ?_,I.base.tups,I.base.frzs,I.base.tbls⟩,⟨_,hn',λj y v' e1 e2 e3=> ?_⟩,λy c e=> ?_,I.free,I.freeC,λp hp=> ?_,tracked ⟨oL,hoL,I.free⟩ hs,by simpa using I.len⟩ ⟨_,hs,.inl rfl⟩
  ·exact(hs.2 b (aH (aE (ar e) I.ok.above))).trans (I.base.keep b o e n hb hx)
  ·obtain⟨sl,e1⟩:=I.base.slot b o e n hb hx;exact⟨sl,(hs.2 b (aH (aE (ar e) I.ok.above))).trans e1⟩
  ·obtain⟨o',e1⟩:=I.base.there b o e hx;exact⟨o',(hs.2 b (aH (aE (ar e) I.ok.above))).trans e1⟩
  ·by_cases hj:j=i
   ·subst hj;rw[hi]at e1;cases e1;rw[bg hiσ]at e2;cases e2;exact⟨u,r,.inl ⟨hk,by simp⟩⟩
   ·rw[aM (cf hj)]at e2;obtain⟨u',r',q⟩:=hl j y v' e1 e2 e3;refine⟨u',r', ?_⟩;rcases q with ⟨k,e⟩ | ⟨k,c,e,z⟩
    ·refine .inl ⟨k, ?_⟩;have:y ≠ x:=λe=>hj (wB hN e1 (e ▸ hi));simp[this,e]
    ·exact .inr ⟨k,c,e,z.sameBut hs (cne y c e)⟩
  ·obtain⟨w',z⟩:=I.cell y c e;exact⟨w',z.sameBut hs (cne y c e)⟩
  ·obtain⟨e,n,ne,nf,d⟩:=I.pin p hp;exact⟨(hs.2 p.1 ne).trans e,n,ne,nf,d⟩
 ·have hfn:X.fn x=true:=by
   rcases hf with z | z
   ·exact z
   ·rw[z]at hk;cases hk
  obtain⟨c,hc⟩:=I.ok.has x (.inl hk);obtain⟨w',z⟩:=I.cell x c hc;refine wpAny_storeName_cell I.ok.kind hk hc z (λh' hc' hs=> ?_);obtain⟨oc,hoc,hocd⟩:=id z;refine h { s with heap:=h' } ⟨I.ok,I.os,I.bare,⟨λb o e n hb hx=> ?_,λb o e n hb hx=> ?_,I.base.free,λb o e hx=> ?_,I.base.tups,I.base.frzs,I.base.tbls⟩,⟨m,hn.sameBut hs (cf (cne x c hc)),λj y v' e1 e2 e3=> ?_⟩,λy c' e=> ?_,I.free,I.freeC,λp hp=> ?_,tracked ⟨oc,hoc,I.freeC x c hc⟩ hs,by simpa using I.len⟩ ⟨c,hs,.inr hc⟩
  ·exact(hs.2 b (aH (aE (ar e) (I.ok.cab x c hfn hc)))).trans (I.base.keep b o e n hb hx)
  ·obtain⟨sl,e1⟩:=I.base.slot b o e n hb hx;exact⟨sl,(hs.2 b (aH (aE (ar e) (I.ok.cab x c hfn hc)))).trans e1⟩
  ·obtain⟨o',e1⟩:=I.base.there b o e hx;exact⟨o',(hs.2 b (aH (aE (ar e) (I.ok.cab x c hfn hc)))).trans e1⟩
  ·by_cases hj:j=i
   ·subst hj;rw[hi]at e1;cases e1;rw[bg hiσ]at e2;cases e2;exact⟨u,r,.inr ⟨.inl hk,c,hc,hc'⟩⟩
   ·rw[aM (cf hj)]at e2;obtain⟨u',r',q⟩:=hl j y v' e1 e2 e3;refine⟨u',r', ?_⟩;rcases q with q | ⟨k,c',e,z'⟩
    ·exact .inl q
    ·refine .inr ⟨k,c',e,z'.sameBut hs ?_⟩
     rintro rfl
     exact hj (wB hN e1 (I.ok.inj _ _ _ e hc ▸ hi))
  ·by_cases hcc:c' =c
   ·subst hcc;exact⟨_,hc'⟩
   ·obtain⟨w2,z2⟩:=I.cell y c' e;exact⟨w2,z2.sameBut hs hcc⟩
  ·obtain⟨e,n,ne,nf,d⟩:=I.pin p hp;refine⟨(hs.2 p.1 ?_).trans e,n,ne,nf,d⟩;intro q;rw[q,hoc]at e;have q' :oc=p.2:=aR e;exact d w' (by rw[← q'];exact hocd)
theorem jC {M:Model}{A:Around}{E:Value->Shared->Prop}{i:Nat}{x:Str}{v:V}{u:Value}{Q:Unit->Shared->Prop}(I:Inv X pins σ H s)(hN:X.N.Nodup)(hi:X.N[i]? =some x)(hx:Loc X.env.scope x)(r:RelV v u)
  (h:∀s',Inv X pins (σ.set i (some v)) H s' ->Q () s') (hf:X.fn x=true\/X.env.scope.names.lookup x=some .local:=by first | exact .inl rfl | exact .inr rfl | assumption):wpAny M A (storeName X.env x u) Q E s:=
 W6 I hN hi hx r (λs' I' _=>h s' I') hf
theorem Inv.call' {s' :Shared}{ch:List Addr}(I:Inv X pins σ H s)(ho:s'.os=s.os)(u:Un (frs X.stack) ch H H' s.heap s'.heap)(hok:HOk X.prog X.w H' s'.heap)(hg:AllBare s'.gens)
  (hch:∀b∈ch,(b∈X.ex\/X.s₀.heap.objs.size<=b)/\b ≠ X.env.locals/\(∀x c,X.env.cells.lookup x=some c->c ≠ b)/\∀p∈X.pn++pins,p.1 ≠ b):Inv X pins σ H' s' :=by
 obtain⟨h',g',d',t',o'⟩:=s';have e:o' =s.os:=ho;subst e;exact I.call (g' :=g') (t' :=t') (d' :=d') u hok hg hch
end
abbrev XK:=Value->Option Addr->Hp->Prop
abbrev St:=List (Option V)
abbrev VK:=V->Hp->Prop
abbrev TE:=St->Hp->VK->Prop
abbrev TT:=St->Hp->(Bool->Hp->Prop)->Prop
abbrev TA:=St->Hp->(List V->Hp->Prop)->Prop
structure qz where
 nx:St->Hp->Prop
 rt:VK
 bk:St->Hp->Prop:=λ_ _=>False
 ct:St->Hp->Prop:=λ_ _=>False
abbrev TS:=qz->St->Hp->Prop
def EP (X:Cx)(pins:List (Addr×Obj))(σ:St)(Q:VK)(u:Value)(s' :Shared):Prop:=∃v H',Inv X pins σ H' s' /\RelV v u/\Q v H'
def TP (X:Cx)(pins:List (Addr×Obj))(σ:St)(Q:Bool->Hp->Prop)(b:Bool)(s' :Shared):Prop:=∃H',Inv X pins σ H' s' /\Q b H'
def AP (X:Cx)(pins:List (Addr×Obj))(σ:St)(Q:List V->Hp->Prop)(us:List Value)(s' :Shared):Prop:=∃vs H',Inv X pins σ H' s' /\Vals vs us/\Q vs H'
def SP (X:Cx)(pins:List (Addr×Obj))(D:qz)(f:Flow)(s' :Shared):Prop:=
 match f with
 | .next=>∃σ' H',Inv X pins σ' H' s' /\D.nx σ' H'
 | .brk=>∃σ' H',Inv X pins σ' H' s' /\D.bk σ' H'
 | .cont=>∃σ' H',Inv X pins σ' H' s' /\D.ct σ' H'
 | .ret u=>∃v σ' H',Inv X pins σ' H' s' /\RelV v u/\D.rt v H'
def PE (X:Cx)(e:Expr)(t:TE):Prop:=
 ∀(pins:List (Addr×Obj)) (s:Shared) (σ:St) (H:Hp) (Q:VK),Inv X pins σ H s->t σ H Q->wpAny (model X.prog X.w) X.A (eval e X.env) (EP X pins σ Q) X.xe s
def PT (X:Cx)(e:Expr)(t:TT):Prop:=
 ∀(pins:List (Addr×Obj)) (s:Shared) (σ:St) (H:Hp) (Q:Bool->Hp->Prop),Inv X pins σ H s->t σ H Q->wpAny (model X.prog X.w) X.A (isTrue e X.env (eval e X.env)) (TP X pins σ Q) X.xe s
def PW (X:Cx)(e:Expr)(t:TT):Prop:=
 ∀(whole:Sem Value) (pins:List (Addr×Obj)) (s:Shared) (σ:St) (H:Hp) (Q:Bool->Hp->Prop),Inv X pins σ H s->t σ H Q->wpAny (model X.prog X.w) X.A (isTrue e X.env whole) (TP X pins σ Q) X.xe s
theorem PW.pt {X:Cx}{e:Expr}{t:TT}(h:PW X e t):PT X e t:=h _
def PA (X:Cx)(es:List Expr)(t:TA):Prop:=
 ∀(pos:Pos) (pins:List (Addr×Obj)) (s:Shared) (σ:St) (H:Hp) (Q:List V->Hp->Prop),Inv X pins σ H s->t σ H Q->wpAny (model X.prog X.w) X.A (spliced (backTo pos (starEach es X.env))) (AP X pins σ Q) X.xe s
def PS (X:Cx)(st:Stmt)(t:TS):Prop:=
 ∀(pins:List (Addr×Obj)) (s:Shared) (σ:St) (H:Hp) (D:qz),Inv X pins σ H s->t D σ H->wpAny (model X.prog X.w) X.A (exec st X.env) (SP X pins D) X.xe s
def PSs (X:Cx)(st:List Stmt)(t:TS):Prop:=
 ∀(pins:List (Addr×Obj)) (s:Shared) (σ:St) (H:Hp) (D:qz),Inv X pins σ H s->t D σ H->wpAny (model X.prog X.w) X.A (execs st X.env) (SP X pins D) X.xe s
theorem thn {α:Type}{t:Sem α}{Q Q' :α->Shared->Prop}{M:Model}{A:Around}{E:Value->Shared->Prop}{s:Shared}(h:wpAny M A t Q E s)(hQ:∀a s,Q a s->Q' a s):wpAny M A t Q' E s:=bQ h hQ λ_ _ x=>x
end L2
namespace L2
open PySem PySem.Spec PyProof.Rows
section
variable {X:Cx}
theorem bin {a b:Expr}{ta tb:TE}(ha:PE X a ta)(hb:PE X b tb){pins:List (Addr×Obj)}{s:Shared}{σ:St}{H:Hp}{R:V->V->Hp->Prop}(I:Inv X pins σ H s)(h:ta σ H λx H1=>tb σ H1 λy H2=>R x y H2)
  {α:Type} {Q:α->Shared->Prop} {f:Value->Value->Sem α}
  (hf:∀v u s2 x y H2,Inv X pins σ H2 s2->RelV x v->RelV y u->R x y H2->wpAny (model X.prog X.w) X.A (f v u) Q X.xe s2):
  wpAny (model X.prog X.w) X.A (eval a X.env) (λv s₁=>wpAny (model X.prog X.w) X.A (eval b X.env) (λu s₂=>wpAny (model X.prog X.w) X.A (f v u) Q X.xe s₂) X.xe s₁) X.xe s:=by
 refine thn (ha pins s σ H _ I h) λv s1 ⟨x,H1,I1,r1,q1⟩=> ?_;refine thn (hb pins s1 σ H1 _ I1 q1) λu s2 ⟨y,H2,I2,r2,q2⟩=> ?_;exact hf v u s2 x y H2 I2 r1 r2 q2
def UN (i:Nat):TE:=λσ H Q=>∃v,σ[i]? =some (some v)/\Q v H
def tC (v:V):TE:=λ_ H Q=>Q v H
theorem QR {i:Nat}{x:Str}{pos:Pos}(hN:X.N[i]? =some x)(hv:Vis X.env.scope x)(hd:(x == ("__debug__":Str))=false:=by decide)(hcd:(x == ("__classdict__":Str))=false:=by decide):PE X (.Name x pos) (UN i):=by
 intro pins s σ H Q I h;obtain⟨v,e,h⟩:=h;obtain⟨m,hn,hl⟩:=I.loc;obtain⟨u,r,l⟩:=hl i x v hN e hv;have fin:EP X pins σ Q u s:=⟨v,H,I,r,h⟩;rcases l with ⟨hk,hm⟩ | ⟨hk,c,hc,hcell⟩
 ·exact wpAny_Name (wpAny_loadName_local I.ok.kind hk hn hm fin) hd
 ·rcases hk with hk | hk
  ·exact wpAny_Name (wpAny_loadName_cell I.ok.kind hk hc hcell fin) hd
  ·exact wpAny_Name (wpAny_loadName_free I.ok.kind hk hc hcell fin hcd) hd
theorem QS {i j pos}:PE X (.Constant (.int i) j pos) (tC (.int i)):=λ_ _ _ H _ I h=>wpAny_Constant_int ⟨.int i,H,I.tok _,⟨_,rfl⟩,h⟩
theorem gF {b j pos}:PE X (.Constant (.bool b) j pos) (tC (.bl b)):=λ_ _ _ H _ I h=>Constant_bool ⟨.bl b,H,I,rfl,h⟩
theorem QT {j pos}:PE X (.Constant .none j pos) (tC .non):=λ_ _ _ H _ I h=>Constant_none ⟨.non,H,I,rfl,h⟩
theorem QU {x j pos}:PE X (.Constant (.str x) j pos) (tC (.str x)):=λ_ _ _ H _ I h=>Calls.Constant_str ⟨.str x,H,I.tok _,⟨_,rfl⟩,h⟩
def Gl (X:Cx)(x:Str):Prop:=X.env.kindOf x=some .globalImplicit
theorem wC {E:Value->Shared->Prop}{pins:List (Addr×Obj)}{s:Shared}{σ:St}{H:Hp}{x:Str}{u:Value}{pos:Pos}{Q:Value->Shared->Prop}(I:Inv X pins σ H s)(hg:Gl X x)(hm:X.mg x=some u)(h:Q u s)
  (hd:(x == ("__debug__":Str))=false:=by decide):wpAny (model X.prog X.w) X.A (eval (.Name x pos) X.env) Q E s:=
 dU I.ok.kind hg (Calls.loadGlobal_global (by rw[I.ok.glob];exact I.mod.glob.keeps I.bk) hm h) hd
theorem Jz {E:Value->Shared->Prop}{pins:List (Addr×Obj)}{s:Shared}{σ:St}{H:Hp}{x:Str}{u:Value}{pos:Pos}{Q:Value->Shared->Prop}(I:Inv X pins σ H s)(hg:Gl X x)(hm:X.mg x=none)(hv:bootBuiltins x=some u)(h:Q u s)
  (hn:x ≠ "__name__":=by decide) (hd:(x == ("__debug__":Str))=false:=by decide):wpAny (model X.prog X.w) X.A (eval (.Name x pos) X.env) Q E s:=by
 obtain⟨mb,h1,h2⟩:=I.mod.blt;exact dU I.ok.kind hg (Calls.loadGlobal_builtin (by rw[I.ok.glob];exact I.mod.glob.keeps I.bk) hm (by rw[I.ok.blt];exact h1.keeps I.bk) ((h2 x hn).trans hv) h) hd
theorem JA {x:Str}{v:V}{u:Value}{pos:Pos}(hg:Gl X x)(hm:X.mg x=some u)(r:RelV v u)(hd:(x == ("__debug__":Str))=false:=by decide):PE X (.Name x pos) (tC v):=
 λ_ _ _ H _ I h=>wC I hg hm ⟨v,H,I,r,h⟩ hd
theorem UO {x:Str}{v:V}{u:Value}{pos:Pos}(hg:Gl X x)(hm:X.mg x=none)(hv:bootBuiltins x=some u)(r:RelV v u)(hn:x ≠ "__name__":=by decide)(hd:(x == ("__debug__":Str))=false:=by decide):PE X (.Name x pos) (tC v):=
 λ_ _ _ H _ I h=>Jz I hg hm hv ⟨v,H,I,r,h⟩ hn hd
variable {a b:Expr}{ta tb:TE}{pos:Pos}
variable {tA tB' :TT}{rest:List Expr}
def tAnd (t u:TT):TT:=λσ H Q=>t σ H λc H1=>if c=true then u σ H1 Q else Q false H1
def tOr (t u:TT):TT:=λσ H Q=>t σ H λc H1=>if c=true then Q true H1 else u σ H1 Q
def tNot (t:TT):TT:=λσ H Q=>t σ H λc H1=>Q (!c) H1
theorem vZ (ha:PT X a tA):PW X (.BoolOp .And [a] pos) tA:=by
 intro wh pins s σ H Q I h;refine isTrue_and (thn (ha pins s σ H Q I h) λc s1 e=> ?_);cases c with
 | true=>exact isTrue_and_nil e
 | false=>exact e
theorem Xh (ha:PT X a tA):PW X (.BoolOp .Or [a] pos) tA:=by
 intro wh pins s σ H Q I h;refine isTrue_or (thn (ha pins s σ H Q I h) λc s1 e=> ?_);cases c with
 | false=>exact isTrue_or_nil e
 | true=>exact e
theorem Xi (ha:PT X a tA)(hb:PW X (.BoolOp .And (b :: rest) pos) tB'):PW X (.BoolOp .And (a :: b :: rest) pos) (tAnd tA tB'):=by
 intro wh pins s σ H Q I h;refine isTrue_and (thn (ha pins s σ H _ I h) λc s1 ⟨H1,I1,q1⟩=> ?_);cases c with
 | true=>exact hb wh pins s1 σ H1 Q I1 q1
 | false=>exact⟨H1,I1,q1⟩
theorem gG (ha:PT X a tA)(hb:PW X (.BoolOp .Or (b :: rest) pos) tB'):PW X (.BoolOp .Or (a :: b :: rest) pos) (tOr tA tB'):=by
 intro wh pins s σ H Q I h;refine isTrue_or (thn (ha pins s σ H _ I h) λc s1 ⟨H1,I1,q1⟩=> ?_);cases c with
 | true=>exact⟨H1,I1,q1⟩
 | false=>exact hb wh pins s1 σ H1 Q I1 q1
theorem Xj (ha:PT X a tA):PT X (.UnaryOp .Not a pos) (tNot tA):=by
 intro pins s σ H Q I h;exact isTrue_not (ha pins s σ H (λc H1=>Q (!c) H1) I h)
def gH (ta tb:TE):TE:=λσ H Q=>ta σ H λx H1=>∃c,x= .bl c/\if c=true then tb σ H1 Q else Q (.bl false) H1
def gI (ta:TE):TE:=λσ H Q=>ta σ H λx H1=>∃c,x= .bl c/\Q (.bl (!c)) H1
theorem Xk {op}{t:TE}(h:PE X a t):PE X (.BoolOp op [a] pos) t:=λpins s σ H Q I hw=>BoolOp_one (h pins s σ H Q I hw)
theorem Xl (ha:PE X a ta)(hb:PE X (.BoolOp .And (b :: rest) pos) tb):PE X (.BoolOp .And (a :: b :: rest) pos) (gH ta tb):=by
 intro pins s σ H Q I h;refine BoolOp_and (thn (ha pins s σ H _ I h) λv s1 ⟨x,H1,I1,r1,q1⟩=> ?_);obtain⟨c,rfl,q1⟩:=q1;cases r1;refine bv ?_;cases c with
 | true=>exact hb pins s1 σ H1 Q I1 q1
 | false=>exact⟨.bl false,H1,I1,rfl,q1⟩
theorem Xm (ha:PE X a ta):PE X (.UnaryOp .Not a pos) (gI ta):=by
 intro pins s σ H Q I h;refine UnaryOp_ (thn (ha pins s σ H _ I h) λv s1 ⟨x,H1,I1,r1,q1⟩=> ?_);obtain⟨c,rfl,q1⟩:=q1;cases r1;exact not_of (bv ⟨.bl (!c),H1,I1,rfl,q1⟩)
def tIf (t:TT)(ta tb:TE):TE:=λσ H Q=>t σ H λc H1=>if c=true then ta σ H1 Q else tb σ H1 Q
theorem qA {c:Expr}(hc:PT X c tA)(ha:PE X a ta)(hb:PE X b tb):PE X (.IfExp c a b pos) (tIf tA ta tb):=by
 intro pins s σ H Q I h;refine wpAny_IfExp (thn (hc pins s σ H _ I h) λd s1 ⟨H1,I1,q1⟩=> ?_);cases d with
 | true=>exact ha pins s1 σ H1 Q I1 q1
 | false=>exact hb pins s1 σ H1 Q I1 q1
end
end L2
namespace L2
open PySem PySem.Spec PyProof.Rows
def SqL (K:ai)(H:Hp)(a:Addr)(xs:List V):Prop:=
 Rd H a (.lst xs)\/
  ∃(o:Obj) (its:Array Value) (n:Nat),K.lookup a=some o/\o.cls= .type "list"/\o.dict=none/\o.data= .seq its n/\its.size<=sizeLine/\Vals xs its.toList
def SqT (K:ai)(H:Hp)(a:Addr)(xs:List V):Prop:=
 Rd H a (.tup xs)\/
  ∃(o:Obj) (its:Array Value) (n:Nat),K.lookup a=some o/\o.cls= .type "tuple"/\o.data= .seq its n/\its.size<=sizeLine/\Vals xs its.toList
def absV:Value->Option V
 | .none=>some .non
 | .bool b=>some (.bl b)
 | .int i _=>some (.int i)
 | .str x _=>some (.str x)
 | .bytes b _=>some (.byt b)
 | .float b _=>some (.flt b)
 | .ref a=>some (.ref a)
 | .type n=>some (.ty n)
 | _=>none
theorem RelV.abs {x:V}{u:Value}(r:RelV x u):absV u=some x:=by
 cases x with
 | non=>cases r;rfl
 | bl _=>cases r;rfl
 | int _=>obtain⟨t,rfl⟩:=r;rfl
 | str _=>obtain⟨t,rfl⟩:=r;rfl
 | byt _=>obtain⟨t,rfl⟩:=r;rfl
 | flt _=>obtain⟨t,rfl⟩:=r;rfl
 | ref _=>cases r;rfl
 | ty _=>cases r;rfl
theorem RelV.inj {x y:V}{u:Value}(r:RelV x u)(q:RelV y u):x=y:=aR (r.abs.symm.trans q.abs)
theorem Vals.inj:∀{xs ys:List V} {us:List Value},Vals xs us->Vals ys us->xs=ys
 | _,_,_,.nil,.nil=>rfl
 | _,_,_,.cons r t,.cons r' t' =>by rw[r.inj r',Vals.inj t t']
section
variable {X:Cx}{pins:List (Addr×Obj)}{σ:St}{H:Hp}{s:Shared}{a:Addr}{xs ys:List V}
theorem SqL.of {K:ai}(h:H a=some (.lst xs)):SqL K H a xs:= .inl (.inl h)
theorem SqT.of {K:ai}(h:H a=some (.tup xs)):SqT K H a xs:= .inl (.inl h)
theorem Inv.list (I:Inv X pins σ H s)(h:SqL X.K H a xs):∃its:List Value,Vals xs its/\PlainL s.heap a its.toArray/\xs.length<=sizeLine:=by
 rcases h with h | ⟨o,its,n,hk,hc,hd,hs,hz,r⟩
 ·obtain⟨z,its,n,r,e⟩:=h.ok I.hok;exact⟨its,r,⟨_,n,e,rfl,rfl,rfl⟩,z⟩
 ·refine⟨its.toList,r,⟨o,n,I.kIn a o hk,hc,hd,by simpa using hs⟩, ?_⟩
  have e:=r.length;simp only[bu]at e;omega
theorem Inv.tuple (I:Inv X pins σ H s)(h:SqT X.K H a xs):∃its:List Value,Vals xs its/\IsTup s.heap a its.toArray/\xs.length<=sizeLine:=by
 rcases h with h | ⟨o,its,n,hk,hc,hs,hz,r⟩
 ·obtain⟨z,its,r,p,_⟩:=h.ok I.hok;exact⟨its,r,p,z⟩
 ·refine⟨its.toList,r,⟨o,I.kIn a o hk,hc,n,by simpa using hs⟩, ?_⟩
  have e:=r.length;simp only[bu]at e;omega
theorem Inv.list_inj (I:Inv X pins σ H s)(h:SqL X.K H a xs)(h' :SqL X.K H a ys):xs=ys:=by
 obtain⟨its,r,⟨o,n,e,_,_,d⟩,_⟩:=I.list h;obtain⟨its',r',⟨o',n',e',_,_,d'⟩,_⟩:=I.list h';rw[e]at e';cases e';rw[d]at d';injection d' with d1 _;have:its=its' :=by simpa using congrArg Array.toList d1
 subst this;exact r.inj r'
theorem Inv.tuple_inj (I:Inv X pins σ H s)(h:SqT X.K H a xs)(h' :SqT X.K H a ys):xs=ys:=by
 obtain⟨its,r,⟨o,e,_,n,d⟩,_⟩:=I.tuple h;obtain⟨its',r',⟨o',e',_,n',d'⟩,_⟩:=I.tuple h';rw[e]at e';cases e';rw[d]at d';injection d' with d1 _;have:its=its' :=by simpa using congrArg Array.toList d1
 subst this;exact r.inj r'
end
abbrev Cx.wish (X:Cx)(E:Value->Shared->Prop):Cx:={ X with xe:=E }
abbrev Cx.nox (X:Cx):Cx:=X.wish λ_ _=>False
theorem Cx.Ok.wish {X:Cx}(ok:X.Ok)(E:Value->Shared->Prop):(X.wish E).Ok:=
 ⟨ok.mod,ok.kind,ok.glob,ok.blt,ok.above,ok.inj,ok.has,ok.cab,ok.hd,ok.frames,ok.stk,ok.exf,ok.bs,ok.bsz,ok.noex,ok.exfs,ok.funs,ok.frf⟩
theorem Cx.Ok.unwish {X:Cx}{E:Value->Shared->Prop}(ok:(X.wish E).Ok):X.Ok:=
 ⟨ok.mod,ok.kind,ok.glob,ok.blt,ok.above,ok.inj,ok.has,ok.cab,ok.hd,ok.frames,ok.stk,ok.exf,ok.bs,ok.bsz,ok.noex,ok.exfs,ok.funs,ok.frf⟩
section
variable {X:Cx}{pins:List (Addr×Obj)}{σ:St}{H:Hp}{s:Shared}{E:Value->Shared->Prop}
theorem Inv.wish (I:Inv X pins σ H s)(E:Value->Shared->Prop):Inv (X.wish E) pins σ H s:=⟨I.ok.wish E,I.os,I.bare,I.base,I.loc,I.cell,I.free,I.freeC,I.pin,I.hok,I.len⟩
theorem Inv.unwish (I:Inv (X.wish E) pins σ H s):Inv X pins σ H s:=⟨I.ok.unwish,I.os,I.bare,I.base,I.loc,I.cell,I.free,I.freeC,I.pin,I.hok,I.len⟩
theorem SP.unwish {D:qz}{f:Flow}{s' :Shared}(h:SP (X.wish E) pins D f s'):SP X pins D f s' :=by
 cases f with
 | next=>obtain⟨σ',H',I,q⟩:=h;exact⟨σ',H',I.unwish,q⟩
 | brk=>obtain⟨σ',H',I,q⟩:=h;exact⟨σ',H',I.unwish,q⟩
 | cont=>obtain⟨σ',H',I,q⟩:=h;exact⟨σ',H',I.unwish,q⟩
 | ret u=>obtain⟨v,σ',H',I,r,q⟩:=h;exact⟨v,σ',H',I.unwish,r,q⟩
theorem PSs.nox {st:List Stmt}{t:TS}(h:PSs X.nox st t):PSs X st t:=λpins s σ H D I hw=>
 bQ (h pins s σ H D (I.wish _) hw) (λ_ _ q=>q.unwish) λ_ _ z=>cC z
end
section
variable {X:Cx}{st:Stmt}{rest:List Stmt}{t u:TS}{e:Expr}{te:TE}{pos:Pos}
def gJ:TS:=λD σ H=>D.nx σ H
def tSeq (t u:TS):TS:=λD σ H=>t { D with nx:=u D } σ H
theorem V0:PSs X [] gJ:=λ_ _ σ H _ I h=>wpAny_execs_nil ⟨σ,H,I,h⟩
theorem qB (h1:PS X st t)(h2:PSs X rest u):PSs X (st :: rest) (tSeq t u):=by
 intro pins s σ H D I h;refine wpAny_execs_cons (thn (h1 pins s σ H { D with nx:=u D } I h) λf s1 q=> ?_);cases f with
 | next=>
  obtain⟨σ',H',I',q⟩:=q;exact h2 pins s1 σ' H' D I' q
 | ret v=>exact q
 | brk=>exact q
 | cont=>exact q
theorem UP (h1:PS X st t):PSs X [st] t:=by
 intro pins s σ H D I h;refine wpAny_execs_cons (thn (h1 pins s σ H D I h) λf s1 q=> ?_);cases f with
 | next=>exact wpAny_execs_nil q
 | ret v=>exact q
 | brk=>exact q
 | cont=>exact q
theorem Inv.quiet {pins:List (Addr×Obj)}{σ:St}{H:Hp}{s:Shared}(I:Inv X pins σ H s):interactive X.env=false:=by simp[interactive,I.ok.kind]
def gK (te:TE):TS:=λD σ H=>te σ H λ_ H1=>D.nx σ H1
theorem WU (he:PE X e te)(hs:swapsWith e none pos.line X.env=pure false:=by rfl):PS X (.Expr e pos) (gK te):=by
 intro pins s σ H D I h;exact wpAny_Expr_any (thn (he pins s σ H _ I h) λv s1 ⟨x,H1,I1,r1,q1⟩=>⟨σ,H1,I1,q1⟩) I.quiet hs
def tRet (te:TE):TS:=λD σ H=>te σ H D.rt
theorem Xn (he:PE X e te):PS X (.Return (some e) pos) (tRet te):=by
 intro pins s σ H D I h;exact wpAny_Return_some (thn (he pins s σ H _ I h) λv s1 ⟨x,H1,I1,r1,q1⟩=>⟨x,σ,H1,I1,r1,q1⟩)
def tIfS (c:TT)(t u:TS):TS:=λD σ H=>c σ H λb H1=>if b=true then t D σ H1 else u D σ H1
theorem gL {c:Expr}{a b:List Stmt}{tc:TT}(hc:PT X c tc)(ha:PSs X a t)(hb:PSs X b u):PS X (.If c a b pos) (tIfS tc t u):=by
 intro pins s σ H D I h;refine wpAny_If (thn (hc pins s σ H _ I h) λd s1 ⟨H1,I1,q1⟩=> ?_);cases d with
 | true=>exact ha pins s1 σ H1 D I1 q1
 | false=>exact hb pins s1 σ H1 D I1 q1
end
abbrev TG:=V->St->Hp->(St->Hp->Prop)->Prop
abbrev TGs:=List V->St->Hp->(St->Hp->Prop)->Prop
def PG (X:Cx)(target:Expr)(t:TG):Prop:=
 ∀(pins:List (Addr×Obj)) (s:Shared) (σ:St) (H:Hp) (v:V) (u:Value) (Q:St->Hp->Prop),Inv X pins σ H s->RelV v u->t v σ H Q->
  wpAny (model X.prog X.w) X.A (assign target X.env u) (λ_ s' =>∃σ' H',Inv X pins σ' H' s' /\Q σ' H') X.xe s
def PGs (X:Cx)(ts:List Expr)(t:TGs):Prop:=
 ∀(pins:List (Addr×Obj)) (s:Shared) (σ:St) (H:Hp) (vs:List V) (us:List Value) (Q:St->Hp->Prop),Inv X pins σ H s->Vals vs us->t vs σ H Q->
  wpAny (model X.prog X.w) X.A (assignInOrder ((assignEach ts X.env).map (·.2)) us) (λ_ s' =>∃σ' H',Inv X pins σ' H' s' /\Q σ' H') X.xe s
section
variable {X:Cx}{pos:Pos}
def W7 (i:Nat):TG:=λv σ H Q=>Q (σ.set i (some v)) H
theorem zn {i:Nat}{x:Str}(hN:X.N.Nodup)(hi:X.N[i]? =some x)(hx:Loc X.env.scope x)(hf:X.fn x=true\/X.env.scope.names.lookup x=some .local:=by first | exact .inl rfl | exact .inr rfl | assumption):PG X (.Name x pos) (W7 i):=by
 intro pins s σ H v u Q I r h;exact wpAny_assign_Name (jC I hN hi hx r (λs' I' =>⟨_,H,I',h⟩) hf)
def gM:TGs:=λvs σ H Q=>vs=[]/\Q σ H
def UQ (t:TG)(u:TGs):TGs:=λvs σ H Q=>∃v r,vs=v :: r/\t v σ H λσ' H' =>u r σ' H' Q
theorem jP:PGs X [] gM:=by
 intro pins s σ H vs us Q I r h;obtain⟨e,h⟩:=h;subst e;cases r;exact assignInOrder_nil ⟨σ,H,I,h⟩
theorem Zj {e:Expr}{es:List Expr}{t:TG}{u:TGs}(h1:PG X e t)(h2:PGs X es u)
  (hs:(assignEach (e :: es) X.env).map (·.2)=assign e X.env :: (assignEach es X.env).map (·.2):=by rfl):PGs X (e :: es) (UQ t u):=by
 intro pins s σ H vs us Q I r h;obtain⟨v,vr,e1,h⟩:=h;subst e1;cases r with
 | cons r rr=>
  rw[hs];refine assignInOrder_cons (thn (h1 pins s σ H _ _ _ I r h) λ_ s1 ⟨σ1,H1,I1,q1⟩=> ?_);exact h2 pins s1 σ1 H1 _ _ Q I1 rr q1
def gN (K:ai)(n:Nat)(t:TGs):TG:=λv σ H Q=>∃a xs,v= .ref a/\SqT K H a xs/\xs.length=n/\t xs σ H Q
theorem wf {es:List Expr}{k:Nat}{t:TGs}{n:Nat}(hc:X.calm=true)(h:PGs X es t)
  (hn:(assignEach es X.env).length=n:=by rfl) (hst:(assignEach es X.env).findIdx? (·.1)=none:=by rfl):PG X (.Tuple es k pos) (gN X.K n t):=by
 intro pins s σ H v u Q I r hw;obtain⟨a,xs,e1,hq,hl,hw⟩:=hw;subst e1;cases r;obtain⟨its,rv,ht,hz⟩:=I.tuple hq;refine assign_Tuple_tuple (I.ok.hd hc) ht (by simp[hn,← hl,rv.length]) hst λh' hx=> ?_
 have I1:Inv X pins σ H { s with heap:=h' }:=I.kept (t' :=s.toks) λb o e=>hx b o (aH (ar e)) e;exact h pins _ σ H xs _ Q I1 (by simpa using rv) hw
def tAsg (te:TE)(g:TG):TS:=λD σ H=>te σ H λx H1=>g x σ H1 D.nx
theorem Xo {tg e:Expr}{te:TE}{g:TG}(he:PE X e te)(hg:PG X tg g)(hs:swapsWithSole [tg] e pos.line X.env=pure false:=by rfl)(hw:swappedStores [tg] e X.env=pure none:=by rfl)
  (h1:(assignEach [tg] X.env).map (·.2)=[assign tg X.env]:=by rfl):PS X (.Assign [tg] e pos) (tAsg te g):=by
 intro pins s σ H D I h;refine wpAny_Assign_stores (thn (he pins s σ H _ I h) λv s1 ⟨x,H1,I1,r1,q1⟩=> ?_) hs hw;rw[h1];exact thn (hg pins s1 σ H1 x v _ I1 r1 q1) λ_ s2 q=>q
theorem uz {i:Nat}{x:Str}{e:Expr}{te:TE}{pos' :Pos}(hN:X.N.Nodup)(hi:X.N[i]? =some x)(hx:Loc X.env.scope x)(he:PE X e te)(hs:swapsWith e (some (.Name x pos')) pos.line X.env=pure false:=by rfl)(hf:X.fn x=true\/X.env.scope.names.lookup x=some .local:=by first | exact .inl rfl | exact .inr rfl | assumption):
  PS X (.Assign [.Name x pos'] e pos) (tAsg te (W7 i)):=by
 intro pins s σ H D I h;refine wpAny_Assign_Name (thn (he pins s σ H _ I h) λv s1 ⟨y,H1,I1,r1,q1⟩=> ?_) hs;exact jC I1 hN hi hx r1 (λs2 I2=>⟨_,H1,I2,q1⟩) hf
def tPar (i j:Nat)(ta:TA):TS:=λD σ H=>ta σ H λvs H1=>∃v w,vs=[v,w]/\D.nx ((σ.set i (some v)).set j (some w)) H1
theorem Xp {i j:Nat}{x y:Str}{a b:Expr}{ta:TA}{px py pt:Pos}{kt k2 pt2}(hc:X.calm=true)(hN:X.N.Nodup)(hi:X.N[i]? =some x)(hj:X.N[j]? =some y)(hij:i ≠ j)
  (hx:X.env.scope.names.lookup x=some .local) (hy:X.env.scope.names.lookup y=some .local) (ha:PA X [a,b] ta)
  (hw:swappedStores [.Tuple [.Name x px,.Name y py] kt pt] (.Tuple [a,b] k2 pt2) X.env=pure (some [x,y]))
  (hs:swapsWithSole [.Tuple [.Name x px,.Name y py] kt pt] (.Tuple [a,b] k2 pt2) pos.line X.env=pure false:=by rfl):
  PS X (.Assign [.Tuple [.Name x px,.Name y py] kt pt] (.Tuple [a,b] k2 pt2) pos) (tPar i j ta):=by
 intro pins s σ H D I h;rw[exec_Assign_arm];refine aa (wpAny_standAt ?_);rw[hs];refine aa (ak ?_);rw[if_neg (by decide)]
 refine aa (Tuple_ (thn (ha _ pins s σ H _ I h) λus s1 ⟨vs,H1,I1,r1,q1⟩=> ?_));obtain⟨v,w,e1,q1⟩:=q1;subst e1;obtain⟨u1,u2,rfl,rv,rw'⟩:∃u1 u2,us=[u1,u2]/\RelV v u1/\RelV w u2:=by
  cases r1 with
  | cons p q=>
   cases q with
   | cons p' q' =>
    cases q';exact⟨_,_,rfl,p,p'⟩
 refine aZ ?_ (by show 2<=sizeLine;decide)
 have I2:Inv X pins σ H1 { s1 with heap:=s1.heap.push { cls:= .type "tuple",data:= .seq [u1,u2].toArray } }:=I1.kept (t' :=s1.toks) λb o e=>aj _ e;rw[hw];refine aa (ak ?_);show wpAny (model X.prog X.w) X.A (do rule "assign.swapped-stores";let items ← unpackItems (.ref s1.heap.objs.size) 2 none;assignInOrder [λv=>bindName X.env y v,λv=>bindName X.env x v] items.reverse;pure Flow.next) _ _ _
 refine aa (wpAny_rule (aa (unpackItems_tuple (items:= #[u1,u2]) (I.ok.hd hc) (IsTup.new s1.heap _) λh' hx' => ?_)));have I3:=I2.kept (h' :=h') (t' :=s1.toks) λb o e=>hx' b o (aH (ar e)) e;show wpAny _ _ (assignInOrder [λv=>bindName X.env y v,λv=>bindName X.env x v] [u2,u1] >>= λ_=>pure Flow.next) _ _ _;refine aa (assignInOrder_cons (wpAny_bindName (jC I3 hN hj (.inl hy) rw' (λs2 I4=> ?_) (.inr hy))));refine assignInOrder_cons (wpAny_bindName (jC I4 hN hi (.inl hx) rv (λs3 I5=>assignInOrder_nil (ak ?_)) (.inr hx)));rw[List.set_comm _ _ (cf hij)]at I5;exact⟨_,H1,I5,q1⟩
end
section
variable {X:Cx}{pos:Pos}
end
structure It where
 go:Nat->Hp->Prop
 yld:Nat->Hp->V->Hp->Prop
 stop:Nat->Hp->Prop
def WV (X:Cx)(pins:List (Addr×Obj))(H:Hp)(b:Addr):Prop:=
 H b=none/\b ≠ X.env.locals/\b ∉ X.fs/\(b∈X.ex\/X.s₀.heap.objs.size<=b)/\(∀x c,X.env.cells.lookup x=some c->c ≠ b)/\∀p∈X.pn++pins,p.1 ≠ b
theorem Inv.fpOk {X:Cx}{pins:List (Addr×Obj)}{σ:St}{H H' :Hp}{s:Shared}{b:Addr}(I:Inv X pins σ H s)(hb:s.heap.objs.size<=b)(hn:H' b=none):WV X pins H' b:=by
 refine⟨hn,fo (aE I.lt hb),I.nofs hb,.inr (aq I.sz hb),λx c e z=> ?_,λp hp z=> ?_⟩
 ·obtain⟨v,q⟩:=I.cell x c e;exact absurd (aE q.lt (by rw[z];exact hb)) (bR _)
 ·exact absurd (aE (ar (I.pin p hp).1) (by rw[z];exact hb)) (bR _)
structure qC (P:Program) (w:World) (K:ai) (tg:Expr) (J:It) (fp:List Addr) (it:Addr) (tn:Nat->Heap->Prop):Prop where
 mem:it∈fp
 obj:∀i h,tn i h->∀b∈fp,∃o,h.get? b=some o/\∀v,o.data ≠ .cell v
 keep:∀i h h',tn i h->(∀b∈fp,∀o,h.get? b=some o->h'.get? b=some o)->tn i h'
 item:∀(X:Cx),X.prog=P->X.w=w->X.K=K->X.calm=true->∀(i:Nat) (pins:List (Addr×Obj)) (s:Shared) (σ:St) (H:Hp) (E:Value->Shared->Prop),Inv X pins σ H s->(∀b∈fp,WV X pins H b)->tn i s.heap->J.go i H->
  wpAny (model P w) X.A (pyNext (.ref it)) (λr s1=>∃u,r=some u/\
   wpAny (model P w) X.A (letOwnedTupleGo tg (.ref it) u) (λ_ s2=>∃x H',Inv X pins σ H' s2/\RelV x u/\J.yld i H x H' /\tn (i+1) s2.heap/\∀b∈fp,H' b=none) E s1) E s
 done:∀(X:Cx),X.prog=P->X.w=w->X.K=K->X.calm=true->∀(i:Nat) (pins:List (Addr×Obj)) (s:Shared) (σ:St) (H:Hp) (E:Value->Shared->Prop),Inv X pins σ H s->(∀b∈fp,WV X pins H b)->tn i s.heap->J.stop i H->
  wpAny (model P w) X.A (pyNext (.ref it)) (λr s1=>r=none/\Inv X pins σ H s1) E s
 self:∀(A:Around) (i:Nat) (s:Shared) (Q:Value->Shared->Prop) (E:Value->Shared->Prop),tn i s.heap->Q (.ref it) s->wpAny (model P w) A (pyIter (.ref it)) Q E s
abbrev TI:=St->Hp->(It->Hp->Prop)->Prop
def PIE (X:Cx)(pins:List (Addr×Obj))(σ:St)(tg:Expr)(R:It->Hp->Prop)(itv:Value)(s2:Shared):Prop:=
 ∃(it:Addr) (fp:List Addr) (tn:Nat->Heap->Prop) (J:It) (H' :Hp),itv= .ref it/\Inv X pins σ H' s2/\qC X.prog X.w X.K tg J fp it tn/\tn 0 s2.heap/\(∀b∈fp,WV X pins H' b)/\R J H'
def PI (X:Cx)(tg iter:Expr)(wi:TI):Prop:=
 ∀(pins:List (Addr×Obj)) (s:Shared) (σ:St) (H:Hp) (R:It->Hp->Prop),Inv X pins σ H s->wi σ H R->
  wpAny (model X.prog X.w) X.A (eval iter X.env) (λv s1=>wpAny (model X.prog X.w) X.A (pyIter v) (PIE X pins σ tg R) X.xe s1) X.xe s
theorem qD {M:Model}{A:Around}{E:Value->Shared->Prop}{s:Shared}{tg:Expr}{it:Addr}{u:Value}{o:Obj}{n:String}{vs:Array Value}{Q:Unit->Shared->Prop}(ho:s.heap.get? it=some o)(hc:o.cls= .type n)(hd:o.data= .fields vs)
  (hn:["enumerate","zip","dict_itemiterator","dict_reverseitemiterator","odict_iterator","itertools.zip_longest","itertools.pairwise"].contains n=false) (hQ:Q () s):wpAny M A (letOwnedTupleGo tg (.ref it) u) Q E s:=by
 unfold letOwnedTupleGo;cases tg <;> first
  | exact ak hQ
  | (cases u <;> first
    | exact ak hQ
    | (refine aa (wpAny_load ho ?_);rw[hc,hd];show wpAny M A (if (["enumerate","zip","dict_itemiterator","dict_reverseitemiterator","odict_iterator","itertools.zip_longest","itertools.pairwise"].contains n && vs[0]? == some (rawInt _))=true then _ else _) Q E s;rw[if_neg (by intro h;rw[hn,Bool.false_and]at h;cases h)];exact ak hQ))
def Itl (K:ai)(a:Addr):It:=
 ⟨λi H=>∃xs x,SqL K H a xs/\xs[i]? =some x,λi H x H' =>H' =H/\∀xs,SqL K H a xs->xs[i]? =some x,λi H=>∃xs,SqL K H a xs/\xs.length<=i⟩
def Itt (K:ai)(a:Addr):It:=
 ⟨λi H=>∃xs x,SqT K H a xs/\xs[i]? =some x,λi H x H' =>H' =H/\∀xs,SqT K H a xs->xs[i]? =some x,λi H=>∃xs,SqT K H a xs/\xs.length<=i⟩
def Itr (lo:Int)(n:Nat):It:=⟨λi _=>i < n,λi H x H' =>H' =H/\x= .int (lo+i),λi _=>n<=i⟩
theorem UR {P:Program}{w:World}{K:ai}{tg:Expr}(a it:Addr):qC P w K tg (Itl K a) [it] it (λi h=>h.IsListIter it a i) where
 mem:=by simp
 obj:=λi h st b hb=>by
  have e:b=it:=by simpa using hb
  subst e;obtain⟨o,e,c,d⟩:=st;exact⟨o,e,λv z=>by rw[d]at z;cases z⟩
 keep:=λi h h' st k=>st.at λo e=>k it (by simp) o e
 item:=by
  intro X hP hw hK hc i pins s σ H E I hf st hg;subst hP hw hK;obtain⟨xs,x,hq,hx⟩:=hg;obtain⟨its,rv,p,hz⟩:=I.list hq;obtain⟨u,hu,ru⟩:=rv.get hx;obtain⟨f0,f1,f2,f3,f4,f5⟩:=hf it (by simp)
  refine wpAny_pyNext_list_item st p.isList (x:=u) (by simpa using hu) λh' st' sb=> ?_
  have I1:Inv X pins σ H { s with heap:=h' }:=I.turned (t' :=s.toks) (λb o hb e=>(sb.2 b hb).trans e) f0 f1 f3 f4 f5;obtain⟨o,e,c,d⟩:=id st';exact⟨u,rfl,qD (s:={ s with heap:=h' }) e c d (by decide) ⟨x,H,I1,ru,⟨rfl,λys hy=>by rw[I.list_inj hy hq];exact hx⟩,st',λb hb=>(hf b hb).1⟩⟩
 done:=by
  intro X hP hw hK hc i pins s σ H E I hf st hg;subst hP hw hK;obtain⟨xs,hq,hx⟩:=hg;obtain⟨its,rv,p,hz⟩:=I.list hq;obtain⟨f0,f1,f2,f3,f4,f5⟩:=hf it (by simp)
  have hl:=rv.length;exact wpAny_pyNext_list_end (I.ok.hd hc) st p.isList (by simp;omega) λh' eb=>⟨rfl,I.turned (t' :=s.toks) (λb o hb e=>eb b o hb e) f0 f1 f3 f4 f5⟩
 self:=λ_ _ _ _ _ st h=>wpAny_pyIter_listiter st h
theorem Uc {P:Program}{w:World}{K:ai}{tg:Expr}(a it:Addr):qC P w K tg (Itt K a) [it] it (λi h=>h.IsTupleIter it a i) where
 mem:=by simp
 obj:=λi h st b hb=>by
  have e:b=it:=by simpa using hb
  subst e;obtain⟨o,e,c,d⟩:=st;exact⟨o,e,λv z=>by rw[d]at z;cases z⟩
 keep:=λi h h' st k=>st.at λo e=>k it (by simp) o e
 item:=by
  intro X hP hw hK hc i pins s σ H E I hf st hg;subst hP hw hK;obtain⟨xs,x,hq,hx⟩:=hg;obtain⟨its,rv,p,hz⟩:=I.tuple hq;obtain⟨u,hu,ru⟩:=rv.get hx;obtain⟨f0,f1,f2,f3,f4,f5⟩:=hf it (by simp)
  refine wpAny_pyNext_tuple_item st (show s.heap.IsTuple a its.toArray from p) (x:=u) (by simpa using hu) λh' st' sb=> ?_
  have I1:Inv X pins σ H { s with heap:=h' }:=I.turned (t' :=s.toks) (λb o hb e=>(sb.2 b hb).trans e) f0 f1 f3 f4 f5;obtain⟨o,e,c,d⟩:=id st';exact⟨u,rfl,qD (s:={ s with heap:=h' }) e c d (by decide) ⟨x,H,I1,ru,⟨rfl,λys hy=>by rw[I.tuple_inj hy hq];exact hx⟩,st',λb hb=>(hf b hb).1⟩⟩
 done:=by
  intro X hP hw hK hc i pins s σ H E I hf st hg;subst hP hw hK;obtain⟨xs,hq,hx⟩:=hg;obtain⟨its,rv,p,hz⟩:=I.tuple hq;obtain⟨f0,f1,f2,f3,f4,f5⟩:=hf it (by simp)
  have hl:=rv.length;exact wpAny_pyNext_tuple_end (I.ok.hd hc) st (show s.heap.IsTuple a its.toArray from p) (by simp;omega) λh' eb=>⟨rfl,I.turned (t' :=s.toks) (λb o hb e=>eb b o hb e) f0 f1 f3 f4 f5⟩
 self:=λ_ _ _ _ _ st h=>wpAny_pyIter_tupleiter st h
theorem Ud {P:Program}{w:World}{K:ai}{tg:Expr}(it:Addr)(lo:Int)(n:Nat):qC P w K tg (Itr lo n) [it] it (λi h=>IsRangeIter h it (lo+(i:Nat)*1) ((n:Int) - (i:Nat)) 1) where
 mem:=by simp
 obj:=λi h st b hb=>by
  have e:b=it:=by simpa using hb
  subst e;exact⟨_,st,λv z=>by
   have z' :Data.fields _=Data.cell v:=z;cases z'⟩
 keep:=λi h h' st k=>k it (by simp) _ st
 item:=by
  intro X hP hw hK hc i pins s σ H E I hf st hg;subst hP hw hK;obtain⟨f0,f1,f2,f3,f4,f5⟩:=hf it (by simp)
  have W:=Walks.range (prog:=X.prog) (w:=X.w) (I.ok.hd hc) it lo 1 n;refine W.item i s _ _ hg st λv h' tk hv st' kk=> ?_;obtain⟨t,rfl⟩:=hv;have I1:Inv X pins σ H { s with heap:=h',toks:=tk }:=I.turned (λb o hb e=>kk b o (by simpa using hb) e) f0 f1 f3 f4 f5
  refine⟨_,rfl,qD (s:={ s with heap:=h',toks:=tk }) (n:="range_iterator") st' rfl rfl (by decide) ⟨.int (lo+i),H,I1,⟨t, ?_⟩,⟨rfl,rfl⟩,st',λb hb=>(hf b hb).1⟩⟩
  rw[Int.mul_one]
 done:=by
  intro X hP hw hK hc i pins s σ H E I hf st hg;subst hP hw hK;obtain⟨f0,f1,f2,f3,f4,f5⟩:=hf it (by simp)
  exact wpAny_pyNext_range_end (I.ok.hd hc) st (by have:n<=i:=hg;omega) λh' eb=>⟨rfl,I.turned (t' :=s.toks) (λb o hb e=>eb b o hb e) f0 f1 f3 f4 f5⟩
 self:=λ_ _ _ _ _ st h=>wpAny_pyIter_rangeiter st h
end L2
namespace L2
open PySem PySem.Spec PyProof.Rows
section
variable {X:Cx}{tg:Expr}
theorem uA {pins:List (Addr×Obj)}{σ:St}{H:Hp}{s:Shared}{R:It->Hp->Prop}{E:Value->Shared->Prop}{lo hi:Int}{t u v:Tok}{tk:Nat}(I:Inv X pins σ H s)(h1: -(2 ^ 62)<=lo)(h2:lo < 2 ^ 62)(h3: -(2 ^ 62)<=hi)(h4:hi < 2 ^ 62)
  (q:R (Itr lo (hi - lo).toNat) H):wpAny (model X.prog X.w) X.A (pyIter (.ref s.heap.objs.size)) (PIE X pins σ tg R) E { s with heap:=s.heap.push { cls:= .type "range",data:= .fields #[.int lo t,.int hi u,.int 1 v] },toks:=tk }:=by
 refine wpAny_pyIter_range (IsRange.new ..) (small_one h1 h2 h3 h4) ?_;have I1:Inv X pins σ H { s with heap:=s.heap.push { cls:= .type "range",data:= .fields #[.int lo t,.int hi u,.int 1 v] },toks:=tk }:=I.kept λb o e=>aj _ e;refine⟨(s.heap.push { cls:= .type "range",data:= .fields #[.int lo t,.int hi u,.int 1 v] }).objs.size,[(s.heap.push { cls:= .type "range",data:= .fields #[.int lo t,.int hi u,.int 1 v] }).objs.size],_,_,H,rfl,
  I1.kept (t' :=tk) λb o e=>aj _ e,Ud _ lo (hi - lo).toNat, ?_,λb hb=> ?_,q⟩
 ·have e1:lo+((0:Nat):Int)*1=lo:=by simp
  have e2:(((hi - lo).toNat:Nat):Int) - ((0:Nat):Int)=eW lo hi 1:=by rw[rangeSize_one];split <;> omega
  show IsRangeIter _ _ (lo+((0:Nat):Int)*1) ((((hi - lo).toNat:Nat):Int) - ((0:Nat):Int)) 1;rw[e1,e2];exact ay _ rfl
 ·have e:b=(s.heap.push { cls:= .type "range",data:= .fields #[.int lo t,.int hi u,.int 1 v] }).objs.size:=by simpa using hb
  subst e;exact I1.fpOk (am _) (I1.hok.fresh (am _))
def gO (ta:TA):TI:=λσ H R=>ta σ H λvs H1=>∃j:Int,vs=[.int j]/\ -(2 ^ 62)<=j/\j < 2 ^ 62/\R (Itr 0 j.toNat) H1
def gP (ta:TA):TI:=λσ H R=>ta σ H λvs H1=>∃i j:Int,vs=[.int i,.int j]/\(-(2 ^ 62)<=i/\i < 2 ^ 62/\ -(2 ^ 62)<=j/\j < 2 ^ 62)/\R (Itr i (j - i).toNat) H1
theorem US {a:Expr}{ta:TA}{p pos:Pos}(hg:Gl X "range")(hm:X.mg "range"=none)(ha:PA X [a] ta)(hs:starEach [a] X.env=[(false,eval a X.env)]:=by rfl):PI X tg (.Call (.Name "range" p) [a] [] pos) (gO ta):=by
 intro pins s σ H R I h;refine Call_ (Jz I hg hm boot_range (bK (thn (ha pos pins s σ H _ I h) λus s1 ⟨vs,H1,I1,r1,q1⟩=> ?_) hs rfl));obtain⟨j,e,q1,q2,q⟩:=q1;subst e;cases r1 with
 | cons r rr=>
  cases rr;obtain⟨t,rfl⟩:=r;exact call_range_1 (uA I1 (by omega) (by omega) q1 q2 (by simpa using q))
theorem UT {a b:Expr}{ta:TA}{p pos:Pos}(hg:Gl X "range")(hm:X.mg "range"=none)(ha:PA X [a,b] ta)(hs:starEach [a,b] X.env=[(false,eval a X.env),(false,eval b X.env)]:=by rfl)(hs2:starEach [b] X.env=[(false,eval b X.env)]:=by rfl):
  PI X tg (.Call (.Name "range" p) [a,b] [] pos) (gP ta):=by
 intro pins s σ H R I h;refine Call_ (Jz I hg hm boot_range (bK (thn (ha pos pins s σ H _ I h) λus s1 ⟨vs,H1,I1,r1,q1⟩=> ?_) (by rw[hs,hs2]) (by rw[hs2];rfl)))
 obtain⟨i,j,e,⟨q1,q2,q3,q4⟩,q⟩:=q1;subst e;cases r1 with
 | cons r rr=>
  cases rr with
  | cons r' rr=>
   cases rr;obtain⟨t,rfl⟩:=r;obtain⟨t',rfl⟩:=r';exact call_range_2 (uA I1 q1 q2 q3 q4 q)
def tFor (wi:TI)(g:TG)(tb:TS):TS:=λD σ H=>wi σ H λJ H1=>∃W:Nat->Nat->St->Hp->Prop,(∃m,W 0 m σ H1)/\∀i m σ H,W i m σ H->
 (J.stop i H/\D.nx σ H)\/(J.go i H/\∃N:St->Hp->Prop,(∀σ' H',N σ' H' ->∃m',m' < m/\W (i+1) m' σ' H')/\∀x H',J.yld i H x H' ->g x σ H' λσ2 H2=>tb { D with nx:=N,ct:=N,bk:=D.nx } σ2 H2)
def W8 (fp:List Addr)(h:Heap):List (Addr×Obj):=fp.filterMap λb=>(h.get? b).map λo=>(b,o)
theorem jh {fp:List Addr}{h:Heap}{b:Addr}{o:Obj}(hb:b∈fp)(e:h.get? b=some o):(b,o)∈W8 fp h:=dW.mpr ⟨b,hb,by rw[e];rfl⟩
theorem UU {fp:List Addr}{h:Heap}{p:Addr×Obj}(hp:p∈W8 fp h):p.1∈fp/\h.get? p.1=some p.2:=by
 obtain⟨b,hb,e⟩:=dW.mp hp;cases q:h.get? b with
 | none=>rw[q]at e;cases e
 | some o=>
  rw[q]at e;have e' :(b,o)=p:=aR e;subst e';exact⟨hb,q⟩
theorem Inv.pinned {pins:List (Addr×Obj)}{σ:St}{H:Hp}{s:Shared}{fp:List Addr}(I:Inv X pins σ H s)(hf:∀b∈fp,WV X pins H b)(ho:∀b∈fp,∃o,s.heap.get? b=some o/\∀v,o.data ≠ .cell v):Inv X (pins++W8 fp s.heap) σ H s:=
 I.pins_of λp hp=>(bV.mp hp).elim (λz=>I.pin p (bb _ z)) λz=>by
  obtain⟨hb,e⟩:=UU z;obtain⟨f0,f1,f2,_⟩:=hf p.1 hb;obtain⟨o,e',d⟩:=ho p.1 hb;rw[e]at e';cases e';exact⟨e,f0,f1,f2,d⟩
theorem Inv.unpinned {pins pl:List (Addr×Obj)}{σ:St}{H:Hp}{s:Shared}(I:Inv X (pins++pl) σ H s):Inv X pins σ H s:=I.pins_of λp hp=>I.pin p (bb _ (cL _ hp))
theorem Xq {iter:Expr}{body:List Stmt}{wi:TI}{g:TG}{tb:TS}{pos:Pos}(hp:PassesOwn (model X.prog X.w) X.A X.env X.xe)(hc:X.calm=true)(hi:PI X tg iter wi)(hg:PG X tg g)(hb:PSs X body tb)
  (hs:∀x,foldedSetIterable iter X.env x=pure x:=by intro _;rfl):PS X (.For tg iter body [] pos) (tFor wi g tb):=by
 intro pins s σ H D I h;refine wpAny_For (thn (hi pins s σ H _ I h) λv s1 h1=>thn h1 λitv s2 h2=> ?_) hs;obtain⟨it,fp,tn,J,H2,e,I2,T,st2,f2,W,⟨m0,w0⟩,turn⟩:=h2;subst e;have stat:∀{H' :Hp},(∀b∈fp,H' b=none)->∀b∈fp,WV X pins H' b:=λhn b hb=>⟨hn b hb,(f2 b hb).2⟩;refine codeAny_forLoop_any (λn s' =>∃i σ' H',Inv X pins σ' H' s' /\tn i s'.heap/\(∀b∈fp,H' b=none)/\W i n σ' H') ?_ m0 ⟨0,σ,H2,I2,st2,λb hb=>(f2 b hb).1,w0⟩
 rintro n s3 ⟨i,σ3,H3,I3,st3,fr3,w3⟩
 rcases turn i n σ3 H3 w3 with ⟨stop,qn⟩ | ⟨go,N,hN,step⟩
 ·refine wpAny_passesOwn hp (thn (T.done X rfl rfl rfl hc i pins s3 σ3 H3 X.xe I3 (stat fr3) st3 stop) λr s4 ⟨hr,I4⟩=> ?_);subst hr;exact wpAny_execs_nil ⟨σ3,H3,I4,qn⟩
 ·refine wpAny_passesOwn hp (thn (T.item X rfl rfl rfl hc i pins s3 σ3 H3 X.xe I3 (stat fr3) st3 go) λr s4 ⟨u,hr,h4⟩=> ?_);subst hr;refine wpAny_passesOwn hp (thn h4 λ_ s5 ⟨x,H5,I5,r5,y5,st5,fr5⟩=> ?_);have I5' :=I5.pinned (stat fr5) (T.obj _ _ st5);refine wpAny_passesOwn hp (thn (hg _ s5 σ3 H5 x u _ I5' r5 (step x H5 y5)) λ_ s6 ⟨σ6,H6,I6,q6⟩=> ?_);refine wpAny_passesOwn hp (thn (hb _ s6 σ6 H6 _ I6 q6) λf s7 q7=> ?_);have again:∀{σ7:St} {H7:Hp},Inv X (pins++W8 fp s5.heap) σ7 H7 s7->N σ7 H7->∃m,m < n/\∃i σ' H',Inv X pins σ' H' s7/\tn i s7.heap/\(∀b∈fp,H' b=none)/\W i m σ' H' :=λ{σ7 H7} I7 n7=>by
   obtain⟨m',hm,w7⟩:=hN σ7 H7 n7;refine⟨m',hm,i+1,σ7,H7,I7.unpinned,T.keep _ _ _ st5 λb hb o e=>(I7.pin (b,o) (bb _ (bb _ (jh hb e)))).1,λb hb=> ?_,w7⟩;obtain⟨o,e,d⟩:=T.obj _ _ st5 b hb;exact(I7.pin (b,o) (bb _ (bb _ (jh hb e)))).2.1
  cases f with
  | next=>obtain⟨σ7,H7,I7,n7⟩:=q7;exact again I7 n7
  | cont=>obtain⟨σ7,H7,I7,n7⟩:=q7;exact again I7 n7
  | brk=>obtain⟨σ7,H7,I7,q7⟩:=q7;exact⟨σ7,H7,I7.unpinned,q7⟩
  | ret v=>obtain⟨x7,σ7,H7,I7,r7,q7⟩:=q7;exact⟨x7,σ7,H7,I7.unpinned,r7,q7⟩
end
end L2
namespace L2
open PySem PySem.Spec PyProof.Rows
abbrev R2:=V->V->Hp->VK->Prop
def OpR (X:Cx)(f:Value->Value->Sem Value)(r:R2):Prop:=
 ∀(pins:List (Addr×Obj)) (s:Shared) (σ:St) (H:Hp) (x y:V) (v u:Value) (Q:VK),Inv X pins σ H s->RelV x v->RelV y u->r x y H Q->
  wpAny (model X.prog X.w) X.A (f v u) (EP X pins σ Q) X.xe s
def UnR (X:Cx)(f:Value->Sem Value)(r:V->Hp->VK->Prop):Prop:=
 ∀(pins:List (Addr×Obj)) (s:Shared) (σ:St) (H:Hp) (x:V) (v:Value) (Q:VK),Inv X pins σ H s->RelV x v->r x H Q->
  wpAny (model X.prog X.w) X.A (f v) (EP X pins σ Q) X.xe s
def ZB (X:Cx)(f:Value)(r:List V->Hp->VK->Prop):Prop:=
 ∀(pins:List (Addr×Obj)) (s:Shared) (σ:St) (H:Hp) (xs:List V) (us:List Value) (Q:VK),Inv X pins σ H s->Vals xs us->r xs H Q->
  wpAny (model X.prog X.w) X.A (call f us) (EP X pins σ Q) X.xe s
def TruR (X:Cx)(r:V->Hp->(Bool->Hp->Prop)->Prop):Prop:=
 ∀(pins:List (Addr×Obj)) (s:Shared) (σ:St) (H:Hp) (x:V) (v:Value) (Q:Bool->Hp->Prop),Inv X pins σ H s->RelV x v->r x H Q->
  wpAny (model X.prog X.w) X.A (truthy v) (TP X pins σ Q) X.xe s
def tOp (r:R2)(ta tb:TE):TE:=λσ H Q=>ta σ H λx H1=>tb σ H1 λy H2=>r x y H2 Q
def tUn (r:V->Hp->VK->Prop)(ta:TE):TE:=λσ H Q=>ta σ H λx H1=>r x H1 Q
def rI (C:Int->Int->Prop)(g:Int->Int->V):R2:=λx y H Q=>∃i j,x= .int i/\y= .int j/\C i j/\Q (g i j) H
def rI0 (g:Int->Int->V):R2:=λx y H Q=>∃i j,x= .int i/\y= .int j/\Q (g i j) H
def rU (g:Int->V):V->Hp->VK->Prop:=λx H Q=>∃i,x= .int i/\Q (g i) H
section
variable {X:Cx}{a b c:Expr}{ta tb tc:TE}{pos:Pos}
theorem gQ (ha:PE X a ta)(hb:PE X b tb){pins:List (Addr×Obj)}{s:Shared}{σ:St}{H:Hp}{R:V->V->Hp->Prop}(I:Inv X pins σ H s)
  (h:ta σ H λx H1=>tb σ H1 λy H2=>R x y H2) {Q:Value->Shared->Prop} {f:Value->Value->Sem Value}
  (hf:∀v u s2 x y H2,Inv X pins σ H2 s2->RelV x v->RelV y u->R x y H2->wpAny (model X.prog X.w) X.A (f v u) Q X.xe s2):
  wpAny (model X.prog X.w) X.A (eval a X.env) (λv s₁=>wpAny (model X.prog X.w) X.A (eval b X.env) (λu s₂=>wpAny (model X.prog X.w) X.A (f v u) Q X.xe s₂) X.xe s₁) X.xe s:=by
 refine thn (ha pins s σ H _ I h) λv s1 ⟨x,H1,I1,r1,q1⟩=> ?_;refine thn (hb pins s1 σ H1 _ I1 q1) λu s2 ⟨y,H2,I2,r2,q2⟩=> ?_;exact hf v u s2 x y H2 I2 r1 r2 q2
theorem gR {op:Operator}{r:R2}(ho:OpR X (binaryOp op) r)(ha:PE X a ta)(hb:PE X b tb):PE X (.BinOp a op b pos) (tOp r ta tb):=by
 intro pins s σ H Q I h;exact wpAny_BinOp (gQ ha hb I h λv u s2 x y H2 I2 rx ry q=>ho pins s2 σ H2 x y v u Q I2 rx ry q)
theorem Xr {op:UnaryOp}{r:V->Hp->VK->Prop}(ho:UnR X (unaryOp op) r)(ha:PE X a ta):PE X (.UnaryOp op a pos) (tUn r ta):=by
 intro pins s σ H Q I h;exact UnaryOp_ (thn (ha pins s σ H _ I h) λv s1 ⟨x,H1,I1,r1,q1⟩=>ho pins s1 σ H1 x v Q I1 r1 q1)
theorem opI {f:Value->Value->Sem Value}{C:Int->Int->Prop}{g:Int->Int->Int}
  (rule:∀(i j:Int) (t u:Tok) (s:Shared) (Q:Value->Shared->Prop) (E:Value->Shared->Prop),C i j->Q (.int (g i j) s.toks) { s with toks:=s.toks+1 }->wpAny (model X.prog X.w) X.A (f (.int i t) (.int j u)) Q E s):
  OpR X f (rI C λi j=> .int (g i j)):=by
 intro pins s σ H x y v u Q I rx ry h;obtain⟨i,j,rfl,rfl,hc,q⟩:=h;obtain⟨t,rfl⟩:=rx;obtain⟨t',rfl⟩:=ry;exact rule i j t t' s _ _ hc ⟨.int (g i j),H,I.tok _,⟨_,rfl⟩,q⟩
theorem opI0 {f:Value->Value->Sem Value}{g:Int->Int->Int}
  (rule:∀(i j:Int) (t u:Tok) (s:Shared) (Q:Value->Shared->Prop) (E:Value->Shared->Prop),Q (.int (g i j) s.toks) { s with toks:=s.toks+1 }->wpAny (model X.prog X.w) X.A (f (.int i t) (.int j u)) Q E s):
  OpR X f (rI0 λi j=> .int (g i j)):=by
 intro pins s σ H x y v u Q I rx ry h;obtain⟨i,j,rfl,rfl,q⟩:=h;obtain⟨t,rfl⟩:=rx;obtain⟨t',rfl⟩:=ry;exact rule i j t t' s _ _ ⟨.int (g i j),H,I.tok _,⟨_,rfl⟩,q⟩
theorem gS {f:Value->Value->Sem Value}{g:Int->Int->Bool}
  (rule:∀(i j:Int) (t u:Tok) (s:Shared) (Q:Value->Shared->Prop) (E:Value->Shared->Prop),Q (.bool (g i j)) s->wpAny (model X.prog X.w) X.A (f (.int i t) (.int j u)) Q E s):
  OpR X f (rI0 λi j=> .bl (g i j)):=by
 intro pins s σ H x y v u Q I rx ry h;obtain⟨i,j,rfl,rfl,q⟩:=h;obtain⟨t,rfl⟩:=rx;obtain⟨t',rfl⟩:=ry;exact rule i j t t' s _ _ ⟨.bl (g i j),H,I,rfl,q⟩
def CDiv (i j:Int):Prop:=0 < j/\j < 1073741824
def W3 (i j:Int):Prop:=(-(2 ^ 64) < i/\i < 2 ^ 64)\/(-(2 ^ 64) < j/\j < 2 ^ 64)
theorem W3.ok {i j:Int}(h:W3 i j):IntMulOk i j:=by
 rcases h with ⟨h1,h2⟩ | ⟨h1,h2⟩
 ·exact .of_left (intBits_le_64 h1 h2)
 ·exact .of_right (intBits_le_64 h1 h2)
theorem Xs:OpR X (binaryOp .Add) (rI0 λi j=> .int (i+j)):=opI0 λ_ _ _ _ _ _ _ q=>add_int q
theorem Xt:OpR X (binaryOp .Sub) (rI0 λi j=> .int (i - j)):=opI0 λ_ _ _ _ _ _ _ q=>sub_int q
theorem Xu:OpR X (binaryOp .Mult) (rI W3 λi j=> .int (i*j)):=opI λ_ _ _ _ _ _ _ hc q=>mul_int q hc.ok
theorem V1:OpR X (binaryOp .FloorDiv) (rI CDiv λi j=> .int (i / j)):=opI λi j _ _ _ _ _ hc q=>by
 have h1:(0:Int) < j:=hc.1;have h2:j < 1073741824:=hc.2;exact floordiv_int (by omega) (by rw[Int.fdiv_eq_ediv_of_nonneg i (by omega)];exact q) (.inl (PyProof.noPylong_small (by omega)))
theorem Xv:OpR X (binaryOp .Mod) (rI (λ_ j=>0 < j) λi j=> .int (i % j)):=opI λi j _ _ _ _ _ hc q=>by
 have h1:(0:Int) < j:=hc;exact mod_int' (by omega) (by rw[Int.fmod_eq_emod_of_nonneg i (by omega)];exact q)
theorem unI {f:Value->Sem Value}{g:Int->Int}
  (rule:∀(i:Int) (t:Tok) (s:Shared) (Q:Value->Shared->Prop) (E:Value->Shared->Prop),Q (.int (g i) s.toks) { s with toks:=s.toks+1 }->wpAny (model X.prog X.w) X.A (f (.int i t)) Q E s):
  UnR X f (rU λi=> .int (g i)):=by
 intro pins s σ H x v Q I rx h;obtain⟨i,rfl,q⟩:=h;obtain⟨t,rfl⟩:=rx;exact rule i t s _ _ ⟨.int (g i),H,I.tok _,⟨_,rfl⟩,q⟩
theorem QV:UnR X (unaryOp .USub) (rU λi=> .int (-i)):=unI λ_ _ _ _ _ q=>neg_int q
theorem UV:OpR X (binaryOp .Add) (λx y H Q=>∃i k,x= .int i/\y= .bl k/\Q (.int (i+b2i k)) H):=by
 intro pins s σ H x y v u Q I rx ry h;obtain⟨i,k,rfl,rfl,q⟩:=h;obtain⟨t,rfl⟩:=rx;cases ry;exact add_int_bool ⟨.int (i+b2i k),H,I.tok _,⟨_,rfl⟩,q⟩
end
section
variable {X:Cx}{a b c:Expr}{ta tb tc:TE}{pos:Pos}
theorem gT:OpR X (compareOp .Lt) (rI0 λi j=> .bl (decide (i < j))):=gS λ_ _ _ _ _ _ _ q=>lt_int q
theorem gU:OpR X (compareOp .LtE) (rI0 λi j=> .bl (decide (i<=j))):=gS λ_ _ _ _ _ _ _ q=>le_int q
theorem gW:OpR X (compareOp .Gt) (rI0 λi j=> .bl (decide (j < i))):=gS λ_ _ _ _ _ _ _ q=>gt_int q
theorem jq (b:Expr){op:CmpOp}(h:op ≠ .In:=by decide)(h2:op ≠ .NotIn:=by decide):behindInMarks op b=false:=by
 have e1:(op == CmpOp.In)=false:=by cases op <;> first | rfl | exact absurd rfl h
 have e2:(op == CmpOp.NotIn)=false:=by cases op <;> first | rfl | exact absurd rfl h2
 cases b <;> simp[behindInMarks,e1,e2]
theorem V2 {op:CmpOp}{r:R2}(ho:OpR X (compareOp op) r)(ha:PE X a ta)(hb:PE X b tb)(hm:behindInMarks op b=false):PE X (.Compare a [op] [b] pos) (tOp r ta tb):=by
 intro pins s σ H Q I h;exact wpAny_Compare1 (gQ ha hb I h λv u s2 x y H2 I2 rx ry q=>ho pins s2 σ H2 x y v u Q I2 rx ry q) hm
def Xw (t:TE):TT:=λσ H Q=>t σ H λx H' =>∃k,x= .bl k/\Q k H'
theorem UW {op:CmpOp}{r:R2}(ho:OpR X (compareOp op) r)(ha:PE X a ta)(hb:PE X b tb)(hm:behindInMarks op b=false):PT X (.Compare a [op] [b] pos) (Xw (tOp r ta tb)):=by
 intro pins s σ H Q I h;refine wpAny_isTrue_Compare1 (thn (ha pins s σ H _ I h) λv s1 ⟨x,H1,I1,r1,q1⟩=>thn (hb pins s1 σ H1 _ I1 q1) λu s2 ⟨y,H2,I2,r2,q2⟩=>
  thn (ho pins s2 σ H2 x y v u _ I2 r1 r2 q2) λc s3 ⟨z,H3,I3,r3,k,e,q3⟩=> ?_) hm
 subst e;cases r3;exact bv ⟨H3,I3,q3⟩
def QW (r r' :R2)(ta tb tc:TE):TE:=λσ H Q=>ta σ H λx H1=>tb σ H1 λy H2=>r x y H2 λz H3=>∃k,z= .bl k/\
 (if k=true then tc σ H3 λw' H4=>r' y w' H4 Q else Q (.bl false) H3)
theorem qE {op op' :CmpOp}{r r' :R2}(ho:OpR X (compareOp op) r)(ho' :OpR X (compareOp op') r')(ha:PE X a ta)(hb:PE X b tb)(hc:PE X c tc)
  (hm:lastMarks [op,op'] [b,c]=false:=by with_unfolding_all rfl):PE X (.Compare a [op,op'] [b,c] pos) (QW r r' ta tb tc):=by
 intro pins s σ H Q I h;refine Compare_chain (thn (ha pins s σ H _ I h) λv s1 ⟨x,H1,I1,r1,q1⟩=>chain_link (thn (hb pins s1 σ H1 _ I1 q1) λu s2 ⟨y,H2,I2,r2,q2⟩=>
  thn (ho pins s2 σ H2 x y v u _ I2 r1 r2 q2) λd s3 ⟨z,H3,I3,r3,k,e,q3⟩=> ?_)) hm
 subst e;cases r3;refine bv ?_;cases k with
 | false=>exact ite_ff ⟨.bl false,H3,I3,rfl,q3⟩
 | true=>exact ite_tt (chain_last (thn (hc pins s3 σ H3 _ I3 q3) λw' s4 ⟨z',H4,I4,r4,q4⟩=>ho' pins s4 σ H4 y z' u w' Q I4 r2 r4 q4))
theorem qF {op op' :CmpOp}{r r' :R2}(ho:OpR X (compareOp op) r)(ho' :OpR X (compareOp op') r')(ha:PE X a ta)(hb:PE X b tb)(hc:PE X c tc)
  (hm:lastMarks [op,op'] [b,c]=false:=by with_unfolding_all rfl):PT X (.Compare a [op,op'] [b,c] pos) (Xw (QW r r' ta tb tc)):=by
 intro pins s σ H Q I h;refine isTrue_chain (thn (ha pins s σ H _ I h) λv s1 ⟨x,H1,I1,r1,q1⟩=>test_link (thn (hb pins s1 σ H1 _ I1 q1) λu s2 ⟨y,H2,I2,r2,q2⟩=>
  thn (ho pins s2 σ H2 x y v u _ I2 r1 r2 q2) λd s3 ⟨z,H3,I3,r3,k,e,q3⟩=> ?_)) hm
 subst e;cases r3;refine bv ?_;cases k with
 | false=>
  obtain⟨k',e',q'⟩:=q3;cases e';exact ite_ff ⟨H3,I3,q'⟩
 | true=>
  refine ite_tt (test_last (thn (hc pins s3 σ H3 _ I3 q3) λw' s4 ⟨z',H4,I4,r4,q4⟩=>thn (ho' pins s4 σ H4 y z' u w' _ I4 r2 r4 q4) λd' s5 ⟨z2,H5,I5,r5,k2,e2,q5⟩=> ?_));subst e2;cases r5;exact bv ⟨H5,I5,q5⟩
def TruV (K:ai)(x:V)(H:Hp)(k:Bool):Prop:=
 match x with
 | .non=>k=false
 | .bl b=>k=b
 | .int i=>k=(i != 0)
 | .str y=>y.length<=sizeLine/\k=((y.length:Int) != 0)
 | .byt y=>y.size<=sizeLine/\k=((y.size:Int) != 0)
 | .ref p=>(∃xs,SqL K H p xs/\k= !xs.isEmpty)\/(∃xs,SqT K H p xs/\k= !xs.isEmpty)\/∃kvs,H p=some (.dK kvs)/\k= !kvs.isEmpty
 | _=>False
theorem Ue {κ:Type}{kvs:List (κ×V)}{vs:List (κ×Value)}(r:KV kvs vs):(!vs.isEmpty)= !kvs.isEmpty:=by
 cases r <;> rfl
theorem wg {xs:List V}{its:List Value}(r:Vals xs its):(!its.toArray.isEmpty)= !xs.isEmpty:=by
 cases r <;> simp
theorem wj:(sizeLine:Nat) < 2 ^ 63:=by rw[bS];decide
theorem Xx:TruR X (λx H Q=>∃k,TruV X.K x H k/\Q k H):=by
 intro pins s σ H x v Q I rx h;obtain⟨k,e,q⟩:=h;have hl:=wj;have hs:sizeLine=16777216:=bS;cases x with
 | non=>
  cases rx;have e' :k=false:=e;subst e';exact truthy_none ⟨H,I,q⟩
 | bl b=>
  cases rx;have e' :k=b:=e;subst e';exact bv ⟨H,I,q⟩
 | int i=>
  obtain⟨t,rfl⟩:=rx;have e' :k=(i != 0):=e;subst e';exact PySem.P.truthy_int ⟨H,I,q⟩
 | str y=>
  obtain⟨t,rfl⟩:=rx;obtain⟨hy,e'⟩:y.length<=sizeLine/\k=((y.length:Int) != 0):=e;subst e';exact PySem.P.truthy_str (by omega) ⟨H,I.tok _,q⟩
 | byt y=>
  obtain⟨t,rfl⟩:=rx;obtain⟨hy,e'⟩:y.size<=sizeLine/\k=((y.size:Int) != 0):=e;subst e';exact PySem.W.truthy_bytes (by omega) ⟨H,I.tok _,q⟩
 | ref p=>
  cases rx;have e' :(∃xs,SqL X.K H p xs/\k= !xs.isEmpty)\/(∃xs,SqT X.K H p xs/\k= !xs.isEmpty)\/∃kvs,H p=some (.dK kvs)/\k= !kvs.isEmpty:=e;rcases e' with ⟨xs,hx,e'⟩ | ⟨xs,hx,e'⟩ | ⟨kvs,hx,e'⟩
  ·subst e';obtain⟨its,r,pl,hz⟩:=I.list hx;have hlen:=r.length;exact wpAny_truthy_list pl.isList (by simp only[av];omega) ⟨H,I.tok _,by rw[wg r];exact q⟩
  ·subst e';obtain⟨its,r,pl,hz⟩:=I.tuple hx;have hlen:=r.length;exact truthy_tuple pl (by simp only[av];omega) ⟨H,I.tok _,by rw[wg r];exact q⟩
  ·subst e';obtain⟨hz,hS,vs,r,m⟩:kvs.length<=sizeLine/\(p == sysModules)=false/\∃vs,KV kvs vs/\s.heap.DictOf (WT X.prog X.w) p vs:=I.hok p _ hx;have hlen:kvs.length=vs.length:=Paired.length r;exact wpAny_truthy_dict hS m (by omega) ⟨H,I.tok _,by rw[Ue r];exact q⟩
 | _=>exact(show False from e).elim
theorem qG (ha:PE X a ta)(he:∀whole,isTrue a X.env whole=(do let v ← whole;standAt a.pos;holding [v] (truthy v))):
  PT X a (λσ H Q=>ta σ H λx H' =>∃k,TruV X.K x H' k/\Q k H'):=by
 intro pins s σ H Q I h;exact isTrue_plain (thn (ha pins s σ H _ I h) λv s1 ⟨x,H1,I1,r1,q1⟩=>Xx pins s1 σ H1 x v Q I1 r1 q1) (he _)
theorem Uf:OpR X (binaryOp .Add) (λx y H Q=>∃i j,x= .str i/\y= .str j/\i.length+j.length<=sizeLine/\Q (.str (i++j)) H):=by
 intro pins s σ H x y v u Q I rx ry h;obtain⟨i,j,rfl,rfl,hz,q⟩:=h;obtain⟨t,rfl⟩:=rx;obtain⟨t',rfl⟩:=ry;exact add_str (λt' tk=>⟨.str (i++j),H,I.tok _,⟨_,rfl⟩,q⟩) hz
theorem j7 {x:V}{us:List Value}(r:Vals [x] us):∃u,us=[u]/\RelV x u:=by
 cases r with
 | cons r1 r2=>cases r2;exact⟨_,rfl,r1⟩
theorem Ug {x y:V}{us:List Value}(r:Vals [x,y] us):∃u w',us=[u,w']/\RelV x u/\RelV y w' :=by
 cases r with
 | cons r1 r2=>
  cases r2 with
  | cons r3 r4=>cases r4;exact⟨_,_,rfl,r1,r3⟩
theorem UX (hc:X.calm=true):ZB X (.builtin "max") (λxs H Q=>∃i j,xs=[.int i,.int j]/\Q (.int (if j > i then j else i)) H):=by
 intro pins s σ H xs us Q I r h;obtain⟨i,j,rfl,q⟩:=h;obtain⟨u,w',rfl,⟨t,rfl⟩,⟨t',rfl⟩⟩:=Ug r;refine max_two_ints (I.ok.hd hc) λh' tk k=>⟨_,H,I.kept k, ?_,q⟩
 by_cases hj:j > i
 ·rw[if_pos hj,if_pos hj];exact⟨_,rfl⟩
 ·rw[if_neg hj,if_neg hj];exact⟨_,rfl⟩
theorem UY (hc:X.calm=true):ZB X (.builtin "min") (λxs H Q=>∃i j,xs=[.int i,.int j]/\Q (.int (if j < i then j else i)) H):=by
 intro pins s σ H xs us Q I r h;obtain⟨i,j,rfl,q⟩:=h;obtain⟨u,w',rfl,⟨t,rfl⟩,⟨t',rfl⟩⟩:=Ug r;refine min_two_ints (I.ok.hd hc) λh' tk k=>⟨_,H,I.kept k, ?_,q⟩
 by_cases hj:j < i
 ·rw[if_pos hj,if_pos hj];exact⟨_,rfl⟩
 ·rw[if_neg hj,if_neg hj];exact⟨_,rfl⟩
theorem UZ:ZB X (.type "int") (λxs H Q=>(∃i,xs=[.int i]/\Q (.int i) H)\/∃k,xs=[.bl k]/\Q (.int (if k then 1 else 0)) H):=by
 intro pins s σ H xs us Q I r h;rcases h with ⟨i,rfl,q⟩ | ⟨k,rfl,q⟩
 ·obtain⟨u,rfl,t,rfl⟩:=j7 r;exact call_int_int ⟨.int i,H,I,⟨_,rfl⟩,q⟩
 ·obtain⟨u,rfl,r1⟩:=j7 r;cases r1;exact call_int_bool ⟨.int (if k then 1 else 0),H,I.tok _,⟨_,rfl⟩,q⟩
end
end L2
namespace L2
open PySem PySem.Spec PyProof.Rows
structure gX (h:Heap) (x dx C:Addr) (mA:Str->Option Value):Prop where
 obj:h.get? x=some (fB C dx)
 ns:h.Ns1 dx mA
 ne:dx ≠ x
theorem y3 {h:Heap}{dx:Addr}{mA:Str->Option Value}(n:h.Ns1 dx mA):∃od,h.get? dx=some od/\∀name,fK name od=some (mA name):=by
 obtain⟨o,es,ep,ho,hd,hk,_,hm⟩:=n;refine⟨o,ho,λname=> ?_⟩;have e:=hm name;unfold nsFind findBy at e;rw[← Array.find?_toList]at e;unfold fK;rw[hd];dsimp only;split
 ·rename_i y q;rw[q]at e;exact congrArg some e
 ·rename_i q;rw[q]at e;have a:es.toList.any (·.refKey)=false:=by
   rw[List.any_eq_false];intro y hy;obtain⟨z,t,hkey⟩:=hk y (Array.mem_toList_iff.mp hy);simp[DictEntry.refKey,hkey]
  have a' :¬ es.toList.any (·.refKey)=true:=by rw[a];exact ao
  rw[if_neg a'];exact congrArg some e
theorem gX.look {h:Heap}{x dx C:Addr}{mA:Str->Option Value}(I:gX h x dx C mA):∃od,PySem.W.InstAt h x (fB C dx) C (some od)/\∀name,fK name od=some (mA name):=
 let ⟨od,ho,hl⟩:=y3 I.ns
 ⟨od,⟨I.obj,rfl,rfl,ho⟩,hl⟩
section
variable {prog:Program}{w:World}{A:Around}{E:Value->Shared->Prop}{s:Shared}{K:ai}{x dx C f:Addr}{mA:Str->Option Value}{name:Str}{v:Value}
end
section
variable {P:Program}{w:World}{H H' :Hp}{h h' :Heap}{a C dx:Addr}{fs fs' :List (Str×V)}
theorem V3 (hok:HOk P w H h)(e:H a=some (.ins C dx fs)):∃mA,gX h a dx C mA/\(∀f,gE (fs.lookup f) (mA f))/\PySem.Within mA (fs.map (·.1))/\fs.length<=1000/\H dx=some (.own a):=by
 obtain⟨d,z,ne,ob,mA,n,r,q⟩:=(show Zl P w H h a (.ins C dx fs) from hok a _ e);exact⟨mA,⟨ob,n,ne⟩,r,q,z,d⟩
end
structure Cls (K:ai) (C:Addr):Prop where
 pg:ij K C Str.empty=true
 hd:PySem.W.hasDictIn K C=true
 po:PySem.W.plainOver K C=true
 sa:dn K (.ref C) "__setattr__"=some (some (.builtin "object.__setattr__"))
theorem Cls.get {K:ai}{C:Addr}(c:Cls K C)(f:Str):ij K C f=true:=c.pg
section
variable {X:Cx}{pins:List (Addr×Obj)}{σ:St}{H:Hp}{s:Shared}{a C dx:Addr}{fs:List (Str×V)}{f:Str}{v:V}{A:Around}{E:Value->Shared->Prop}
end
section
variable {X:Cx}{o e value:Expr}{f:Str}{pos pos' tpos:Pos}{ta tv:TE}
end
section
variable {X:Cx}{pins:List (Addr×Obj)}{σ:St}{H:Hp}{s:Shared}{A:Around}{E:Value->Shared->Prop}{Q:Value->Shared->Prop}{c:Value}{b:Bool}
inductive Uh (K:ai) (H:Hp):V->Value->Prop where
 | non:Uh K H .non (.type "NoneType")
 | bl (x:Bool):Uh K H (.bl x) (.type "bool")
 | int (i:Int):Uh K H (.int i) (.type "int")
 | str (x:Str):Uh K H (.str x) (.type "str")
 | flt (x:UInt64):Uh K H (.flt x) (.type "float")
 | lst {a:Addr} {xs:List V} (e:H a=some (.lst xs)):Uh K H (.ref a) (.type "list")
 | frz {a:Addr} {o:Obj} {xs:List V} (e:H a=some (.frz o (.lst xs))):Uh K H (.ref a) (.type "list")
 | tup {a:Addr} {xs:List V} (e:H a=some (.tup xs)):Uh K H (.ref a) (.type "tuple")
 | dK {a:Addr} {kvs:List (Key×V)} (e:H a=some (.dK kvs)):Uh K H (.ref a) (.type "dict")
 | dT {a:Addr} {kvs:List (List Key×V)} (e:H a=some (.dT kvs)):Uh K H (.ref a) (.type "dict")
 | ins {a C dx:Addr} {fs:List (Str×V)} (e:H a=some (.ins C dx fs)) (cl:Cls K C) (ha:dn K (.ref C) "__class__"=some (some (.builtin "object.__class__")))
   (hn:i6 K (.builtin "object.__class__") "__get__"=some (some (.builtin "getset_descriptor.__get__"))) (htk:iD K (.builtin "object.__class__")=some true)
   (hm:fW K C (.type "object")=some true):Uh K H (.ref a) (.ref C)
theorem y6 {x:V}{u t:Value}(I:Inv X pins σ H s)(rx:RelV x u)(ty:Uh X.K H x t)(e:aN X.K t c=some b)(h:∀tk,Q (.bool b) { s with toks:=tk }):
  wpAny (model X.prog X.w) A (call (.builtin "isinstance") [u,c]) Q E s:=by
 cases ty with
 | non=>cases (show u=Value.none from rx);exact bz PySem.W.kitx_none I.kIn True.intro e (λz=>nomatch z) h
 | bl y=>cases (show u=Value.bool y from rx);exact bz PySem.W.kitx_bool I.kIn True.intro e (λz=>nomatch z) h
 | int i=>obtain⟨t,q⟩:=(show ∃t,u=Value.int i t from rx);cases q;exact bz PySem.W.kitx_int I.kIn True.intro e (λz=>nomatch z) h
 | str y=>obtain⟨t,q⟩:=(show ∃t,u=Value.str y t from rx);cases q;exact bz PySem.W.kitx_str I.kIn True.intro e (λz=>nomatch z) h
 | flt y=>obtain⟨t,q⟩:=(show ∃t,u=Value.float y t from rx);cases q;exact bz PySem.W.kitx_float I.kIn True.intro e (λz=>nomatch z) h
 | @lst a xs ea=>
  cases (show u=Value.ref a from rx);obtain⟨_,_,n,_,h1⟩:=(show Zl X.prog X.w H s.heap a (.lst xs) from I.hok a _ ea);exact bz i7 I.kIn ⟨_,h1,rfl⟩ e (λz=>nomatch z) h
 | @frz a ob xs ea=>
  cases (show u=Value.ref a from rx);obtain⟨_,_,_,n,_,h1⟩:=(show Zl X.prog X.w H s.heap a (.frz ob (.lst xs)) from I.hok a _ ea);exact bz i7 I.kIn ⟨_,h1,rfl⟩ e (λz=>nomatch z) h
 | @tup a xs ea=>
  cases (show u=Value.ref a from rx);obtain⟨_,_,_,p,_⟩:=(show Zl X.prog X.w H s.heap a (.tup xs) from I.hok a _ ea);obtain⟨o,h1,h2,_⟩:=p;exact bz PySem.W.kitx_tuple I.kIn ⟨o,h1,h2⟩ e (λz=>nomatch z) h
 | @dK a kvs ea=>
  cases (show u=Value.ref a from rx);obtain⟨_,_,vs,_,p⟩:=(show Zl X.prog X.w H s.heap a (.dK kvs) from I.hok a _ ea);obtain⟨o,es,ep,h1,h2,_⟩:=p;exact bz i8 I.kIn ⟨o,h1,h2.1⟩ e (λz=>nomatch z) h
 | @dT a kvs ea=>
  cases (show u=Value.ref a from rx);obtain⟨_,_,xs,_,o,es,ep,h1,h2,_⟩:=(show Zl X.prog X.w H s.heap a (.dT kvs) from I.hok a _ ea);exact bz i8 I.kIn ⟨o,h1,h2.1⟩ e (λz=>nomatch z) h
 | @ins a C dx fs ea cl ha hn htk hm=>
  cases (show u=Value.ref a from rx);obtain⟨mA,O,_⟩:=V3 I.hok ea;obtain⟨od,J,_⟩:=O.look;exact bz (PySem.W.kitx_own (cl.get _) cl.hd ha hn htk hm) I.kIn J e (λz=>nomatch z) h
end
end L2
namespace L2
open PySem PySem.Spec PyProof.Rows
structure jv (k:Nat) (A:Around):Prop where
 hd:A.handled=none
 dp:A.depth+3*k+5 < recursionLimit
 un:A.units+16*k+200 < cLine
 gd:A.guards=some []
theorem jv.mono {j k:Nat}{A:Around}(r:jv k A)(h:j<=k):jv j A:=⟨r.hd,by have:=r.dp;omega,by have:=r.un;omega,r.gd⟩
theorem jv.deeper {k:Nat}{A:Around}(r:jv (k+1) A)(env:Env):jv k (A.deeper env):=
 ⟨r.hd,by have:=r.dp;show A.depth+1+3*k+5 < _;omega,by have:=r.un;show A.units+3+16*k+200 < _;omega,r.gd⟩
theorem jv.depth {k:Nat}{A:Around}(r:jv k A):A.depth < recursionLimit:=by have:=r.dp;omega
theorem jv.units {k:Nat}{A:Around}(r:jv k A):A.units+64 < cLine:=by have:=r.un;omega
def tNil:TA:=λ_ H Q=>Q [] H
def gY (ta:TE)(tr:TA):TA:=λσ H Q=>ta σ H λx H1=>tr σ H1 λxs H2=>Q (x :: xs) H2
section
variable {X:Cx}{e:Expr}{es:List Expr}{te:TE}{t:TA}{pos:Pos}
theorem Za:PA X [] tNil:=λ_ _ _ _ H Q I h=>Calls.spliced_nil ⟨[],H,I,.nil,h⟩
theorem zu (ha:PE X e te)(hr:PA X es t)(hs:starEach (e :: es) X.env=(false,eval e X.env) :: starEach es X.env:=by rfl):PA X (e :: es) (gY te t):=by
 intro pos pins s σ H Q I h;rw[hs];show wpAny _ _ (spliced ((false,eval e X.env) :: backTo pos (starEach es X.env))) _ _ s;refine Calls.spliced_cons (thn (ha pins s σ H _ I h) λu s1 ⟨x,H1,I1,r1,q1⟩=> ?_);exact thn (hr pos pins s1 σ H1 _ I1 q1) λus s2 ⟨xs,H2,I2,r2,q2⟩=>⟨x :: xs,H2,I2,.cons r1 r2,q2⟩
def tTup (t:TA):TE:=λσ H Q=>t σ H λxs H1=>xs.length<=sizeLine/\∀p,H1 p=none->Q (.ref p) (upd H1 p (.tup xs))
def tLst (t:TA):TE:=λσ H Q=>t σ H λxs H1=>xs.length<=sizeLine/\∀p,H1 p=none->Q (.ref p) (upd H1 p (.lst xs))
theorem Xy {x1}(h:PA X es t):PE X (.Tuple es x1 pos) (tTup t):=by
 intro pins s σ H Q I hq;refine wpAny_Tuple_spliced (thn (h pos pins s σ H _ I hq) λus s1 ⟨xs,H1,I1,r,z,q⟩=>⟨by rw[← r.length];exact z, ?_⟩)
 have hf:H1 s1.heap.objs.size=none:=I1.hok.fresh (am _);refine⟨.ref s1.heap.objs.size,upd H1 s1.heap.objs.size (.tup xs),I1.laid (t' :=s1.toks) (λb u e=>aj _ e) (am _) ?_,rfl,q _ hf⟩;exact⟨z,us,r,⟨_,ay _ rfl,rfl,_,rfl⟩,.inr ⟨_,ay _ rfl,rfl⟩⟩
theorem y7 (h:PA X es t):PE X (.List es pos) (tLst t):=by
 intro pins s σ H Q I hq;refine wpAny_List_spliced (thn (h pos pins s σ H _ I hq) λus s1 ⟨xs,H1,I1,r,z,q⟩=>⟨by rw[← r.length];exact z, ?_⟩)
 have hf:H1 s1.heap.objs.size=none:=I1.hok.fresh (am _);refine⟨.ref s1.heap.objs.size,upd H1 s1.heap.objs.size (.lst xs),I1.laid (t' :=s1.toks) (λb u e=>aj _ e) (am _) ?_,rfl,q _ hf⟩;exact⟨z,us,0,r,ay _ rfl⟩
end
abbrev Sp:=List V->Hp->VK->XK->Prop
abbrev CXT:=List Env->Hp->Shared->XK->Value->Shared->Prop
structure KQ (P:Program) (w:World) (K:ai) (mg:Str->Option Value) (base:Heap) (A:Around) (outer:List Env) (s:Shared) (H:Hp):Prop where
 frames:A.frames=some outer
 mod:Mod K mg base
 bs:∀b o,base.get? b=some o->s.heap.get? b=some o/\H b=none
 bsz:base.objs.size<=s.heap.objs.size
 funs:s.heap.FunFrames base outer
 frf:∀b∈frs outer,H b=none
 hok:HOk P w H s.heap
 bare:AllBare s.gens
def CE (outer:List Env)(P:Program)(w:World)(H:Hp)(s:Shared)(Q:VK)(u:Value)(s' :Shared):Prop:=
 ∃v H',s'.os=s.os/\AllBare s'.gens/\Un (frs outer) [] H H' s.heap s'.heap/\HOk P w H' s'.heap/\RelV v u/\Q v H'
def CR (CX:CXT)(outer:List Env)(P:Program)(w:World)(H:Hp)(s:Shared)(Q:VK)(E:XK)(r:Result)(s' :Shared):Prop:=
 match r with
 | .ok (.ret u)=>CE outer P w H s Q u s'
 | .ok _=>False
 | .error e=>CX outer H s E e s'
structure Zh (P:Program) (w:World) (K:ai) (mg:Str->Option Value) (base:Heap) (CX:CXT) (k:Nat) (f:Addr) (fd:FuncData) (ps:List Str) (sp:Sp):Prop where
 len:∀vs H Q E,sp vs H Q E->vs.length=ps.length
 run:∀(A:Around) (outer:List Env) (s:Shared) (H:Hp) (args:Args) (us:List Value) (vs:List V) (Q:VK) (E:XK),jv k A->KQ P w K mg base A outer s H->BindsTo s fd args (ps.zip us)->Vals vs us->sp vs H Q E->
  codeAny (model P w) A (.call (.ref f) args) (CR CX outer P w H s Q E) s
section
variable {X:Cx}{pins:List (Addr×Obj)}{σ:St}{H:Hp}{s s' :Shared}
theorem Inv.env0 (I:Inv X pins σ H s):KQ X.prog X.w X.K X.mg X.base X.A X.stack s H:=
 ⟨I.ok.frames,I.ok.mod,I.bs,aq I.ok.bsz I.sz,I.stack,I.stkFree,I.hok,I.bare⟩
theorem Inv.after {Q:VK}{u:Value}(I:Inv X pins σ H s)(h:CE X.stack X.prog X.w H s Q u s'):EP X pins σ Q u s' :=by
 obtain⟨v,H',os,bare,un,hok,r,q⟩:=h;obtain⟨hh,g,d,t,os'⟩:=s';obtain rfl:os' =s.os:=os;exact⟨v,H',I.call (h' :=hh) (g' :=g) (d' :=d) (t' :=t) (ch:=[]) un hok bare (λb z=>absurd z (by simp)),r,q⟩
end
def gZ (sp:Sp)(dvs:List V)(E:XK)(t:TA):TE:=λσ H Q=>t σ H λvs H1=>sp (vs++dvs) H1 Q E
def Binds (K:ai)(fd:FuncData)(ps:List Str)(ds:List Value):Prop:=
 ∀(s:Shared) (us:List Value),K.In s.heap->(us++ds).length=ps.length->BindsTo s fd ⟨us,[]⟩ (ps.zip (us++ds))
theorem Binds.all {K:ai}{fd:FuncData}{ps:List Str}(h:∀us:List Value,us.length=ps.length->bindArgs fd ⟨us,[]⟩=pure (ps.zip us)):Binds K fd ps []:=λs us _ hl=>by
 rw[ci]at hl ⊢;exact .of_eq (h us hl)
def ZQ (CX:CXT)(X:Cx)(E:XK):Prop:=∀(pins:List (Addr×Obj)) (σ:St) (H:Hp) (s:Shared) (e:Value) (s' :Shared),Inv X pins σ H s->CX X.stack H s E e s' ->X.xe e s'
section
variable {X:Cx}{CX:CXT}{k:Nat}{f C:Addr}{fd:FuncData}{ps:List Str}{sp:Sp}{dvs:List V}{ds:List Value}{E:XK}{x m:Str}{p pos apos:Pos}{e o:Expr}{es:List Expr}{ta:TE}{t:TA}
theorem QX {pins:List (Addr×Obj)}{σ:St}{H:Hp}{s:Shared}{Q:VK}{us:List Value}{vs:List V}(F:Zh X.prog X.w X.K X.mg X.base CX k f fd ps sp)(hr:jv k X.A)(hb:Binds X.K fd ps ds)(hd:Vals dvs ds)(hx:ZQ CX X E)
  (I:Inv X pins σ H s) (r:Vals vs us) (h:sp (vs++dvs) H Q E):wpAny (model X.prog X.w) X.A (call (.ref f) us) (EP X pins σ Q) X.xe s:=by
 have r2:Vals (vs++dvs) (us++ds):=r.append hd;have hl:(us++ds).length=ps.length:=by rw[← r2.length];exact F.len _ _ _ _ h
 refine wpAny_call (codeAny_mono (F.run X.A X.stack s H ⟨us,[]⟩ (us++ds) (vs++dvs) Q E hr I.env0 (hb s us I.kIn hl) r2 h) λr s' hq=> ?_);cases r with
 | error e=>exact hx pins σ H s e s' I hq
 | ok fl=>
  cases fl with
  | ret u=>exact I.after hq
  | next=>exact cC hq
  | brk=>exact cC hq
  | cont=>exact cC hq
theorem y8 (F:Zh X.prog X.w X.K X.mg X.base CX k f fd ps sp)(hr:jv k X.A)(hg:Gl X x)(hm:X.mg x=some (.ref f))(hk:bL X.K (.ref f)=true)(hb:Binds X.K fd ps ds)(hd:Vals dvs ds)(hx:ZQ CX X E)
  (ha:PA X (e :: es) t) (hdb:(x == ("__debug__":Str))=false:=by decide) (he:starEach (e :: es) X.env=(false,eval e X.env) :: starEach es X.env:=by rfl) (hpl:(backTo pos (starEach es X.env)).any (·.1)=false:=by rfl):
  PE X (.Call (.Name x p) (e :: es) [] pos) (gZ sp dvs E t):=by
 intro pins s σ H Q I h;refine wpAny_Call_Name_kw (wC I hg hm ?_ hdb);refine f_ (h₀:=X.base) I.ok.mod.kin hk (thn (ha pos pins s σ H _ I h) λus s1 ⟨vs,H1,I1,r,q⟩=>⟨I1.kIn, ?_⟩) he hpl;exact QX F hr hb hd hx I1 r q
end
section
variable {X:Cx}{CX:CXT}{k:Nat}{f C:Addr}{fd:FuncData}{ps ks:List Str}{sp:Sp}{E:XK}{x m:Str}{p pos apos kpos:Pos}{e o:Expr}{es:List Expr}{kws:List Keyword}{te ta:TE}{t tk:TA}{nm:Option Str}
variable {g:List Value->List Value->List Value}{gV:List V->List V->List V}
end
structure zh (N P:List Str) (sc:Scope):Prop where
 kind:sc.kind= .function
 co:sc.isCoroutine=false
 gen:sc.isGenerator=false
 nd:N.Nodup
 pre:N.take P.length=P
 par:∀x∈P,sc.names.lookup x=some .local\/sc.names.lookup x=some .cell
 nofree:∀y∈sc.names,y.2 ≠ .free
theorem W9 {kindOf:Str->Option NameKind}{x:Str}:∀{binds:List (Str×Value)} {m:Str->Option Value},(∀v,(x,v) ∉ binds)->bindL kindOf binds m x=m x
 | [],_,_=>rfl
 | (n,v) :: r,m,h=>by
  unfold bindL;rw[W9 λw hw=>h w (ae _ hw)];split
  ·have:x ≠ n:=by rintro rfl;exact h v ah
   simp[this]
  ·rfl
theorem Wa {kindOf:Str->Option NameKind}{x:Str}:∀{binds:List (Str×Value)} {m:Str->Option Value},(∀v,(x,v) ∉ binds)->bindC kindOf binds m x=m x
 | [],_,_=>rfl
 | (n,v) :: r,m,h=>by
  unfold bindC;rw[Wa λw hw=>h w (ae _ hw)];split
  ·rfl
  ·have:x ≠ n:=by rintro rfl;exact h v ah
   simp[this]
theorem Wb {kindOf:Str->Option NameKind}{x:Str}{v:Value}:∀{P:List Str} {vs:List Value} {i:Nat} {m:Str->Option Value},P.Nodup->P[i]? =some x->vs[i]? =some v->kindOf x=some .local->
  bindL kindOf (P.zip vs) m x=some v
 | [],_,_,_,_,h,_,_=>by simp at h
 | _ :: _,[],_,_,_,_,h,_=>by simp at h
 | p :: P,w :: vs,0,m,nd,h1,h2,hk=>by
  simp at h1 h2;subst h1;subst h2;show bindL kindOf ((p,w) :: P.zip vs) m p=_;unfold bindL;rw[W9 λv hv=>(da.mp nd).1 (db hv).1,if_pos hk];simp
 | p :: P,w :: vs,i+1,m,nd,h1,h2,hk=>by
  show bindL kindOf ((p,w) :: P.zip vs) m x=_;unfold bindL;exact Wb (i:=i) (da.mp nd).2 (by simpa using h1) (by simpa using h2) hk
theorem Wc {kindOf:Str->Option NameKind}{x:Str}{v:Value}:∀{P:List Str} {vs:List Value} {i:Nat} {m:Str->Option Value},P.Nodup->P[i]? =some x->vs[i]? =some v->kindOf x ≠ some .local->
  bindC kindOf (P.zip vs) m x=some v
 | [],_,_,_,_,h,_,_=>by simp at h
 | _ :: _,[],_,_,_,_,h,_=>by simp at h
 | p :: P,w :: vs,0,m,nd,h1,h2,hk=>by
  simp at h1 h2;subst h1;subst h2;show bindC kindOf ((p,w) :: P.zip vs) m p=_;unfold bindC;rw[Wa λv hv=>(da.mp nd).1 (db hv).1,if_neg hk];simp
 | p :: P,w :: vs,i+1,m,nd,h1,h2,hk=>by
  show bindC kindOf ((p,w) :: P.zip vs) m x=_;unfold bindC;exact Wc (i:=i) (da.mp nd).2 (by simpa using h1) (by simpa using h2) hk
def start (N:List Str)(vs:List V):St:=vs.map some++ag (N.length - vs.length) none
def w4 (CX:CXT)(P:Program)(w:World)(K:ai)(mg:Str->Option Value)(base:Heap)(N:List Str)(qual:Str)(scope:Scope)(f:Addr)(cd:Value)(A:Around)(outer:List Env)(s:Shared)(H:Hp)(E:XK):Cx where
 prog:=P
 w:=w
 K:=K
 mg:=mg
 base:=base
 A:=A.deeper (envOfC qual scope s.heap.objs.size f cd)
 N:=N
 s₀:=s
 H₀:=H
 env:=envOfC qual scope s.heap.objs.size f cd
 outer:=outer
 stack:=envOfC qual scope s.heap.objs.size f cd :: outer
 ex:=[]
 calm:=true
 fn:=λ_=>true
 pn:=[]
 xe:=λe s' =>wpAny (model P w) (A.deeper (envOfC qual scope s.heap.objs.size f cd)) (leaving (envOfC qual scope s.heap.objs.size f cd) e) (λ_ s'' =>CX outer H s E e s'') (λe' s'' =>CX outer H s E e' s'') s'
theorem uB {sc:Scope}{n:Nat}{x:Str}(h:sc.names.lookup x=some .cell):∃c,(cellsFrom n sc.names []).lookup x=some c:=by
 have q:=fu sc.names n [] (.inl h);exact cV.mp q
theorem y9 {CX:CXT}{P:Program}{w:World}{K:ai}{mg:Str->Option Value}{base:Heap}{N ps:List Str}{qual:Str}{scope:Scope}{f:Addr}{cd:Value}{A:Around}{outer:List Env}{s s1:Shared}{H:Hp}{E:XK}{us:List Value}{vs:List V}
  (S:zh N ps scope) (hd:A.handled=none) (e0:KQ P w K mg base A outer s H) (hl:vs.length=ps.length) (r:Vals vs us)
  (x:InCallC s s.heap.objs.size (bindL (envOfC qual scope s.heap.objs.size f cd).kindOf (ps.zip us) λ_=>none) (cellsFrom (s.heap.objs.size+1) scope.names []) (bindC (envOfC qual scope s.heap.objs.size f cd).kindOf (ps.zip us) λ_=>none) s1):
  Inv (w4 CX P w K mg base N qual scope f cd A outer s H E) [] (start N vs) H s1:=by
 have hpl:ps.length<=N.length:=by have:=congrArg iy S.pre;rw[bn]at this;omega
 obtain⟨h1,tk,rfl,hk⟩:=x.done;have noA:∀b:Addr,b ∉ (w4 CX P w K mg base N qual scope f cd A outer s H E).ex:=λb z=>absurd (show b∈([]:List Addr) from z) (by simp)
 refine⟨⟨e0.mod,S.kind,rfl,rfl,am _,λy z c h1 h2=> ?_,λy hy=> ?_,λy c _ h=> ?_,λ_=>hd,Around.frames_deeper e0.frames,.inr ⟨rfl,rfl⟩,λb z=>absurd z (noA b),e0.bs,e0.bsz,λb _ _=>noA b,λb z=>absurd z (noA b),e0.funs,e0.frf⟩,
  rfl,e0.bare,Un.kept hk,⟨_,x.toInCall.ns,λi y v h1 h2 h3=> ?_⟩,λy c h=>⟨_,x.cell y c h⟩,e0.hok.fresh (am _),λy c h=> ?_,λp hp=>absurd (show p∈([]:List (Addr×Obj)) from hp) (by simp),e0.hok.kept hk, ?_⟩
 ·exact name_of_addr x.apart (bW h1) (bW h2)
 ·have hy:scope.names.lookup y=some .cell\/scope.names.lookup y=some .free:=hy;rcases hy with hy | hy
  ·exact uB hy
  ·exact absurd rfl (S.nofree _ (bW hy))
 ·exact i5 (x.above y c (bW h))
 ·have hi:i < vs.length:=by
   unfold start at h2
   by_cases hi:i < vs.length
   ·exact hi
   ·rw[bo (by simpa using hi)]at h2
    rw[aF]at h2;split at h2 <;> cases h2
  have ha:vs[i]? =some v:=by
   unfold start at h2;rw[bq (by simpa using hi),aG]at h2
   cases e:vs[i]? with
   | none=>rw[e]at h2;cases h2
   | some a=>rw[e]at h2;cases h2;rfl
  obtain⟨u,hu,rv⟩:=r.get ha;have hp:ps[i]? =some y:=by
   rw[← S.pre,List.getElem?_take_of_lt (by omega)];exact h1
  have ndP:ps.Nodup:=by rw[← S.pre];exact S.nd.sublist (List.take_sublist _ _)
  refine⟨u,rv, ?_⟩;rcases S.par y (bx hp) with k | k
  ·exact .inl ⟨k,Wb ndP hp hu k⟩
  ·obtain⟨c,e⟩:=uB (n:=s.heap.objs.size+1) k;refine .inr ⟨.inl k,c,e, ?_⟩;have q:=x.cell y c e;rw[Wc ndP hp hu (by show scope.names.lookup y ≠ _;rw[k];decide)]at q
   exact q
 ·exact e0.hok.fresh (i5 (x.above y c (bW h)))
 ·unfold start;show _=N.length;rw[aA,ac,aI];omega
theorem Xz {CX:CXT}{P:Program}{w:World}{K:ai}{mg:Str->Option Value}{base:Heap}{k:Nat}{f:Addr}{name qual:Str}{params:Arguments}{body:List Stmt}{scope:Scope}{dV kV doc pm cdv ct oc:Value}{an od:Option Addr}
  {osl:Array (Option Value)} {N ps:List Str} {sp:Sp} (lk:K.lookup f=some ⟨oc,od,.func (bX name qual params body scope dV kV doc pm an cdv ct),osl⟩) (hcd:dX K cdv qual=true) (S:zh N ps scope)
  (len:∀vs H Q E,sp vs H Q E->vs.length=ps.length)
  (hbody:∀(A:Around) (outer:List Env) (s:Shared) (H:Hp) (vs:List V) (Q:VK) (E:XK),jv k (A.deeper (envOfC qual scope s.heap.objs.size f cdv))->sp vs H Q E->
   ∃t,PSs (w4 CX P w K mg base N qual scope f cdv A outer s H E) body t/\t { nx:=λ_ H' =>Q .non H',rt:=Q } (start N vs) H):
  Zh P w K mg base CX (k+1) f (bX name qual params body scope dV kV doc pm an cdv ct) ps sp:=by
 refine⟨len,λA outer s H args us vs Q E hr e0 hb r hsp=> ?_⟩;have hl:=len _ _ _ _ hsp;have KX:K.In s.heap:=e0.mod.kin.keeps λb o e=>(e0.bs b o e).1;have lim:s.heap.NoLimit:=e0.mod.nolimit.keeps λb o e=>(e0.bs b o e).1;have hkind:∀y∈ps.zip us,scope.names.lookup y.1=some .local\/(scope.names.lookup y.1=some .cell/\((cellsFrom (s.heap.objs.size+1) scope.names []).lookup y.1).isSome=true):=λ⟨n,v⟩ hy=>by
  rcases S.par n (db hy).1 with q | q
  ·exact .inl q
  ·exact .inr ⟨q,fu _ _ _ (.inl q)⟩
 refine codeAny_call_function hr.depth (KX _ _ lk) rfl S.co S.gen rfl (PySem.W.codeRec_of KX hcd) (hb _ _ _ _ ?_);refine wpAny_newFunctionEnv_cells S.kind hkind λenv he s1 x=> ?_;subst he;refine⟨lim.keeps x.toInCall.keep,codeAny_func ?_⟩;obtain⟨t,ht,hq⟩:=hbody A outer s H vs Q E (hr.deeper _) hsp;have I:Inv (w4 CX P w K mg base N qual scope f cdv A outer s H E) [] (start N vs) H s1:=y9 S hr.hd e0 hl r x;refine bQ (ht [] s1 (start N vs) H _ I hq) (λfl s' hs=> ?_) λe s' hs=>hs;have fin:∀{σ' :St} {H' :Hp} {v:V} {u:Value},Inv (w4 CX P w K mg base N qual scope f cdv A outer s H E) [] σ' H' s' ->RelV v u->Q v H' ->CE outer P w H s Q u s' :=
  λ{σ' H' v u} J rv q=>⟨v,H',J.os,J.bare,J.base,J.hok,rv,q⟩
 cases fl with
 | ret u=>
  obtain⟨v,σ',H',J,rv,q⟩:=hs;exact fin J rv q
 | next=>
  obtain⟨σ',H',J,q⟩:=hs;exact fin (v:=V.non) (u:=Value.none) J rfl q
 | brk=>
  obtain⟨_,_,_,q⟩:=hs;exact cC q
 | cont=>
  obtain⟨_,_,_,q⟩:=hs;exact cC q
end L2
namespace L2
open PySem PySem.Spec PyProof.Rows
section
variable {X:Cx}{x:Str}{p pos:Pos}{e:Expr}{es:List Expr}{t:TA}{id T:String}{r:List V->Hp->VK->Prop}
def tCB (r:List V->Hp->VK->Prop)(t:TA):TE:=λσ H Q=>t σ H λvs H1=>r vs H1 Q
theorem ZR (hc:ZB X (.builtin id) r)(hg:Gl X x)(hm:X.mg x=none)(hv:bootBuiltins x=some (.builtin id))(ha:PA X (e :: es) t)(hn:x ≠ "__name__":=by decide)(hdb:(x == ("__debug__":Str))=false:=by decide)
  (he:starEach (e :: es) X.env=(false,eval e X.env) :: starEach es X.env:=by rfl) (hpl:(backTo pos (starEach es X.env)).any (·.1)=false:=by rfl):PE X (.Call (.Name x p) (e :: es) [] pos) (tCB r t):=by
 intro pins s σ H Q I h;refine wpAny_Call_Name_kw (Jz I hg hm hv ?_ hn hdb);exact PyProof.Rows.callWith_builtin1 (thn (ha pos pins s σ H _ I h) λus s1 ⟨vs,H1,I1,r1,q1⟩=>hc pins s1 σ H1 vs us Q I1 r1 q1) he hpl
theorem jD (hc:ZB X (.type T) r)(hg:Gl X x)(hm:X.mg x=none)(hv:bootBuiltins x=some (.type T))(ha:PA X (e :: es) t)(hn:x ≠ "__name__":=by decide)(hdb:(x == ("__debug__":Str))=false:=by decide)
  (he:starEach (e :: es) X.env=(false,eval e X.env) :: starEach es X.env:=by rfl) (hpl:(backTo pos (starEach es X.env)).any (·.1)=false:=by rfl):PE X (.Call (.Name x p) (e :: es) [] pos) (tCB r t):=by
 intro pins s σ H Q I h;refine wpAny_Call_Name_kw (Jz I hg hm hv ?_ hn hdb);exact bK (thn (ha pos pins s σ H _ I h) λus s1 ⟨vs,H1,I1,r1,q1⟩=>hc pins s1 σ H1 vs us Q I1 r1 q1) he hpl
end
end L2
namespace HT
open PySem PyProof.Rows
section
open PySem.SeqAt
open PySem.AutoSeq1 (wpAny_loadPart')
open PySem.MeetsSeq PySem.MeetsSeq2 PySem.MeetsSeq3
end
section
variable {prog:Program}{w:World}{A:Around}{E:Value->Shared->Prop}{s:Shared}
theorem cat_tup {t b:Addr}{vs ws:List Value}{Q:Value->Shared->Prop}(ht:IsTup s.heap t vs.toArray)(hb:IsTup s.heap b ws.toArray)(hv:vs ≠ [])
  (h1:ws=[]->Q (.ref t) s) (h2:ws ≠ []->Q (.ref s.heap.objs.size) { s with heap:=s.heap.push { cls:= .type "tuple",data:= .seq (vs++ws).toArray } })
  (hsz:vs.length+ws.length<=sizeLine):wpAny (model prog w) A (binaryOp .Add (.ref t) (.ref b)) Q E s:=by
 obtain⟨⟨cls,dd,data,sl⟩,ho,hc,n,hd⟩:=id ht;obtain⟨⟨cls2,dd2,data2,sl2⟩,ho2,hc2,n2,hd2⟩:=id hb;simp only at hc hd hc2 hd2;subst hc hd hc2 hd2;have e:vs.toArray++ws.toArray=(vs++ws).toArray:=by simp
 by_cases hw:ws=[]
 ·exact concat_meets ⟨_,ho,rfl⟩ ⟨_,ho2,rfl⟩ noFill_tuple_add seq_tuple_add dq di (cW _ _)
   (tuple_addW1 t b vs.toArray ws.toArray n n2 dd dd2 sl sl2 (by simpa using hv) (by simp[hw])) ⟨ho,ho2,h1 hw⟩
 ·refine concat_meets ⟨_,ho,rfl⟩ ⟨_,ho2,rfl⟩ noFill_tuple_add seq_tuple_add dq di (cW _ _)
   (tuple_addW2 t b vs.toArray ws.toArray n n2 dd dd2 sl sl2 (by simpa using hv) (by simpa using hw) (by rw[av,av];exact hsz)) ⟨ho,ho2, ?_⟩
  rw[e];exact h2 hw
def sIx (n d:Nat):Option Int->Nat
 | none=>d
 | some v=>if v < 0 then (v+(n:Int)).toNat else min v.toNat n
theorem sIx_none (n d:Nat):sIx n d none=d:=rfl
theorem sIx_nat (n d k:Nat):sIx n d (some (k:Int))=min k n:=by
 show (if (k:Int) < 0 then ((k:Int)+(n:Int)).toNat else min (k:Int).toNat n)=min k n
 rw[if_neg (by omega),aV]
theorem XA (n d:Nat)(hd:d<=n)(o:Option Int):sIx n d o<=n:=by
 cases o with
 | none=>exact hd
 | some v=>
  show (if v < 0 then (v+(n:Int)).toNat else min v.toNat n)<=n
  by_cases hv:v < 0
  ·rw[if_pos hv];omega
  ·rw[if_neg hv];exact Nat.min_le_right _ _
theorem ya (v:Int)(n d:Nat):(if v < 0 then max (v+(n:Int)) 0 else min v (n:Int))=((sIx n d (some v):Nat):Int):=by
 show (if v < 0 then max (v+(n:Int)) 0 else min v (n:Int))=(((if v < 0 then (v+(n:Int)).toNat else min v.toNat n):Nat):Int)
 by_cases hv:v < 0
 ·simp only[if_pos hv];omega
 ·simp only[if_neg hv];omega
theorem Ui (lo hi:Option Int)(n:Nat):bC lo hi 1 (n:Int)=(((sIx n 0 lo:Nat):Int),((sIx n n hi:Nat):Int)):=by
 have h1:¬ ((1:Int) < 0):=by omega
 unfold bC;simp only[h1,if_false];refine Prod.ext ?_ ?_
 ·cases lo with
  | none=>rfl
  | some v=>exact ya v n 0
 ·cases hi with
  | none=>rfl
  | some v=>exact ya v n n
theorem Uj (i j:Nat):bf (i:Int) (j:Int) 1=j - i:=by
 unfold bf;have h1:(1:Int) > 0:=by omega
 simp only[h1,if_true,Int.ediv_one];split <;> omega
theorem wk {v:Value}{o:Option Int}{Q:Option Int->Shared->Prop}(p:IsPart v o)(h:Q o s):wpAny (model prog w) A (Builtin.Slice.slicePartIndex v) Q E s:=by
 cases p with
 | none=>exact slicePart_none h
 | int i t=>exact slicePart_int h
theorem sliceApplied_gen {sl:Addr}{vl vu:Value}{lo hi:Option Int}{n:Nat}{Q:Int×Int×Nat->Shared->Prop}(hs:s.heap.IsSliceOf sl vl vu .none)(pl:IsPart vl lo)(pu:IsPart vu hi)
  (h:Q (((sIx n 0 lo:Nat):Int),1,sIx n n hi - sIx n 0 lo) s):wpAny (model prog w) A (c8 (.ref sl) (pure (n:Int))) Q E s:=by
 obtain⟨os,hos,hcs,hds⟩:=id hs;unfold c8 eG;refine aa (aa (bp hos hds (x:=vl) rfl (aa (bp hos hds (x:=vu) rfl (aa (bp hos hds (x:= .none) rfl (ak ?_)))))));refine aa (slicePart_none ?_);show wpAny _ _ (if ((1:Int) == 0)=true then _ else _) _ _ s
 rw[if_neg (by decide)]
 refine aa (wk pl (aa (wk pu (aa (ak ?_)))));show wpAny _ _ (match bC lo hi 1 (n:Int) with | (lo,hi)=>pure (lo,(1:Int),bf lo hi 1)) _ _ s
 rw[Ui lo hi n];show wpAny _ _ (pure (((sIx n 0 lo:Nat):Int),(1:Int),bf ((sIx n 0 lo:Nat):Int) ((sIx n n hi:Nat):Int) 1)) _ _ s;rw[Uj];exact ak h
theorem qH (xs:Array Value)(i k:Nat):((aC k).filterMap λ(m:Nat)=>xs[((i:Int)+(m:Int)*1).toNat]?).toArray=((xs.toList.drop i).take k).toArray:=by
 have e:(λ(m:Nat)=>xs[((i:Int)+(m:Int)*1).toNat]?)=λm=>xs[i+m]? :=by
  funext m
  have:((i:Int)+(m:Int)*1).toNat=i+m:=by omega
  rw[this]
 rw[e];have:=pick_run xs i k;rw[List.filterMap_map]at this;have e2:((λx=>xs[x]?) ∘ λx=>i+x)=λm=>xs[i+m]? :=rfl;rw[e2]at this;rw[this]
theorem getItem_tuple_cut {t sl:Addr}{items:Array Value}{vl vu:Value}{lo hi:Option Int}{Q:Value->Shared->Prop}(ht:IsTup s.heap t items)(hs:s.heap.IsSliceOf sl vl vu .none)(pl:IsPart vl lo)(pu:IsPart vu hi)
  (hw:¬ (sIx items.size 0 lo=0/\sIx items.size items.size hi=items.size))
  (h:Q (.ref s.heap.objs.size) { s with heap:=s.heap.push { cls:= .type "tuple",data:= .seq ((items.toList.drop (sIx items.size 0 lo)).take (sIx items.size items.size hi - sIx items.size 0 lo)).toArray } })
  (hsz:items.size<=sizeLine):wpAny (model prog w) A (getItem (.ref t) (.ref sl)) Q E s:=by
 have htake:sizeOk (.seq ((items.toList.drop (sIx items.size 0 lo)).take (sIx items.size items.size hi - sIx items.size 0 lo)).toArray):=by
  show ((items.toList.drop (sIx items.size 0 lo)).take (sIx items.size items.size hi - sIx items.size 0 lo)).toArray.size<=sizeLine;rw[av,bn,bB,bu];omega
 have hj:sIx items.size items.size hi<=items.size:=XA _ _ (am _) hi;obtain⟨os,hos,hcs,hds⟩:=id hs;have hTs:s.TypeIs (.ref sl) "slice":=⟨os,hos,hcs⟩;unfold getItem
 try with_reducible refine b_ ?_
 first | refine aa (ak ?_) | skip
 refine aa (wpAny_sequenceKey ht.typeIs (by decide) ?_)
 refine aa (bI (name:=aO "__getitem__") ht.typeIs aL
  (c7 aL ht.typeIs entry_tuple_getitem ?_ (args_tuple_getitem _ _)))
 show wpAny _ _ (cM (.ref t) >>= _) _ _ s;refine aa (tupleItemsOf_ ht ?_);refine aa (wpAny_typeOf hTs ?_);rw[if_pos (by decide)]
 refine aa (sliceApplied_gen hs pl pu ?_);have hno:¬ ((((sIx items.size 0 lo:Nat):Int) == 0 && (1:Int) == 1 && (sIx items.size items.size hi - sIx items.size 0 lo) == items.size)=true):=by
  intro q;rw[af,af]at q;have q1:((sIx items.size 0 lo:Nat):Int)=0:=eq_of_beq q.1.1;have q2:sIx items.size items.size hi - sIx items.size 0 lo=items.size:=eq_of_beq q.2;exact hw ⟨by omega,by omega⟩
 show wpAny _ _ (if (((sIx items.size 0 lo:Nat):Int) == 0 && (1:Int) == 1 && (sIx items.size items.size hi - sIx items.size 0 lo) == items.size)=true then _ else _) _ _ s
 rw[if_neg hno,qH]
 first
  | exact aa (m:=aX _) (aZ (ak ⟨_,rfl,ak h⟩) htake)
  | exact aa (m:=aX _) (aZ (aa (ak (ak ⟨_,rfl,ak h⟩))) htake)
  | exact aa (aa (m:=aX _) (aZ (ak (ak ⟨_,rfl,ak h⟩)) htake))
  | exact aa (aa (m:=aX _) (aZ (ak ⟨_,rfl,ak h⟩) htake))
end
end HT
namespace L2
open PySem PySem.Spec PyProof.Rows
abbrev TO:=St->Hp->(Option Int->Hp->Prop)->Prop
def PO (X:Cx)(e:Option Expr)(t:TO):Prop:=
 ∀(pins:List (Addr×Obj)) (s:Shared) (σ:St) (H:Hp) (Q:Option Int->Hp->Prop),Inv X pins σ H s->t σ H Q->
  wpAny (model X.prog X.w) X.A (evalPart e X.env) (λu s' =>∃o H',Inv X pins σ H' s' /\IsPart u o/\Q o H') X.xe s
def V4:TO:=λ_ H Q=>Q none H
def G1 (t:TE):TO:=λσ H Q=>t σ H λx H1=>∃i,x= .int i/\Q (some i) H1
section
variable {X:Cx}{e:Expr}{te:TE}{lo hi:Option Expr}{tl th:TO}{pos p2:Pos}
theorem V5:PO X none V4:=by
 intro pins s σ H Q I h;rw[evalPart_none];exact ak ⟨none,H,I,.none,h⟩
theorem V6 (h:PE X e te):PO X (some e) (G1 te):=by
 intro pins s σ H Q I hw;rw[evalPart_some];refine thn (h pins s σ H _ I hw) λu s1 ⟨x,H1,I1,r1,q1⟩=> ?_;obtain⟨i,rfl,q⟩:=q1;obtain⟨t,rfl⟩:=r1;exact⟨some i,H1,I1,.int i t,q⟩
def SlR (X:Cx)(r:V->Option Int->Option Int->Hp->VK->Prop):Prop:=
 ∀(pins:List (Addr×Obj)) (s:Shared) (σ:St) (H:Hp) (x:V) (v vl vu:Value) (lo hi:Option Int) (sl:Addr) (Q:VK),Inv X pins σ H s->RelV x v->s.heap.IsSliceOf sl vl vu .none->IsPart vl lo->IsPart vu hi->r x lo hi H Q->
  ∃T id,typeLookup (.type T) "__getitem__"=pure (some (.builtin id))/\s.TypeIs v T/\wpAny (model X.prog X.w) X.A (getItem v (.ref sl)) (EP X pins σ Q) X.xe s
theorem SlR.or {r r' :V->Option Int->Option Int->Hp->VK->Prop}(h:SlR X r)(h' :SlR X r'):SlR X (λx lo hi H Q=>r x lo hi H Q\/r' x lo hi H Q):=by
 intro pins s σ H x v vl vu lo hi sl Q I rx hs pl pu q;rcases q with q | q
 ·exact h pins s σ H x v vl vu lo hi sl Q I rx hs pl pu q
 ·exact h' pins s σ H x v vl vu lo hi sl Q I rx hs pl pu q
def tSl (r:V->Option Int->Option Int->Hp->VK->Prop)(te:TE)(tl th:TO):TE:=λσ H Q=>te σ H λx H1=>tl σ H1 λl H2=>th σ H2 λu H3=>r x l u H3 Q
theorem qI {r:V->Option Int->Option Int->Hp->VK->Prop}(hr:SlR X r)(he:PE X e te)(hl:PO X lo tl)(hu:PO X hi th):PE X (.Subscript e (.Slice lo hi none p2) pos) (tSl r te tl th):=by
 intro pins s σ H Q I h;refine Subscript_ (thn (he pins s σ H _ I h) λv s1 ⟨x,H1,I1,r1,q1⟩=> ?_);refine wpAny_Slice (thn (hl pins s1 σ H1 _ I1 q1) λvl s2 ⟨l,H2,I2,pl,q2⟩=>thn (hu pins s2 σ H2 _ I2 q2) λvu s3 ⟨u,H3,I3,pu,q3⟩=> ?_);rw[evalPart_none];refine ak ?_;have I4:Inv X pins σ H3 { s3 with heap:=s3.heap.push { cls:= .type "slice",data:= .fields #[vl,vu,.none] } }:=I3.kept (t' :=s3.toks) λb ob q=>aj _ q;obtain⟨T,id,hT,ht,hg⟩:=hr pins { s3 with heap:=s3.heap.push { cls:= .type "slice",data:= .fields #[vl,vu,.none] } } σ H3 x v vl vu l u s3.heap.objs.size Q I4 r1 (g_ ..) pl pu q3;show wpAny (model X.prog X.w) X.A (subscriptTail e (.Slice lo hi none p2) v (.ref s3.heap.objs.size)) (EP X pins σ Q) X.xe { s3 with heap:=s3.heap.push { cls:= .type "slice",data:= .fields #[vl,vu,.none] } };exact tail_any (ops:=[.ref s3.heap.objs.size,v]) ht hT hg (by with_unfolding_all rfl)
def QY (xs:List V)(lo hi:Option Int):List V:=(xs.drop (HT.sIx xs.length 0 lo)).take (HT.sIx xs.length xs.length hi - HT.sIx xs.length 0 lo)
theorem JB (xs:List V)(lo hi:Option Int):(QY xs lo hi).length<=xs.length:=by
 unfold QY;rw[bn,bB];omega
def rSlT (K:ai):V->Option Int->Option Int->Hp->VK->Prop:=λx lo hi H Q=>∃a xs,x= .ref a/\SqT K H a xs/\
 ¬ (HT.sIx xs.length 0 lo=0/\HT.sIx xs.length xs.length hi=xs.length)/\∀p,H p=none->Q (.ref p) (upd H p (.tup (QY xs lo hi)))
theorem XB:SlR X (rSlT X.K):=by
 intro pins s σ H x v vl vu lo hi sl Q I rx hs pl pu h;obtain⟨a,xs,rfl,hx,hw,q⟩:=h;cases rx;obtain⟨its,r,ht,hz⟩:=I.tuple hx;have hlen:its.toArray.size=xs.length:=by rw[av];exact r.length.symm
 refine⟨"tuple",_,aL.lookup,ht.typeIs, ?_⟩;refine HT.getItem_tuple_cut ht hs pl pu (by rw[hlen];exact hw) ?_ (by rw[hlen];exact hz)
 rw[hlen];refine⟨.ref s.heap.objs.size,_,I.laid (t' :=s.toks) (o:= .tup (QY xs lo hi)) (λb ob q=>aj _ q) (am _) ?_,rfl,q _ (I.hok.fresh (am _))⟩;exact⟨aq (JB xs lo hi) hz,_,(r.drop (HT.sIx xs.length 0 lo)).take (HT.sIx xs.length xs.length hi - HT.sIx xs.length 0 lo),ITN.new _ _⟩
def G2 (K:ai):R2:=λx y H Q=>∃a b xs ys,x= .ref a/\y= .ref b/\SqT K H a xs/\SqT K H b ys/\xs ≠ []/\xs.length+ys.length<=sizeLine/\
 (ys=[]->Q (.ref a) H)/\(ys ≠ []->∀p,H p=none->Q (.ref p) (upd H p (.tup (xs++ys))))
theorem Vals.nil_iff {xs:List V}{us:List Value}(r:Vals xs us):us=[]↔xs=[]:=by
 cases r with
 | nil=>simp
 | cons _ _=>simp
theorem V7:OpR X (binaryOp .Add) (G2 X.K):=by
 intro pins s σ H x y v u Q I rx ry h;obtain⟨a,b,xs,ys,rfl,rfl,ha,hb,hx,hz,q1,q2⟩:=h;cases rx;cases ry;obtain⟨its,r1,p1,_⟩:=I.tuple ha;obtain⟨its2,r2,p2,_⟩:=I.tuple hb;refine HT.cat_tup p1 p2 (λz=>hx (r1.nil_iff.mp z)) (λz=>⟨.ref a,H,I,rfl,q1 (r2.nil_iff.mp z)⟩) (λz=> ?_) (by rw[← r1.length,← r2.length];exact hz)
 refine⟨.ref s.heap.objs.size,_,I.laid (t' :=s.toks) (o:= .tup (xs++ys)) (λb ob q=>aj _ q) (am _) ?_,rfl,q2 (λw=>z (r2.nil_iff.mpr w)) _ (I.hok.fresh (am _))⟩;exact⟨by rw[aA];exact hz,_,r1.append r2,ITN.new _ _⟩
end
end L2
namespace L2
open PySem PySem.Spec PyProof.Rows
def ixN (n:Nat)(i:Int):Option Nat:=if 0<=i then (if i < n then some i.toNat else none) else if -(n:Int)<=i then some (i+n).toNat else none
def atI {α:Type}(xs:List α)(i:Int):Option α:=(ixN xs.length i).bind λj=>xs[j]?
theorem V8 {n:Nat}{i:Int}{j:Nat}(h:ixN n i=some j):seqIndex? i n=some j/\j < n/\ -(n:Int)<=i/\i < n:=by
 unfold ixN at h
 by_cases h0:0<=i
 ·rw[if_pos h0]at h
  by_cases h1:i < n
  ·rw[if_pos h1]at h;have e:i.toNat=j:=aR h;exact⟨by rw[seqIndex_of h0 h1,e],by omega,by omega,h1⟩
  ·rw[if_neg h1]at h;cases h
 ·rw[if_neg h0]at h
  by_cases h1: -(n:Int)<=i
  ·rw[if_pos h1]at h;have e:(i+n).toNat=j:=aR h;exact⟨by rw[seqIndex_neg (by omega) h1,e],by omega,h1,by omega⟩
  ·rw[if_neg h1]at h;cases h
theorem WW {α:Type}{xs:List α}{i:Int}{v:α}(h:atI xs i=some v):∃j,seqIndex? i xs.length=some j/\xs[j]? =some v/\j < xs.length/\ -(xs.length:Int)<=i/\i < xs.length:=by
 unfold atI at h;cases e:ixN xs.length i with
 | none=>rw[e]at h;cases h
 | some j=>
  rw[e]at h;obtain⟨h1,h2,h3,h4⟩:=V8 e;exact⟨j,h1,h,h2,h3,h4⟩
theorem ZL {α:Type}{xs:List α}{j:Nat}{v:α}(h:xs[j]? =some v):atI xs (j:Int)=some v:=by
 have hj:j < xs.length:=(az.mp h).1;have e:ixN xs.length (j:Int)=some j:=by
  unfold ixN;rw[if_pos (by omega),if_pos (by omega)];simp
 unfold atI;rw[e];exact h
def WX (b:Expr):Prop:=∀o i,subscripted b false o i=operate [o,i] (getItem o i)
def IxR (X:Cx)(r:R2):Prop:=
 ∀(value slice:Expr) (pins:List (Addr×Obj)) (s:Shared) (σ:St) (H:Hp) (x y:V) (v u:Value) (Q:VK),Inv X pins σ H s->RelV x v->RelV y u->r x y H Q->
  subscripted slice false v u=operate [v,u] (getItem v u)->wpAny (model X.prog X.w) X.A (subscriptTail value slice v u) (EP X pins σ Q) X.xe s
def MtR (X:Cx)(id:String)(r:V->List V->Hp->VK->Prop):Prop:=
 ∀(pins:List (Addr×Obj)) (s:Shared) (σ:St) (H:Hp) (x:V) (xs:List V) (v:Value) (us:List Value) (Q:VK),Inv X pins σ H s->RelV x v->Vals xs us->r x xs H Q->
  wpAny (model X.prog X.w) X.A (call (.builtin id) (v :: us)) (EP X pins σ Q) X.xe s
section
variable {X:Cx}{a b:Expr}{ta tb:TE}{pos:Pos}
theorem IxR.or {r r' :R2}(h:IxR X r)(h' :IxR X r'):IxR X (λx y H Q=>r x y H Q\/r' x y H Q):=by
 intro value slice pins s σ H x y v u Q I rx ry q hs;rcases q with q | q
 ·exact h value slice pins s σ H x y v u Q I rx ry q hs
 ·exact h' value slice pins s σ H x y v u Q I rx ry q hs
theorem XD {r:R2}(hr:IxR X r)(ha:PE X a ta)(hb:PE X b tb)(hs:WX b):PE X (.Subscript a b pos) (tOp r ta tb):=by
 intro pins s σ H Q I h;exact Subscript_ (gQ ha hb I h λv u s2 x y H2 I2 rx ry q=>hr a b pins s2 σ H2 x y v u Q I2 rx ry q (hs _ _))
def rIxL (K:ai):R2:=λx y H Q=>∃p xs i v,x= .ref p/\y= .int i/\SqL K H p xs/\atI xs i=some v/\Q v H
def rIxT (K:ai):R2:=λx y H Q=>∃p xs i v,x= .ref p/\y= .int i/\SqT K H p xs/\atI xs i=some v/\Q v H
def rIxS:R2:=λx y H Q=>∃z i c,x= .str z/\y= .int i/\z.length<=sizeLine/\atI z.cps.toList i=some c/\Q (.str ⟨#[c]⟩) H
theorem yb:IxR X (rIxL X.K):=by
 intro value slice pins s σ H x y v u Q I rx ry h hs;obtain⟨p,xs,i,z,rfl,rfl,hq,he,q⟩:=h;cases rx;obtain⟨t,rfl⟩:=ry;obtain⟨its,r,pl,hz⟩:=I.list hq;obtain⟨j,h1,h2,h3,h4,h5⟩:=WW he;obtain⟨w,ew,rw'⟩:=r.get h2;have hl:=r.length;have hn:=wj;have fin:EP X pins σ Q w s:=⟨z,H,I,rw',q⟩
 by_cases h0:0<=i
 ·have hj:i.toNat=j:=by
   rw[seqIndex_of h0 h5]at h1;exact aR h1
  exact item_listR pl.isList h0 (by omega) (by rw[hj];simpa using ew) fin hs
 ·have hj:(i+(its.toArray.size:Int)).toNat=j:=by
   rw[seqIndex_neg (by omega) h4]at h1
   rw[av,← hl];exact aR h1
  exact subscriptTail_builtinR (x:=w) pl.isList.typeIs slot_list_getitem.lookup
   (wpAny_getItem_list_neg (Q:=λr s' =>r=w/\EP X pins σ Q r s') pl.isList (by omega) (by rw[av] <;> omega) (by omega) (by rw[hj];simpa using ew) ⟨rfl,fin⟩) hs
theorem XF:IxR X (rIxT X.K):=by
 intro value slice pins s σ H x y v u Q I rx ry h hs;obtain⟨p,xs,i,z,rfl,rfl,hq,he,q⟩:=h;cases rx;obtain⟨t,rfl⟩:=ry;obtain⟨its,r,pl,hz⟩:=I.tuple hq;obtain⟨j,h1,h2,h3,h4,h5⟩:=WW he;obtain⟨w,ew,rw'⟩:=r.get h2;have hl:=r.length;have hn:=wj;have fin:EP X pins σ Q w s:=⟨z,H,I,rw',q⟩;exact subscriptTail_builtinR (x:=w) pl.typeIs slot_tuple_getitem.lookup
  (getItem_tuple (j:=j) (Q:=λr s' =>r=w/\EP X pins σ Q r s') pl (by omega) (by omega) (by rw[av,← hl];exact h1) (by simpa using ew) ⟨rfl,fin⟩) hs
theorem XG:IxR X rIxS:=by
 intro value slice pins s σ H x y v u Q I rx ry h hs;obtain⟨z,i,c,rfl,rfl,hz,he,q⟩:=h;obtain⟨t,rfl⟩:=rx;obtain⟨t',rfl⟩:=ry;obtain⟨j,h1,h2,h3,h4,h5⟩:=WW he;have hl:z.cps.toList.length=z.length:=by simp[h9]
 rw[hl]at h1 h4 h5;have hn:=wj;exact tail_any (typeIs_str s z t) slot_str_getitem.lookup (getItem_str (c:=c) (by
  have e1:decide (i < -(2 ^ 63:Int))=false:=decide_eq_false (by omega)
  have e2:decide (i ≥ 2 ^ 63)=false:=decide_eq_false (by omega)
  rw[e1,e2,Bool.or_false]) (by rw[h1];simpa using h2) ⟨.str ⟨#[c]⟩,H,I.tok _,⟨_,rfl⟩,q⟩) hs
def rIx (K:ai):R2:=λx y H Q=>rIxL K x y H Q\/rIxT K x y H Q\/rIxS x y H Q
theorem XH:IxR X (rIx X.K):=yb.or (XF.or XG)
theorem Wd (lo hi:Option Int)(n:Nat):(sliceBounds lo hi none n).1=((HT.sIx n 0 lo:Nat):Int)/\(sliceBounds lo hi none n).2.1=((HT.sIx n n hi:Nat):Int)/\(sliceBounds lo hi none n).2.2=1:=by
 refine⟨?_, ?_,rfl⟩
 ·cases lo with
  | none=>simp[sliceBounds,HT.sIx]
  | some i=>
   simp only[sliceBounds,HT.sIx,ik,show (1:Int) > 0 by decide,if_true]
   by_cases h:i < 0
   ·simp only[h,if_true] <;> omega
   ·simp only[h,if_false] <;> omega
 ·cases hi with
  | none=>simp[sliceBounds,HT.sIx]
  | some i=>
   simp only[sliceBounds,HT.sIx,ik,show (1:Int) > 0 by decide,if_true]
   by_cases h:i < 0
   ·simp only[h,if_true] <;> omega
   ·simp only[h,if_false] <;> omega
theorem wD (its:List Value)(lo hi:Option Int):slicePick its.toArray lo hi none=((its.drop (HT.sIx its.length 0 lo)).take (HT.sIx its.length its.length hi - HT.sIx its.length 0 lo)).toArray:=by
 obtain⟨h1,h2,h3⟩:=Wd lo hi its.toArray.size;unfold slicePick;rw[h1,h2,h3];simp only[sliceRange_one,pick_run,av] <;> rfl
def rSlL (K:ai):V->Option Int->Option Int->Hp->VK->Prop:=λx lo hi H Q=>∃a xs,x= .ref a/\SqL K H a xs/\∀p,H p=none->Q (.ref p) (upd H p (.lst (QY xs lo hi)))
theorem V9:SlR X (rSlL X.K):=by
 intro pins s σ H x v vl vu lo hi sl Q I rx hs pl pu h;obtain⟨a,xs,rfl,hx,q⟩:=h;cases rx;obtain⟨its,r,ht,hz⟩:=I.list hx;have hlen:=r.length;refine⟨"list",_,slot_list_getitem.lookup,ht.isList.typeIs, ?_⟩;refine wpAny_getItem_list_slice ht.isList hs pl pu .none (by simp) ?_ (by rw[av] <;> omega)
 rw[wD,← hlen];refine⟨.ref s.heap.objs.size,_,I.laid (t' :=s.toks) (o:= .lst (QY xs lo hi)) (λb ob q=>aj _ q) (am _) ?_,rfl,q _ (I.hok.fresh (am _))⟩;exact⟨aq (JB xs lo hi) hz,_,0,(r.drop (HT.sIx xs.length 0 lo)).take (HT.sIx xs.length xs.length hi - HT.sIx xs.length 0 lo),ay _ rfl⟩
theorem We:ZB X (.builtin "len") (λxs H Q=>∃p ys,xs=[.ref p]/\(SqL X.K H p ys\/SqT X.K H p ys)/\Q (.int ys.length) H):=by
 intro pins s σ H xs us Q I r h;obtain⟨p,ys,rfl,hq,q⟩:=h;obtain⟨u,rfl,rx⟩:=j7 r;cases rx;have hn:=wj;rcases hq with hq | hq
 ·obtain⟨its,r',pl,hz⟩:=I.list hq;have hlen:=r'.length;exact Calls.call_len_list pl.isList (by simp only[av] <;> omega) ⟨.int ys.length,H,I.tok _,⟨s.toks+1,by rw[av,hlen]⟩,q⟩
 ·obtain⟨its,r',pl,hz⟩:=I.tuple hq;have hlen:=r'.length;exact len_tuple pl (by simp only[av] <;> omega) ⟨.int ys.length,H,I.tok _,⟨s.toks+1,by rw[av,hlen]⟩,q⟩
theorem Wf:ZB X (.builtin "len") (λxs H Q=>∃z,xs=[.str z]/\z.length<=sizeLine/\Q (.int z.length) H):=by
 intro pins s σ H xs us Q I r h;obtain⟨z,rfl,hz,q⟩:=h;obtain⟨u,rfl,t,rfl⟩:=j7 r;have hn:=wj;exact len_str (by omega) ⟨.int z.length,H,I.tok _,⟨_,rfl⟩,q⟩
theorem ZB.or {f:Value}{r r' :List V->Hp->VK->Prop}(h:ZB X f r)(h' :ZB X f r'):ZB X f (λxs H Q=>r xs H Q\/r' xs H Q):=by
 intro pins s σ H xs us Q I rs q;rcases q with q | q
 ·exact h pins s σ H xs us Q I rs q
 ·exact h' pins s σ H xs us Q I rs q
theorem wE:ZB X (.type "tuple") (λxs H Q=>∃p ys,xs=[.ref p]/\((SqL X.K H p ys/\∀l,H l=none->Q (.ref l) (upd H l (.tup ys)))\/(SqT X.K H p ys/\Q (.ref p) H))):=by
 intro pins s σ H xs us Q I r h;obtain⟨p,ys,rfl,h⟩:=h;obtain⟨u,rfl,rx⟩:=j7 r;cases rx;rcases h with ⟨hq,q⟩ | ⟨hq,q⟩
 ·obtain⟨its,r',pl,hz⟩:=I.list hq;have hlen:=r'.length;refine call_tuple_list pl.isList (λh' kp=> ?_) (by simp only[av] <;> omega)
  have I1:Inv X pins σ H { s with heap:=h' }:=I.kept (t' :=s.toks) kp;have I2:Inv X pins σ (upd H h'.objs.size (.tup ys)) { s with heap:=h'.push { cls:= .type "tuple",data:= .seq its.toArray } }:=
   I1.laid (t' :=s.toks) (λb o e=>aj _ e) (am _) (show Zl X.prog X.w _ _ _ (.tup ys) from ⟨hz,its,r',ITN.new _ _⟩)
  exact⟨.ref h'.objs.size,_,I2,rfl,q _ (I1.hok.fresh (am _))⟩
 ·obtain⟨its,r',pl,hz⟩:=I.tuple hq;exact call_tuple_same pl ⟨.ref p,H,I,rfl,q⟩
def tyV (K:ai)(T:String)(x:V)(H:Hp):Prop:=match x with
 | .str _=>T="str"
 | .int _=>T="int"
 | .ref p=>(T="list"/\∃xs,SqL K H p xs)\/(T="tuple"/\∃o,K.lookup p=some o/\o.cls= .type "tuple"/\o.dict=none)\/
   (T="dict"/\((∃kvs,H p=some (.dK kvs))\/∃kvs,H p=some (.dT kvs)))\/(T="set"/\∃S n,H p=some (.set S n))
 | _=>False
theorem XI {pins:List (Addr×Obj)}{σ:St}{H:Hp}{s:Shared}{T:String}{x:V}{v:Value}(I:Inv X pins σ H s)(r:RelV x v)(ty:tyV X.K T x H):
  s.TypeIs v T/\∀a,v= .ref a->∃ob,s.heap.get? a=some ob/\ob.dict=none:=by
 cases x with
 | str z=>
  obtain⟨t,rfl⟩:=r;cases (show T="str" from ty);exact⟨typeIs_str s z t,λ_ e=>nomatch e⟩
 | int i=>
  obtain⟨t,rfl⟩:=r;cases (show T="int" from ty);exact⟨dE s i t,λ_ e=>nomatch e⟩
 | ref p=>
  cases r;rcases ty with ⟨rfl,xs,hq⟩ | ⟨rfl,o,hk,hc,hd⟩ | ⟨rfl,hk⟩ | ⟨rfl,S,n,hk⟩
  ·obtain⟨its,_,pl,_⟩:=I.list hq;refine⟨pl.isList.typeIs,λa e=> ?_⟩;cases e;obtain⟨o,n,e,c,hd,_⟩:=pl;exact⟨o,e,hd⟩
  ·refine⟨⟨o,I.kIn p o hk,hc⟩,λa e=> ?_⟩;cases e;exact⟨o,I.kIn _ o hk,hd⟩
  ·have z:∃o,s.heap.get? p=some o/\o.ExactDict:=by
    rcases hk with ⟨kvs,hk⟩ | ⟨kvs,hk⟩
    ·obtain⟨_,_,_,_,o,_,_,e,ex,_⟩:=I.hok p _ hk;exact⟨o,e,ex⟩
    ·obtain⟨_,_,_,_,o,_,_,e,ex,_⟩:=I.hok p _ hk;exact⟨o,e,ex⟩
   obtain⟨o,e,ex⟩:=z;refine⟨⟨o,e,ex.1⟩,λa e2=> ?_⟩;cases e2;exact⟨o,e,ex.2.1⟩
  ·obtain⟨o,_,_,_,e,ex,_⟩:=I.hok p _ hk;refine⟨⟨o,e,ex.1⟩,λa e2=> ?_⟩;cases e2;exact⟨o,e,ex.2.1⟩
 | _=>exact cC ty
def tBM (K:ai)(T:String)(r:V->List V->Hp->VK->Prop)(to:TE)(t:TA):TE:=λσ H Q=>to σ H λx H1=>tyV K T x H1/\t σ H1 λxs H2=>r x xs H2 Q
variable {o e:Expr}{es:List Expr}{to:TE}{t:TA}{name:Str}{apos cpos:Pos}{T id:String}{r:V->List V->Hp->VK->Prop}
theorem yc (pa:PlainAttrs T)(slot:Slot T name id)(hty:typeOf (.builtin id)=pure (.type "method_descriptor"))(hm:MtR X id r)(ho:PE X o to)(ha:PA X (e :: es) t)
  (hbase:attributeBase o name X.env (eval o X.env)=eval o X.env:=by rfl)
  (hfew:((backTo cpos (starEach (e :: es) X.env)).all (λx=> !x.1) && (backToKw cpos (keywordEach [] X.env)).all (λx=>x.1.isSome)
   && decide ((e :: es).length+([]:List Keyword).length+(if ([]:List Keyword).isEmpty then 0 else 1) < 30))=true:=by rfl)
  (hline:(apos.endLine == cpos.line)=true:=by rfl) (hs:starEach (e :: es) X.env=(false,eval e X.env) :: starEach es X.env:=by rfl) (hplain:(backTo cpos (starEach es X.env)).any (·.1)=false:=by rfl):
  PE X (.Call (.Attribute o name apos) (e :: es) [] cpos) (tBM X.K T r to t):=by
 intro pins s σ H Q I h;refine wpAny_Call_method_late hbase hfew hline rfl (thn (ho pins s σ H _ I h) λv s1 ⟨x,H1,I1,r1,ty,q1⟩=> ?_);obtain⟨h1,h2⟩:=XI I1 r1 ty;refine⟨T,id,pa,slot,hty,h1,h2, ?_⟩;have hA:=ha cpos pins s1 σ H1 _ I1 q1;rw[hs]at hA ⊢;refine Calls.callWith_builtin (by show (false || (backTo cpos (starEach es X.env)).any (·.1))=false;rw[hplain] <;> rfl) (fL ?_)
 exact thn hA λus s2 ⟨vs,H2,I2,r2,q2⟩=>hm pins s2 σ H2 x vs v us Q I2 r1 r2 q2
end
end L2
namespace L2
open PySem PySem.Spec PyProof.Rows
def MtM (X:Cx)(id:String)(r:V->List V->Hp->VK->Prop):Prop:=
 ∀(pins:List (Addr×Obj)) (s:Shared) (σ:St) (H:Hp) (x:V) (xs:List V) (v:Value) (us:List Value) (Q:VK),Inv X pins σ H s->RelV x v->Vals xs us->r x xs H Q->
  wpAny (model X.prog X.w) X.A (call (.builtin id) (v :: us)) (EP X pins σ Q) X.xe s
theorem Vals.one:∀{x:V} {us:List Value},Vals [x] us->∃u,us=[u]/\RelV x u
 | _,_,.cons r .nil=>⟨_,rfl,r⟩
theorem Vals.rep {xs:List V}{us:List Value}(h:Vals xs us):∀k:Nat,Vals (ag k xs).flatten (ag k us).flatten
 | 0=> .nil
 | k+1=>by
  rw[aU,aU,bU,bU];exact Vals.append h (Vals.rep h k)
theorem jE (its:List Value):∀(k:Nat) (acc:List Value),
  dF (λx1 x2=>x1++x2) acc.toArray (ag k its.toArray)=(acc++(ag k its).flatten).toArray
 | 0,acc=>by simp
 | k+1,acc=>by
  have e:acc.toArray++its.toArray=(acc++its).toArray:=by simp
  have e2:(acc++its)++(ag k its).flatten=acc++(ag (k+1) its).flatten:=by
   rw[aU,bU,bh]
  rw[← e2,← jE its k (acc++its),← e,aU,iE]
section
variable {X:Cx}{pins:List (Addr×Obj)}{σ:St}{H:Hp}{s:Shared}{l b:Addr}{xs ys zs:List V}
theorem Inv.lset {its its' :List Value}{n:Nat}{f:Array Value->Array Value}{t' :Nat}(I:Inv X pins σ H s)(hH:H l=some (.lst xs))
  (e:s.heap.get? l=some { cls:= .type "list",data:= .seq its.toArray n }) (hf:f its.toArray=its'.toArray) (hv:Vals ys its') (hz:ys.length<=sizeLine):
  Inv X pins σ (upd H l (.lst ys)) { s with heap:=s.heap.update l (bM f),toks:=t' }:=by
 have q:=PySem.IsL.update e f;rw[hf]at q;refine I.write (x:=l) (e:=l) (by rw[hH];exact trivial) (.inl rfl) (λb' u hb hu=>(Heap.get?_update_other s.heap (bM f) (cf hb)).trans hu) ⟨_,q⟩ ?_
 exact⟨hz,its',_,hv,q⟩
theorem Inv.lnew {its:List Value}{t' :Nat}(I:Inv X pins σ H s)(hv:Vals ys its)(hz:ys.length<=sizeLine):
  Inv X pins σ (upd H s.heap.objs.size (.lst ys)) { s with heap:=s.heap.push { cls:= .type "list",data:= .seq its.toArray },toks:=t' }:=
 I.laid (λ_ _ q=>aj _ q) (am _) ⟨hz,its,0,hv,ay _ rfl⟩
theorem Inv.fresh (I:Inv X pins σ H s):H s.heap.objs.size=none:=I.hok.fresh (am _)
theorem Inv.lstM (I:Inv X pins σ H s)(hH:H l=some (.lst xs)):xs.length<=sizeLine/\∃(its:List Value) (n:Nat),Vals xs its/\xs.length=its.length/\s.heap.get? l=some { cls:= .type "list",data:= .seq its.toArray n }:=by
 obtain⟨z,its,n,r,e⟩:=I.hok l _ hH;exact⟨z,its,n,r,r.length,e⟩
theorem uC {n:Nat}(h:n<=sizeLine):cq n=false:=by
 unfold cq;exact decide_eq_false (by omega)
end
section
variable {X:Cx}
def Va:V->List V->Hp->VK->Prop:=λx vs H Q=>∃l xs y,x= .ref l/\vs=[y]/\H l=some (.lst xs)/\xs.length < sizeLine/\Q .non (upd H l (.lst (xs++[y])))
theorem Wg:MtM X "list.append" Va:=by
 intro pins s σ H x vs v us Q I rx rv h;obtain⟨l,xs,y,rfl,rfl,hH,hz,q⟩:=h;cases rx;obtain⟨u,rfl,ru⟩:=rv.one;obtain⟨z,its,n,r,hl,e⟩:=I.lstM hH;refine cD F.slot_list_append ⟨_,e,rfl⟩ F.entry_list_append (F.args_list_append_2 _ _) (PySem.list_append l its.toArray n u (by rw[av];omega)) ⟨e, ?_⟩
 refine⟨.non,_,I.lset (its' :=its++[u]) hH e (by simp) (r.append (.cons ru .nil)) ?_,rfl,q⟩
 rw[aA,aD];omega
def Vb:V->List V->Hp->VK->Prop:=λx vs H Q=>∃l b xs zs,x= .ref l/\vs=[.ref b]/\H l=some (.lst xs)/\H b=some (.lst zs)/\xs.length+zs.length<=sizeLine/\Q .non (upd H l (.lst (xs++zs)))
theorem yd:MtM X "list.extend" Vb:=by
 intro pins s σ H x vs v us Q I rx rv h;obtain⟨l,b,xs,zs,rfl,rfl,hH,hB,hz,q⟩:=h;cases rx;obtain⟨u,rfl,ru⟩:=rv.one;cases ru;obtain⟨z,its,n,r,hl,e⟩:=I.lstM hH;obtain⟨z2,its2,n2,r2,hl2,e2⟩:=I.lstM hB;have hsz:its.toArray.size+its2.toArray.size<=sizeLine:=by rw[av,av];omega
 have hlong:¬ (!its.toArray.isEmpty && cq (its.toArray.size+its2.toArray.size))=true:=by
  rw[uC hsz,Bool.and_false];exact ao
 refine cD F.slot_list_extend ⟨_,e,rfl⟩ F.entry_list_extend (F.args_list_extend_2 _ _)
  (AutoSeq1.list_extend_list_list_0 l its.toArray n b its2.toArray n2 hlong (by rw[av];omega) (by omega)) ⟨e,e2, ?_⟩
 refine⟨.non,_,I.lset (its' :=its++its2) hH e (by simp) (r.append r2) ?_,rfl,q⟩
 rw[aA];omega
def rCat:R2:=λx y H Q=>∃l b xs zs,x= .ref l/\y= .ref b/\H l=some (.lst xs)/\H b=some (.lst zs)/\xs.length+zs.length<=sizeLine/\∀p,H p=none->Q (.ref p) (upd H p (.lst (xs++zs)))
theorem XJ:OpR X (binaryOp .Add) rCat:=by
 intro pins s σ H x y v u Q I rx ry h;obtain⟨l,b,xs,zs,rfl,rfl,hH,hB,hz,q⟩:=h;cases rx;cases ry;obtain⟨z,its,n,r,hl,e⟩:=I.lstM hH;obtain⟨z2,its2,n2,r2,hl2,e2⟩:=I.lstM hB;refine PySem.P.add_list e e2 ?_ (by rw[av,av];omega)
 have ea:its.toArray++its2.toArray=(its++its2).toArray:=by simp
 rw[ea];exact⟨.ref _,_,I.lnew (t' :=s.toks) (r.append r2) (by rw[aA];omega),rfl,q _ I.fresh⟩
def rRep:R2:=λx y H Q=>∃l k xs,x= .ref l/\y= .int k/\H l=some (.lst xs)/\ -(2 ^ 63)<=k/\k < 2 ^ 63/\xs.length*k.toNat<=sizeLine/\
 ∀p,H p=none->Q (.ref p) (upd H p (.lst (ag k.toNat xs).flatten))
theorem JC {α:Type}(xs:List α)(k:Nat):(ag k xs).flatten.length=k*xs.length:=by
 induction k with
 | zero=>simp
 | succ k ih=>rw[aU,bU,aA,ih,Nat.succ_mul,Nat.add_comm]
theorem XL:OpR X (binaryOp .Mult) rRep:=by
 intro pins s σ H x y v u Q I rx ry h;obtain⟨l,k,xs,rfl,rfl,hH,h1,h2,hz,q⟩:=h;cases rx;obtain⟨t,rfl⟩:=ry;obtain⟨z,its,n,r,hl,e⟩:=I.lstM hH;have hlen:its.toArray.size*k.toNat<=sizeLine:=by rw[av,← hl];exact hz
 have hcap:¬ its.toArray.size*k.toNat > (2 ^ 63 - 1) / 8:=by
  have:(sizeLine:Nat)<=(2 ^ 63 - 1) / 8:=by decide
  omega
 have hfit:¬ (!Builtin.List.listFitsIndex k)=true:=by
  rw[fitsIndex_both h1 h2];exact ao
 have hlong:¬ cq (its.toArray.size*k.toNat)=true:=by
  rw[uC hlen];exact ao
 have hnew:dF (λx1 x2=>x1++x2) #[] (ag (if its.toArray.isEmpty=true then 0 else k.toNat) its.toArray)=(ag k.toNat its).flatten.toArray:=by
  have f0:∀m:Nat,dF (λx1 x2=>x1++x2) #[] (ag m its.toArray)=(ag m its).flatten.toArray:=λm=>by
   have:=jE its m [];rw[bG]at this;exact this
  rw[f0];cases its with
  | nil=>simp
  | cons a r' =>rw[if_neg (by simp)]
 refine wpAny_binaryOp_repeat_ref (T:="list") (U:="int") (by decide) ⟨_,e,rfl⟩ (λs' =>dE s' k t) noFill_list_mul fD cI repeat_list eX.lookup
  (cD cI (dE s k t) eY (eM _ _) (int___rmul___int_list k t l its.toArray n)
   ⟨e,rfl,⟨_,e,rfl⟩,cD F.slot_list_mul ⟨_,e,rfl⟩ F.entry_list_mul (F.args_list_mul_2 _ _) (AutoListH.list___mul___list_int_3 l its.toArray n k t hfit hcap hlong) ⟨e, ?_⟩⟩)
 rw[hnew];exact⟨.ref _,_,I.lnew (t' :=s.toks) (r.rep k.toNat) (by rw[JC,dt];exact hz),rfl,q _ I.fresh⟩
end
section
variable {prog:Program}{w:World}{A:Around}{E:Value->Shared->Prop}{s:Shared}
end
section
variable {X:Cx}
end
end L2
namespace Att
open PySem PySem.W PySem.Calls PyProof.Rows
theorem JD {P:Params}{h:Heap}:∀(ns:List Int) (vs:List Value),WellAll P h vs (ns.map WData.int)->IntsAre vs ns:=by
 intro ns
 induction ns with
 | nil=>
  intro vs w;rw[bY]at w;cases w;exact .nil
 | cons n ns ih=>
  intro vs w;rw[aB]at w;cases w with
  | cons a b=>
   cases a;exact .cons _ _ (ih _ b)
theorem ye {l:OpenLaw}{n:Nat}(hn:l.most=some n){P:Params}{h:Heap}{args:List WData}{vals:List Value}
  (hpre:l.row.toRowW.claim.pre args=true) (hwl:WellAll P h vals args):
  ∃a vs ns,vals=[Value.ref a]/\args=[WData.list (ns.map WData.int)]/\h.get? a=some { cls:= .type "list",data:= .seq vs.toArray }/\IntsAre vs ns/\ns.length<=n:=by
 have hsh:WShape.hasAll [] args [.list .int]=true:=(pre_splitW hpre).1;have hc:l.pre.holds [] { args:=args }=true:=(pre_splitW hpre).2;obtain⟨d,r,rfl,h1,h2⟩:=hasAllW_cons hsh;obtain rfl:=hasAllW_nil h2;obtain⟨xs,rfl,h3⟩:=hasW_list h1;obtain⟨ns,rfl⟩:=items_int h3;have hlen:ns.length<=n:=by
  unfold OpenLaw.pre at hc;have h4:(WTm.not (.lt (.lit (.int (n:Int))) (.len (.arg 0)))).holds [] { args:=[.list (ns.map .int)] }=true:=by
   have h4:=(holds_andW hc).1;rw[hn]at h4;exact h4
  have h5:=condW_of h4 (w_not (w_lt w_lit (w_len_list (w_arg rfl))));rw[ac]at h5;refine Nat.le_of_not_lt λq=> ?_;have q' :(n:Int) < ((ns.length:Nat):Int):=by omega
  first
   | (rw[decide_eq_true q']at h5;exact absurd h5 (by decide))
   | (simp at h5;omega)
 cases hwl with
 | cons w1 w2=>
  cases w2;cases w1 with
  | list ho hall=>exact⟨_,_,ns,rfl,rfl,ho,JD ns _ hall,hlen⟩
theorem yf (l:OpenLaw)(args:List WData):l.row.toRowW.claim.post args (.bool true) args=true:=
 postW_of (r:=l.row.toRowW) (X:=(true == true))
  (show WShape.has [] (.bool true) .bool=true by first | rfl | decide | simp[WShape.has,WShape.arms,WShape.armsAll])
  (show (WTm.eq .res (.lit (.bool true))).value [] { args:=args,res:=some (.bool true),after:=args }=some (.bool (true == true)) from w_eq_bool (w_res rfl) w_lit) rfl
theorem attach_call {l:OpenLaw}{n:Nat}{q:Program}{loose:List Str}{XP:(Str->Option Value)->Heap->Prop}{YP:World->Heap->Prop}{d:DefRec}
  (hn:l.most=some n) (hdf:d.params.defaults=[])
  (call:∀(w:World) (s₀ s₁:Shared) (mg mb:Str->Option Value) (fa:Addr) (o:Obj) (pm cd doc:Value) (a:Addr) (vs:List Value) (ns:List Int),
   Ground q loose [] XP w s₀ mg mb s₁.heap->YP w s₁.heap->
   s₁.heap.get? fa=some o->o.data= .func (docDef d.name d.params d.body d.scope pm cd doc)->s₁.heap.CodeRec cd d.name->mg d.name=some (.ref fa)->
   s₁.heap.get? a=some { cls:= .type "list",data:= .seq vs.toArray }->IntsAre vs ns->ns.length<=n->s₁.gens= #[]->
   codeAny (model l.prog w) callerA (.call (.ref fa) ⟨[.ref a],[]⟩) (λr s' =>r= .ok (.ret (.bool true))/\OldK s₁.heap s'.heap/\s'.os=s₁.os/\AllBare s'.gens) s₁):
  WalkO q loose XP YP l.row.toRowW d [] (λf vs=>iK f vs):=by
 intro w s₀ s₁ mg mb G Y fa o pm cd doc dV kV ho hd hcd hD hmg hg args vals as hpre hlay hrd hwl hlo;obtain rfl:dV= .none:=Dflts.none hD hdf;obtain rfl:kV= .none:=Dflts.noKw hD;obtain⟨a,vs,ns,rfl,rfl,hobj,hints,hlen⟩:=ye hn hpre hwl;refine enter_call (codeAny_mono (call w s₀ s₁ mg mb fa o pm cd doc a vs ns G Y ho (fd_plain hd) hcd hmg hobj hints hlen hg) λr s' hq=> ?_);obtain⟨rfl,h2,h3,h4⟩:=hq;exact⟨.inl ⟨.bool true,.bool true,[],rfl,λ_=>rfl,.bool true,yf l _,λ_=>⟨List.Pairwise.nil,λ_ hm=>(nomatch hm)⟩⟩,h2,h3,h4⟩
section
variable {prog:Program}{w:World}{A:Around}{E:Value->Shared->Prop}{s:Shared}{K:Frag}
end
end Att
namespace L2
open PySem PySem.Spec PyProof.Rows
theorem Wh:∀{vs:List Value} {ns:List Int},IntsAre vs ns->Vals (ns.map V.int) vs
 | _,_,.nil=> .nil
 | _,_,.cons n t h=> .cons ⟨t,rfl⟩ (Wh h)
def KR (H:Hp):Prop:=∀b,H b=none\/∃o xs,H b=some (.frz o (.lst xs))
theorem qJ {P:Program}{w:World}{K:ai}{mg mb:Str->Option Value}{CX:CXT}{k:Nat}{fa a:Addr}{fd:FuncData}{x:Str}{sp:Sp}{s₁:Shared}{vs:List Value}{ns:List Int}
  (KX:K.In s₁.heap) (hns:s₁.heap.Ns mainGlobals mg) (hb:s₁.heap.Ns builtinsNs mb) (hbb:∀x:Str,x ≠ "__name__"->mb x=bootBuiltins x) (hlim:s₁.heap.NoLimit) (hg:s₁.gens= #[])
  (ha:s₁.heap.get? a=some { cls:= .type "list",data:= .seq vs.toArray }) (hi:IntsAre vs ns) (hl:ns.length<=sizeLine) (hr:jv k callerA)
  (F:∀base:Heap,K.In base->base.Ns mainGlobals mg->Zh P w K mg base CX k fa fd [x] sp) (hbind:∀(s:Shared) (u:Value),BindsTo s fd ⟨[u],[]⟩ [(x,u)])
  (hsp:∀H:Hp,KR H->SqL K H a (ns.map V.int)->sp [.ref a] H (λv _=>v= .bl true) λ_ _ _=>False)
  (hCX:∀H e s',CX [] H s₁ (λ_ _ _=>False) e s' ->False):
  codeAny (model P w) callerA (.call (.ref fa) ⟨[.ref a],[]⟩) (λr s' =>r= .ok (.ret (.bool true))/\OldK s₁.heap s'.heap/\s'.os=s₁.os/\AllBare s'.gens) s₁:=by
 have rv:=Wh hi;have lenV:=hi.length;have core:∀H:Hp,KR H->SqL K H a (ns.map V.int)->HOk P w H s₁.heap->(∀b,H b ≠ none->b=a)->(H a ≠ none->K.lookup a=none)->
   codeAny (model P w) callerA (.call (.ref fa) ⟨[.ref a],[]⟩) (λr s' =>r= .ok (.ret (.bool true))/\OldK s₁.heap s'.heap/\s'.os=s₁.os/\AllBare s'.gens) s₁:=by
  intro H hO hS hok hA hK;have base_of:∀{b:Addr} {o:Obj},s₁.heap.get? b=some o->H b=none->(qx s₁.heap H).get? b=some o:=λe n=>qy e n;have noA:∀{b:Addr} {o:Obj} {es:Array DictEntry} {ep:Nat},s₁.heap.get? b=some o->o.data= .dict es ep->H b=none:=λ{b o es ep} e d=>by
   cases q:H b with
   | none=>rfl
   | some u=>
    have e' :b=a:=hA b (by rw[q];simp)
    subst e';rw[ha]at e;cases e;have d' :Data.seq vs.toArray _=Data.dict es ep:=d;cases d'
  have nsK:∀{b:Addr} {m:Str->Option Value},s₁.heap.Ns b m->(qx s₁.heap H).Ns b m:=λ{b m} ⟨o,es,ep,e,d,r⟩=>⟨o,es,ep,base_of e (noA e d),d,r⟩;have hKb:K.In (qx s₁.heap H):=λb o e=>base_of (KX b o e) (by
   cases q:H b with
   | none=>rfl
   | some u=>
    have e' :b=a:=hA b (by rw[q];simp)
    subst e';rw[hK (by rw[q];simp)]at e;cases e)
  have hM:Mod K mg (qx s₁.heap H):=⟨hKb,nsK hns,⟨mb,nsK hb,hbb⟩,let ⟨mc,h1,h2⟩:=hlim;⟨mc,nsK h1,h2⟩⟩;have e0:KQ P w K mg (qx s₁.heap H) callerA [] s₁ H:=⟨rfl,hM,λb o e=>vY e,Nat.le_of_eq (UM _ _),trivial,λb hb=>absurd (show b∈([]:List Addr) from hb) (by simp),hok,.of_eq hg⟩
  refine codeAny_mono ((F _ hKb (nsK hns)).run callerA [] s₁ H ⟨[.ref a],[]⟩ [.ref a] [.ref a] _ _ hr e0 (hbind s₁ (.ref a)) (.cons rfl .nil) (hsp H hO hS)) λr s' h=> ?_;cases r with
  | error e=>exact(hCX H e s' h).elim
  | ok fl=>
   cases fl with
   | next=>exact cC h
   | brk=>exact cC h
   | cont=>exact cC h
   | ret u=>
    obtain⟨v,H',os,bare,un,hok',r',q⟩:=h;have q' :v= .bl true:=q;subst q';obtain rfl:u=Value.bool true:=r';refine⟨rfl,OldK.of_keep λb o e=> ?_,os,bare⟩;cases q:H b with
    | none=>exact un.keep b o e q (by intro z;exact absurd (show b∈([]:List Addr) from z) (by simp)) (by simp)
    | some u=>
     rcases hO b with z | ⟨ob,xs,z⟩
     ·rw[q]at z;cases z
     ·have z2:=un.frzs b ob _ z;obtain⟨e1,_⟩:=hok b _ z;obtain⟨e2,_⟩:=hok' b _ z2;rw[e]at e1;cases e1;exact e2
 cases hk:K.lookup a with
 | some o=>
  have e:=KX a o hk;rw[ha]at e;cases e;refine core (λ_=>none) (λ_=> .inl rfl) (.inr ⟨_,vs.toArray,_,hk,rfl,rfl,rfl,by rw[av,lenV];exact hl,by simpa using rv⟩) (λb u z=>by have z' :(none:Option HO)=some u:=z;cases z') (λb z=>absurd rfl z) λz=>absurd rfl z
 | none=>
  refine core (λb=>if b=a then some (.frz { cls:= .type "list",data:= .seq vs.toArray } (.lst (ns.map V.int))) else none) (λb=> ?_) (.inl (.inr ⟨{ cls:= .type "list",data:= .seq vs.toArray },if_pos rfl⟩)) (λb u z=> ?_) (λb z=> ?_) λ_=>hk
  ·by_cases hb:b=a
   ·exact .inr ⟨_,_,if_pos hb⟩
   ·exact .inl (if_neg hb)
  ·by_cases hb:b=a
   ·have z' :=(if_pos hb).symm.trans z;cases z';subst hb;exact⟨ha,by rw[ac];exact hl,vs,_,rv,ha⟩
   ·have z' :=(if_neg hb).symm.trans z;cases z'
  ·by_cases hb:b=a
   ·exact hb
   ·exact absurd (if_neg hb) z
end L2
namespace L2
open PySem PySem.Spec PyProof.Rows
theorem walk_of {l:PySem.W.OpenLaw}{n k:Nat}{q:Program}{loose:List Str}{XP:(Str->Option Value)->Heap->Prop}{YP:World->Heap->Prop}{d:DefRec}{K:Params->ai}{CX:World->CXT}{sp:World->Sp}{x:Str}
  (hn:l.most=some n) (hn2:n<=sizeLine) (hdf:d.params.defaults=[]) (hr:jv k callerA)
  (hY:∀(w:World) (h:Heap),YP w h->(K w.params).In h)
  (F:∀(w:World) (mg:Str->Option Value) (fa:Addr) (h:Heap),(K w.params).In h->h.Ns mainGlobals mg->mg d.name=some (.ref fa)->
   ∃fd:FuncData,(∀(s:Shared) (u:Value),BindsTo s fd ⟨[u],[]⟩ [(x,u)])/\
    ∀base:Heap,(K w.params).In base->base.Ns mainGlobals mg->Zh l.prog w (K w.params) mg base (CX w) k fa fd [x] (sp w))
  (hsp:∀(w:World) (H:Hp) (a:Addr) (ns:List Int),ns.length<=n->KR H->SqL (K w.params) H a (ns.map V.int)->sp w [.ref a] H (λv _=>v= .bl true) λ_ _ _=>False)
  (hCX:∀(w:World) (H:Hp) (s:Shared) (e:Value) (s' :Shared),CX w [] H s (λ_ _ _=>False) e s' ->False):
  PySem.W.WalkO q loose XP YP l.row.toRowW d [] (λf vs=>iK f vs):=by
 refine Att.attach_call hn hdf λw s₀ s₁ mg mb fa o pm cd doc a vs ns G Y ho hd hcd hmg hobj hints hlen hg=> ?_;have KX:=hY w _ Y;obtain⟨fd,hb,hF⟩:=F w mg fa _ KX G.T.g hmg;exact qJ KX G.T.g G.T.b G.T.builtins G.T.nolimit hg hobj hints (aq hlen hn2) hr hF hb (λH hO hS=>hsp w H a ns hlen hO hS) λH e s' =>hCX w H s₁ e s'
end L2
namespace L2
open PySem PySem.Spec PyProof.Rows
def j8 (s:Stmt):Arguments:=match s with
 | .FunctionDef _ a _ _ _ _ _ _ _ _=>a
 | _=>{ posonlyargs:=[],args:=[],vararg:=none,kwonlyargs:=[],kw_defaults:=[],kwarg:=none,defaults:=[] }
def Zw (s:Stmt):List Stmt:=match s with
 | .FunctionDef _ _ b _ _ _ _ _ _ _=>b
 | _=>[]
def zd (s:Stmt):Scope:=match s with
 | .FunctionDef _ _ _ _ _ _ sc _ _ _=>sc
 | _=>{ kind:= .function,names:=[],isGenerator:=false,isCoroutine:=false }
abbrev CX0:CXT:=λ_ _ _ _ _ _=>False
structure Fun (K:ai) (x qual:Str) (st:Stmt) (f:Addr) (fd:FuncData):Prop where
 ex:∃(oc:Value) (od:Option Addr) (kV doc pm:Value) (an:Option Addr) (cdv ct:Value) (osl:Array (Option Value)),
  fd=bX x qual (j8 st) (Zw st) (zd st) .none kV doc pm an cdv ct/\K.lookup f=some ⟨oc,od,.func fd,osl⟩/\dX K cdv qual=true
 kp:bL K (.ref f)=true
section
variable {P:Program}{w:World}{K:ai}{mg:Str->Option Value}{base:Heap}
theorem Fun.ok {x qual:Str}{st:Stmt}{f:Addr}{fd:FuncData}{N ps:List Str}{k:Nat}{sp:Sp}(F:Fun K x qual st f fd)(S:zh N ps (zd st))(len:∀vs H Q E,sp vs H Q E->vs.length=ps.length)
  (hbody:∀(cdv:Value) (A:Around) (outer:List Env) (s:Shared) (H:Hp) (vs:List V) (Q:VK) (E:XK),jv k (A.deeper (envOfC qual (zd st) s.heap.objs.size f cdv))->sp vs H Q E->
   ∃t,PSs (w4 CX0 P w K mg base N qual (zd st) f cdv A outer s H E).nox (Zw st) t/\t { nx:=λ_ H' =>Q .non H',rt:=Q } (start N vs) H):Zh P w K mg base CX0 (k+1) f fd ps sp:=by
 obtain⟨oc,od,kV,doc,pm,an,cdv,ct,osl,rfl,lk,hcd⟩:=F.ex;refine Xz lk hcd S len λA outer s H vs Q E hr hsp=> ?_;obtain⟨t,h,q⟩:=hbody cdv A outer s H vs Q E hr hsp;exact⟨t,h.nox,q⟩
theorem Fun.binds {x qual:Str}{st:Stmt}{f:Addr}{fd:FuncData}{ps:List Str}(F:Fun K x qual st f fd)
  (h:∀(kV doc pm:Value) (an:Option Addr) (cdv ct:Value) (us:List Value),us.length=ps.length->bindArgs (bX x qual (j8 st) (Zw st) (zd st) .none kV doc pm an cdv ct) ⟨us,[]⟩=pure (ps.zip us)):Binds K fd ps []:=by
 obtain⟨oc,od,kV,doc,pm,an,cdv,ct,osl,rfl,lk,hcd⟩:=F.ex;exact .all (h kV doc pm an cdv ct)
theorem XM {x qual:Str}{st:Stmt}{f:Addr}{oc:Value}{od an:Option Addr}{osl:Array (Option Value)}{kV doc pm cdv ct:Value}(l:K.lookup f=some ⟨oc,od,.func (bX x qual (j8 st) (Zw st) (zd st) .none kV doc pm an cdv ct),osl⟩)
  (c:dX K cdv qual=true) (k:bL K (.ref f)=true):Fun K x qual st f (bX x qual (j8 st) (Zw st) (zd st) .none kV doc pm an cdv ct):=⟨⟨oc,od,kV,doc,pm,an,cdv,ct,osl,rfl,l,c⟩,k⟩
end
section
variable {X:Cx}
theorem pv (i:Nat){x:Str}{pos:Pos}(hN:X.N[i]? =some x:=by rfl)(hv:Vis X.env.scope x:=by first | exact Or.inl rfl | exact Or.inr (Or.inl rfl) | exact Or.inr (Or.inr rfl))(hd:(x == ("__debug__":Str))=false:=by decide)
  (hcd:(x == ("__classdict__":Str))=false:=by decide):PE X (.Name x pos) (UN i):=QR hN hv hd hcd
end
def zw (H H' :Hp):Prop:=∀b o,H b=some o->H' b=some o
theorem zw.refl (H:Hp):zw H H:=λ_ _ h=>h
theorem zw.trans {H H1 H2:Hp}(a:zw H H1)(b:zw H1 H2):zw H H2:=λc o h=>b c o (a c o h)
theorem zw.free {H H' :Hp}(e:zw H H'){l:Addr}(h:H' l=Option.none):H l=Option.none:=by
 cases q:H l with
 | none=>rfl
 | some o=>
  rw[e l o q]at h;cases h
end L2
namespace L2
open PySem PySem.Spec PyProof.Rows PySem.W
theorem uD {env:Env}{outer:List Env}{L:Addr}(h:env.frame=some L):frs (env :: outer)=L :: frs outer:=by
 unfold frs;rw[cT,h]
structure WY (P:Program) (w:World) (outer:List Env) (H:Hp) (s s' :Shared) (ea:Addr) (cls a0:Value) (B:Heap) (H' :Hp):Prop where
 os:s'.os=s.os
 bare:AllBare s'.gens
 fly:dv B outer ea cls a0 s'.heap
 hok:HOk P w H' B
 un:Un (frs outer) [] H H' s.heap s'.heap
 inB:∀b o,s.heap.get? b=some o->b ∉ frs outer->(H b=none->B.get? b=some o)/\∃o',B.get? b=some o'
def CX1 (P:Program)(w:World):CXT:=λouter H s E e s' =>∃ea cls a0 B H',e= .ref ea/\WY P w outer H s s' ea cls a0 B H' /\E cls none H'
section
variable {X:Cx}{pins:List (Addr×Obj)}{σ:St}{H H' :Hp}{s s' :Shared}{ea:Addr}{cls a0:Value}{B:Heap}{h' h'' :Heap}
theorem Inv.frNf (I:Inv X pins σ H s):∀b∈frs X.stack,H b=none/\∃o,s.heap.get? b=some o/\∀vs,o.data ≠ .fields vs:=λb hb=>⟨I.stkFree b hb,(I.stack.mem hb).2⟩
theorem WY.on {P:Program}{w:World}{outer:List Env}(L:WY P w outer H s s' ea cls a0 B H')(ff:∀b∈frs outer,H b=none/\∃o,s.heap.get? b=some o/\∀vs,o.data ≠ .fields vs)
  (fl:dv B outer ea cls a0 h') (sl:s'.heap.UpToSlots h'):WY P w outer H s { s' with heap:=h' } ea cls a0 B H' where
 os:=L.os
 bare:=L.bare
 fly:=fl
 hok:=L.hok
 inB:=L.inB
 un:=by
  have slot:∀b o,s.heap.get? b=some o->H b=none->b∈frs outer->∃sl,h'.get? b=some { o with slots:=sl }:=λb o e n hb=>by
   obtain⟨sl1,e1⟩:=L.un.slot b o e n hb (by simp)
   obtain⟨_,o2,e2,nf⟩:=ff b hb;rw[e]at e2;cases e2;obtain⟨sl2,e3⟩:=sl b _ e1 nf;exact⟨sl2,e3⟩
  exact⟨λb o e n hb _=>fl.1 b o ((L.inB b o e hb).1 n),λb o e n hb _=>slot b o e n hb,L.un.free,λb o e _=>by
   by_cases hb:b∈frs outer
   ·obtain⟨sl1,e1⟩:=slot b o e (ff b hb).1 hb;exact⟨_,e1⟩
   ·obtain⟨o',e'⟩:=(L.inB b o e hb).2;exact⟨o',fl.1 b o' e'⟩,L.un.tups,L.un.frzs,L.un.tbls⟩
theorem Inv.old (I:Inv X pins σ H s){b:Addr}{o:Obj}(hX:X.stack=X.env :: X.outer)(hf:X.env.frame=some X.env.locals)(e:X.s₀.heap.get? b=some o)(hb:b ∉ frs X.outer):b ∉ frs X.stack:=by
 rw[hX,uD hf];intro z;rcases ax.mp z with z | z
 ·exact absurd (aE (ar e) I.ok.above) (by rw[z];exact bR _)
 ·exact hb z
theorem WZ {X:Cx}(hX:X.stack=X.env :: X.outer)(hf:X.env.frame=some X.env.locals){b:Addr}(hb:b∈frs X.outer):b∈frs X.stack:=by
 rw[hX,uD hf];exact ae _ hb
theorem WY.out (I:Inv X pins σ H s)(hX:X.stack=X.env :: X.outer)(hf:X.env.frame=some X.env.locals)(hex:X.ex=[])(L:WY X.prog X.w X.stack H s s' ea cls a0 B H')
  (fl:dv B X.outer ea cls a0 h') (sl:s'.heap.UpToSlots h'):WY X.prog X.w X.outer X.H₀ X.s₀ { s' with heap:=h' } ea cls a0 B H' where
 os:=L.os.trans I.os
 bare:=L.bare
 fly:=fl
 hok:=L.hok
 inB:=λb o e hb=>by
  have nx:b ∉ X.ex:=by rw[hex];simp
  obtain⟨o1,e1⟩:=I.base.there b o e nx;have hb' :=I.old hX hf e hb;exact⟨λn=>(L.inB b o (I.base.keep b o e n hb nx) hb').1 (I.base.free b o e n nx),(L.inB b o1 e1 hb').2⟩
 un:=by
  have nx:∀b,b ∉ X.ex:=λb=>by rw[hex];simp
  have slot:∀b o,X.s₀.heap.get? b=some o->X.H₀ b=none->b∈frs X.outer->∃sl,h'.get? b=some { o with slots:=sl }:=λb o e n hb=>by
   obtain⟨sl1,e1⟩:=I.base.slot b o e n hb (nx b);have n1:=I.base.free b o e n (nx b);obtain⟨sl2,e2⟩:=L.un.slot b _ e1 n1 (WZ hX hf hb) (by simp)
   obtain⟨_,o3,e3,nf⟩:=I.frNf b (WZ hX hf hb);rw[e1]at e3;cases e3;obtain⟨sl4,e4⟩:=sl b _ e2 nf;exact⟨sl4,e4⟩
  refine⟨λb o e n hb _=> ?_,λb o e n hb _=>slot b o e n hb,λb o e n _=> ?_,λb o e _=> ?_,λb xs e=>L.un.tups b xs (I.base.tups b xs e),λb o xs e=>L.un.frzs b o xs (I.base.frzs b o xs e),λb ps e=> ?_⟩
  ·exact fl.1 b o ((L.inB b o (I.base.keep b o e n hb (nx b)) (I.old hX hf e hb)).1 (I.base.free b o e n (nx b)))
  ·obtain⟨o1,e1⟩:=I.base.there b o e (nx b);exact L.un.free b o1 e1 (I.base.free b o e n (nx b)) (by simp)
  ·by_cases hb:b∈frs X.outer
   ·obtain⟨sl1,e1⟩:=slot b o e (I.ok.frf b hb) hb;exact⟨_,e1⟩
   ·obtain⟨o1,e1⟩:=I.base.there b o e (nx b);obtain⟨o',e'⟩:=(L.inB b o1 e1 (I.old hX hf e hb)).2;exact⟨o',fl.1 b o' e'⟩
  ·obtain⟨m1,e1⟩:=I.base.tbls b ps e;obtain⟨m2,e2⟩:=L.un.tbls b _ e1;exact⟨m1++m2,by rw[e2,fZ]⟩
theorem WY.made (I:Inv X pins σ H s)(hX:X.stack=X.env :: X.outer)(hf:X.env.frame=some X.env.locals)(hex:X.ex=[]){vs:List Value}(hx:Heap.MadeExcOf s.heap h' ea cls vs)
  (fl:dv (hideAll s.heap (frs X.stack)) X.outer ea cls a0 h'') (sl:h'.UpToSlots h''):WY X.prog X.w X.outer X.H₀ X.s₀ { s with heap:=h'' } ea cls a0 (hideAll s.heap (frs X.stack)) H where
 os:=I.os
 bare:=I.bare
 fly:=fl
 hok:=λa o e=>(I.hok a o e).stay (λb u hb q=>hideAll_get _ q λz=>by
   have:=I.stkFree b z;rcases hb with rfl | hb
   ·rw[e]at this;cases this
   ·rw[hb]at this;cases this) (λ_ q=>q) λ_ _ q=>q
 inB:=λb o e hb=>by
  have nx:b ∉ X.ex:=by rw[hex];simp
  obtain⟨o1,e1⟩:=I.base.there b o e nx;have hb' :=I.old hX hf e hb;exact⟨λn=>hideAll_get _ (I.base.keep b o e n hb nx) hb',o1,hideAll_get _ e1 hb'⟩
 un:=by
  have nx:∀b,b ∉ X.ex:=λb=>by rw[hex];simp
  have slot:∀b o,X.s₀.heap.get? b=some o->X.H₀ b=none->b∈frs X.outer->∃sl,h''.get? b=some { o with slots:=sl }:=λb o e n hb=>by
   obtain⟨sl1,e1⟩:=I.base.slot b o e n hb (nx b);obtain⟨_,o3,e3,nf⟩:=I.frNf b (WZ hX hf hb);rw[e1]at e3;cases e3;obtain⟨sl4,e4⟩:=sl b _ (hx.keeps b _ e1) nf;exact⟨sl4,e4⟩
  refine⟨λb o e n hb _=> ?_,λb o e n hb _=>slot b o e n hb,λb o e n _=>I.base.free b o e n (nx b),λb o e _=> ?_,I.base.tups,I.base.frzs,I.base.tbls⟩
  ·exact fl.1 b o (hideAll_get _ (I.base.keep b o e n hb (nx b)) (I.old hX hf e hb))
  ·by_cases hb:b∈frs X.outer
   ·obtain⟨sl1,e1⟩:=slot b o e (I.ok.frf b hb) hb;exact⟨_,e1⟩
   ·obtain⟨o1,e1⟩:=I.base.there b o e (nx b);exact⟨o1,fl.1 b o1 (hideAll_get _ e1 (I.old hX hf e hb))⟩
end
section
variable {P:Program}{w:World}{K:Frag}{mg:Str->Option Value}{base:Heap}{N:List Str}{qual:Str}{scope:Scope}{f:Addr}{cd:Value}{A:Around}{outer:List Env}{s:Shared}{H:Hp}{E:XK}
theorem XN:ZQ (CX1 P w) (w4 (CX1 P w) P w K mg base N qual scope f cd A outer s H E) E:=by
 intro pins σ H1 s1 e s' I ⟨ea,cls,a0,B,H',he,L,hE⟩;subst he;exact wpAny_leaves_onW (base:=B) I.ok.frames rfl L.fly λh' fl sl=>⟨ea,cls,a0,B,H',rfl,L.out I rfl rfl rfl fl sl,hE⟩
theorem yg {x:Str}{C:Addr}{bm bmN:List Value}{Bn Bb newId nid initId inN:String}{np cpos pos:Pos}{e:Expr}{t:TA}(O:OwnCls x C bm newId mg base)(Fn:ExcBaseFacts Bn newId inN bmN)(hBn:bm.contains (.type Bn)=true)(FB:ExcBaseFacts Bb nid initId bm)
  (hg:Gl (w4 (CX1 P w) P w K mg base N qual scope f cd A outer s H E) x) (ha:PA (w4 (CX1 P w) P w K mg base N qual scope f cd A outer s H E) [e] t)
  (he:starEach [e] (envOfC qual scope s.heap.objs.size f cd)=[(false,eval e (envOfC qual scope s.heap.objs.size f cd))]) (hd:(x == ("__debug__":Str))=false:=by decide):
  PS (w4 (CX1 P w) P w K mg base N qual scope f cd A outer s H E) (.Raise (some (.Call (.Name x np) [e] [] cpos)) none pos) (λ_ σ H1=>t σ H1 λvs H2=>vs.length<=sizeLine/\E (.ref C) none H2):=by
 intro pins s1 σ H1 D I hw;obtain⟨tl,N',nm,q,bs,hdct,sn,sub,ab,col,dd,k0,k1,k2,k3,k5,mN,hC,hN,hni,T⟩:=O.obj;have hp:(backTo cpos (starEach [e] (envOfC qual scope s.heap.objs.size f cd))).any (·.1)=false:=by rw[he];rfl
 refine wpAny_Raise_call_subU (C:=C) (nm:=nm) (q:=q) (N:=N') (bs:=bs) (bm:=tl) (hdct:=hdct) (sn:=sn) (sub:=sub) (ab:=ab) (col:=col) (dd:=dd) (k0:=k0) (k1:=k1) (k2:=k2) (k3:=k3) (k5:=k5)
  Fn hBn FB (mN:=mN) (T.hasType FB.hasBase) (I.ok.hd rfl) hp hni (wC I hg O.bound ⟨rfl, ?_⟩ hd)
 have h2:=ha cpos pins s1 σ H1 _ I hw;have he' :starEach [e] (w4 (CX1 P w) P w K mg base N qual scope f cd A outer s H E).env=[(false,eval e (w4 (CX1 P w) P w K mg base N qual scope f cd A outer s H E).env)]:=he;rw[he']at h2 ⊢;refine fL (thn h2 λus s2 ⟨vs,H2,I2,r,hl,hE⟩=>⟨rfl,by rw[← r.length];exact hl,I2.bk _ _ hC,hN.keeps I2.bk,T.keeps I2.bk,λh' ea hx=> ?_⟩)
 have hin:∀env∈(w4 (CX1 P w) P w K mg base N qual scope f cd A outer s H E).stack,∀b,env.frame=some b->b∈frs (w4 (CX1 P w) P w K mg base N qual scope f cd A outer s H E).stack:=λenv he b hb=>dW.mpr ⟨env,he,hb⟩;exact wpAny_leaves_madeW (base:=hideAll s2.heap (frs (w4 (CX1 P w) P w K mg base N qual scope f cd A outer s H E).stack)) (h:=s2.heap) I2.ok.frames rfl (λb o q=>of_hideAll _ q) (funFrames_hide I2.stack hin) hx λh'' t' fl _ _ sl=>
  ⟨ea,.ref C,.ref t',_,H2,rfl,WY.made I2 rfl rfl rfl hx fl sl,hE⟩
end
end L2
namespace L2
open PySem PySem.Spec PyProof.Rows PySem.W
theorem Zl.there {P:Program}{w:World}{H:Hp}{h:Heap}{a:Addr}{o:HO}(x:Zl P w H h a o):∃ob,h.get? a=some ob:=by
 cases o with
 | lst xs=>obtain⟨_,_,_,_,e⟩:=x;exact⟨_,e⟩
 | tup xs=>obtain⟨_,_,_,⟨_,e,_⟩,_⟩:=x;exact⟨_,e⟩
 | dK kvs=>obtain⟨_,_,_,_,o,_,_,e,_⟩:=x;exact⟨_,e⟩
 | dT kvs=>obtain⟨_,_,_,_,o,_,_,e,_⟩:=x;exact⟨_,e⟩
 | set S n=>obtain⟨o,_,_,_,e,_⟩:=x;exact⟨_,e⟩
 | ins C dx fs=>obtain⟨_,_,_,e,_⟩:=x;exact⟨_,e⟩
 | own y=>obtain⟨_,e⟩:=x;exact⟨_,e⟩
 | xd fs=>obtain⟨_,⟨_,_,_,e,_⟩,_⟩:=x;exact⟨_,e⟩
 | rng lo hi=>obtain⟨_,_,_,e⟩:=x;exact⟨_,e⟩
 | frz ob u=>obtain⟨e,_⟩:=x;exact⟨_,e⟩
 | tbl ps=>exact⟨_,(show h.get? a=some _ from x)⟩
 | met f y=>exact⟨_,(show h.get? a=some _ from x)⟩
 | ext φ=>obtain⟨_,e,_⟩:=x;exact e
def u0 (cls:Value)(a:Addr)(h:Heap):Prop:=∃o,h.get? a=some o/\o.cls=cls
theorem u0.ok {P:Program}{w:World}{H:Hp}{h:Heap}{a:Addr}{cls:Value}(x:u0 cls a h):Zl P w H h a (.ext (u0 cls a)):=
 ⟨x,let ⟨o,e,_⟩:=x;⟨o,e⟩,λ_ _ ⟨o,e,c⟩ k=>⟨o,k o e,c⟩⟩
abbrev Cx.try' (X:Cx)(pn:List (Addr×Obj))(xe:Value->Shared->Prop):Cx:={ X with pn:=pn,xe:=xe }
abbrev Cx.mark' (X:Cx)(e:Value):Cx:={ X with A:=X.A.mark (some e),calm:=false,xe:=λ_ _=>False }
section
variable {X:Cx}{pins pins' :List (Addr×Obj)}{σ:St}{H H' :Hp}{s s' :Shared}{xe:Value->Shared->Prop}
theorem Cx.Ok.try' (ok:X.Ok){pn:List (Addr×Obj)}:(X.try' pn xe).Ok:=
 ⟨ok.mod,ok.kind,ok.glob,ok.blt,ok.above,ok.inj,ok.has,ok.cab,ok.hd,ok.frames,ok.stk,ok.exf,ok.bs,ok.bsz,ok.noex,ok.exfs,ok.funs,ok.frf⟩
theorem Cx.Ok.untry {pn:List (Addr×Obj)}(ok:(X.try' pn xe).Ok):X.Ok:=
 ⟨ok.mod,ok.kind,ok.glob,ok.blt,ok.above,ok.inj,ok.has,ok.cab,ok.hd,ok.frames,ok.stk,ok.exf,ok.bs,ok.bsz,ok.noex,ok.exfs,ok.funs,ok.frf⟩
theorem Inv.try' (I:Inv X pins σ H s)(xe:Value->Shared->Prop):Inv (X.try' (X.pn++pins) xe) [] σ H s:=
 ⟨I.ok.try',I.os,I.bare,I.base,I.loc,I.cell,I.free,I.freeC,λp hp=>I.pin p (by simpa using hp),I.hok,I.len⟩
theorem Inv.untry (I:Inv (X.try' (X.pn++pins) xe) pins' σ H s):Inv X pins σ H s:=
 ⟨I.ok.untry,I.os,I.bare,I.base,I.loc,I.cell,I.free,I.freeC,λp hp=>I.pin p (cL _ hp),I.hok,I.len⟩
theorem Inv.mark' (I:Inv X pins σ H s)(e:Value):Inv (X.mark' e) pins σ H s:=
 ⟨⟨I.ok.mod,I.ok.kind,I.ok.glob,I.ok.blt,I.ok.above,I.ok.inj,I.ok.has,I.ok.cab,λz=>(by cases z),I.ok.frames,I.ok.stk,I.ok.exf,I.ok.bs,I.ok.bsz,I.ok.noex,I.ok.exfs,I.ok.funs,I.ok.frf⟩,I.os,I.bare,I.base,I.loc,I.cell,I.free,I.freeC,I.pin,I.hok,I.len⟩
theorem Inv.unmark {e:Value}(I:Inv (X.mark' e) pins σ H s)(hd:X.calm=true->X.A.handled=none):Inv X pins σ H s:=
 ⟨⟨I.ok.mod,I.ok.kind,I.ok.glob,I.ok.blt,I.ok.above,I.ok.inj,I.ok.has,I.ok.cab,hd,I.ok.frames,I.ok.stk,I.ok.exf,I.ok.bs,I.ok.bsz,I.ok.noex,I.ok.exfs,I.ok.funs,I.ok.frf⟩,I.os,I.bare,I.base,I.loc,I.cell,I.free,I.freeC,I.pin,I.hok,I.len⟩
theorem SP.untry {D:qz}{f:Flow}{pins' :List (Addr×Obj)}(h:SP (X.try' (X.pn++pins) xe) pins' D f s'):SP X pins D f s' :=by
 cases f with
 | next=>obtain⟨σ',H',I,q⟩:=h;exact⟨σ',H',I.untry,q⟩
 | brk=>obtain⟨σ',H',I,q⟩:=h;exact⟨σ',H',I.untry,q⟩
 | cont=>obtain⟨σ',H',I,q⟩:=h;exact⟨σ',H',I.untry,q⟩
 | ret u=>obtain⟨v,σ',H',I,r,q⟩:=h;exact⟨v,σ',H',I.untry,r,q⟩
theorem Vc {A:Around}{E:Value->Shared->Prop}{M:Model}{i:Nat}{n:Str}{pos:Pos}{Q:Unit->Shared->Prop}(I:Inv X pins σ H s)(hN:X.N.Nodup)(hi:X.N[i]? =some n)(hl:X.env.kindOf n=some .local)(h:∀s',Inv X pins (σ.set i none) H s' ->Q () s'):
  wpAny M A (do bindName X.env n .none;unbindBehindTheSuite X.env n pos) Q E s:=by
 obtain⟨m,hn,hlo⟩:=id I.loc;have hcls:(X.env.scope.kind == .class || (X.env.scope.kind == .module && X.env.locals != X.env.globals))=false:=by rw[I.ok.kind];rfl
 refine wpAny_nameGoes_keeps hl hn hcls λh' v hn' hs=> ?_;obtain⟨oL,_,_,hoL,_⟩:=id hn;refine h _ ⟨I.ok,I.os,I.bare,⟨λb o e n hb hx=> ?_,λb o e n hb hx=> ?_,I.base.free,λb o e hx=> ?_,I.base.tups,I.base.frzs,I.base.tbls⟩,⟨_,hn',λj y v' e1 e2 e3=> ?_⟩,λy c e=> ?_,I.free,I.freeC,λp hp=> ?_,λb ob e=> ?_,by simpa using I.len⟩
 ·exact(hs.2 b (aH (aE (ar e) I.ok.above))).trans (I.base.keep b o e n hb hx)
 ·obtain⟨sl,e1⟩:=I.base.slot b o e n hb hx;exact⟨sl,(hs.2 b (aH (aE (ar e) I.ok.above))).trans e1⟩
 ·obtain⟨o',e1⟩:=I.base.there b o e hx;exact⟨o',(hs.2 b (aH (aE (ar e) I.ok.above))).trans e1⟩
 ·by_cases hj:j=i
  ·subst hj;have hiσ:j < σ.length:=by rw[I.len];exact(az.mp hi).1
   rw[bg hiσ]at e2;cases e2
  ·rw[aM (cf hj)]at e2;obtain⟨u',r',q⟩:=hlo j y v' e1 e2 e3;refine⟨u',r', ?_⟩;rcases q with ⟨k,e⟩ | ⟨k,c,e,z⟩
   ·refine .inl ⟨k, ?_⟩;have:y ≠ n:=λe=>hj (wB hN e1 (e ▸ hi));simp[this,e]
   ·exact .inr ⟨k,c,e,z.sameBut hs (I.cne y c e)⟩
 ·obtain⟨w',z⟩:=I.cell y c e;exact⟨w',z.sameBut hs (I.cne y c e)⟩
 ·obtain⟨e,n,ne,nf,d⟩:=I.pin p hp;exact⟨(hs.2 p.1 ne).trans e,n,ne,nf,d⟩
 ·refine(I.hok b ob e).stay (λc w' hc q=>(hs.2 c ?_).trans q) (λ_ q=>q) λ_ _ q=>q
  rintro rfl
  rcases hc with rfl | hc
  ·rw[I.free]at e;cases e
  ·rw[I.free]at hc;cases hc
end
section
variable {prog:Program}{w:World}{A:Around}{E:Value->Shared->Prop}{s:Shared}{env:Env}
theorem Uk {K:Frag}{e:Addr}{cls c:Value}{t:Expr}{n:Str}{b₀:Stmt}{suite:List Stmt}{pos:Pos}{rest:List ExceptHandler}{Q:Flow->Shared->Prop}(hx:exmOne K cls c=some true)
  (h:wpAny (model prog w) (A.mark (some (.ref e))) (eval t env) (λv s₁=>v=c/\K.In s₁.heap/\(∃oe,s₁.heap.get? e=some oe/\oe.cls=cls)/\
   wpAny (model prog w) (A.mark (some (.ref e))) (setFlight (.ref e) none) (λ_ s₂=>
     wpAny (model prog w) (A.mark (some (.ref e))) (storeName env n (.ref e)) (λ_ s₃=>
      wpAny (model prog w) (A.mark (some (.ref e))) (execs (b₀ :: suite) env)
       (λf s₄=>wpAny (model prog w) A (do bindName env n .none;unbindBehindTheSuite env n pos) (λ_ s₅=>Q f s₅) E s₄)
       (λ_ _=>False) s₃) (λ_ _=>False) s₂) (λ_ _=>False) s₁) (λ_ _=>False) s):
  wpAny (model prog w) A (handleBy (.ref e) env (.ExceptHandler (some t) (some n) (b₀ :: suite) pos :: rest)) Q E s:=by
 refine wpAny_handleBy_cons (codeAny_handlers_test (bQ h (λv s₁ h₁=> ?_) λ_ _ y=>y.elim)) (by intro q;cases q)
 obtain⟨rfl,X,⟨oe,he,hcls⟩,hk⟩:=h₁;have LT:Looks (model prog w) s₁.heap (typeOf (.ref e)) cls:=by
  rw[← hcls];exact(Looks.ld he).andThen .now
 refine(exm_one X LT hx) _ _ _ _ (λb o q=>q) (codeAny_handlers_suite_as ?_);exact bQ hk (λ_ s₂ h₂=>bQ h₂ (λ_ s₃ h₃=>bQ h₃ (λ_ _ y=>y) λ_ _ y=>y.elim) λ_ _ y=>y.elim) λ_ _ y=>y.elim
end
end L2
namespace L2
open PySem PySem.Spec PyProof.Rows PySem.W
section
variable {X:Cx}{pins:List (Addr×Obj)}{σ:St}{H H' :Hp}{s s' :Shared}{ea:Addr}{cls a0:Value}{B:Heap}{h3:Heap}
theorem Inv.caught (I:Inv X pins σ H s)(L:WY X.prog X.w X.stack H s s' ea cls a0 B H')(fl:dv B X.stack ea cls a0 h3)(sl:s'.heap.UpToSlots h3):Inv X pins σ H' { s' with heap:=h3 }:=
 have L3:=L.on I.frNf fl sl
 I.call' (ch:=[]) L3.os L3.un (L.hok.kept fl.1) L3.bare (λb z=>absurd z (by simp))
theorem WY.fresh {P:Program}{w:World}{outer:List Env}(L:WY P w outer H s s' ea cls a0 B H'):H' ea=none:=by
 cases q:H' ea with
 | none=>rfl
 | some o=>
  obtain⟨ob,e⟩:=(L.hok ea o q).there;have:=L.fly.2.1;rw[e]at this;cases this
theorem Inv.caughtX (I:Inv X pins σ H s)(L:WY X.prog X.w X.stack H s s' ea cls a0 B H')(fl:dv B X.stack ea cls a0 h3)(sl:s'.heap.UpToSlots h3):Inv X pins σ (upd H' ea (.ext (u0 cls ea))) { s' with heap:=h3 }:=by
 have L3:=L.on I.frNf fl sl;have hfree:=L.fresh;obtain⟨oe,vs,he,hc,hd,_⟩:=fl.first;have hne:∀b o,s.heap.get? b=some o->b ≠ ea:=λb o e z=>by
  subst z
  by_cases hb:b∈frs X.stack
  ·obtain⟨n,o2,e2,nf⟩:=I.frNf b hb;obtain⟨sl1,e3⟩:=L3.un.slot b o2 e2 n hb (by simp)
   have e3:h3.get? b=some { o2 with slots:=sl1 }:=e3;rw[he]at e3;cases e3;exact nf vs hd
  ·obtain⟨o',e'⟩:=(L.inB b o e hb).2;have:=L.fly.2.1;rw[e']at this;cases this
 have nt:∀b u,H' b=some u->b ≠ ea:=λb u e z=>by rw[z,hfree]at e;cases e
 refine I.call' (ch:=[]) L3.os ⟨L3.un.keep,L3.un.slot,λb o e n hx=> ?_,L3.un.there,λb xs e=> ?_,λb o xs e=> ?_,λb ps e=> ?_⟩ ?_ L3.bare (λb z=>absurd z (by simp))
 ·rw[zy (hne b o e)];exact L3.un.free b o e n hx
 ·have:=L3.un.tups b xs e;rw[zy (nt b _ this)];exact this
 ·have:=L3.un.frzs b o xs e;rw[zy (nt b _ this)];exact this
 ·obtain⟨m,this⟩:=L3.un.tbls b ps e;exact⟨m,by rw[zy (nt b _ this)];exact this⟩
 ·intro b u e
  by_cases hb:b=ea
  ·subst hb;rw[zU]at e;cases e;exact u0.ok ⟨oe,he,hc⟩
  ·rw[zy hb]at e;exact((L.hok.kept fl.1) b u e).stay (λ_ _ _ q=>q) (λc q=>by rw[zy (nt c _ q)];exact q) λc xs q=>by rw[zy (nt c _ q)];exact q
end
theorem Vd {X:Cx}{tb:XK->TS}{body:List Stmt}{c n y:Str}{C:Addr}{cp np yp hp apos pos:Pos}{i k:Nat}
  (hX:X.stack=X.env :: X.outer) (hf:X.env.frame=some X.env.locals) (hN:X.N.Nodup)
  (hi:X.N[i]? =some n) (hl:X.env.scope.names.lookup n=some .local) (hk:X.N[k]? =some y) (hy:X.env.scope.names.lookup y=some .local)
  (hg:Gl X c) (hm:X.mg c=some (.ref C))
  (hb:∀(E' :XK) (pn:List (Addr×Obj)) (xe:Value->Shared->Prop),ZQ (CX1 X.prog X.w) (X.try' pn xe) E' ->PSs (X.try' pn xe) body (tb E'))
  (hs:swapsWith (.Name n np) (some (.Name y yp)) apos.line X.env=pure false:=by rfl)
  (hdc:(c == ("__debug__":Str))=false:=by decide) (hdn:(n == ("__debug__":Str))=false:=by decide) (hcd:(n == ("__classdict__":Str))=false:=by decide):
  PS X (.Try body [.ExceptHandler (some (.Name c cp)) (some n) [.Assign [.Name y yp] (.Name n np) apos] hp] [] [] pos)
   (λD σ H=>∃E' :XK,(∀(cls:Value) (d:Option Addr) (H' :Hp) (ea:Addr) (σ' :St),E' cls d H' ->exmOne X.K cls (.ref C)=some true/\(H' ea=none->σ'.length=σ.length->σ.length=X.N.length->D.nx (((σ'.set i (some (.ref ea))).set k (some (.ref ea))).set i none) (upd H' ea (.ext (u0 cls ea)))))/\tb E' D σ H):=by
 intro pins s σ H D I ⟨E',hE,hw⟩;have pass:ZQ (CX1 X.prog X.w) (X.try' (X.pn++pins) λe s1=>wpAny (model X.prog X.w) X.A (noteFrame e X.env) (λ_ s2=>wpAny (model X.prog X.w) X.A (setFlight e none) (λ_ s3=>wpAny (model X.prog X.w) X.A (handleBy e X.env [.ExceptHandler (some (.Name c cp)) (some n) [.Assign [.Name y yp] (.Name n np) apos] hp]) (SP X pins D) X.xe s3) X.xe s2) X.xe s1) E' :=by
  intro pins' σ' H1 s1 e s' I1 ⟨ea,cls,a0,B,H',he,L,hw'⟩;subst he;have I0:Inv X pins σ' H1 s1:=I1.untry;have L:WY X.prog X.w X.stack H1 s1 s' ea cls a0 B H' :=L;have fr:X.A.frames=some (X.env :: X.outer):=by rw[← hX];exact I0.ok.frames
  show wpAny (model X.prog X.w) X.A (noteFrame (.ref ea) X.env) _ _ s';refine wpAny_looks_onW (base:=B) fr hf (hX ▸ L.fly) λh1 held sl1=> ?_;refine wpAny_landsW held λh2 fl2 sl2=> ?_;rw[← hX]at fl2;have sl12:s'.heap.UpToSlots h2:=sl1.trans sl2;have I2:=I0.caught L fl2 sl12;obtain⟨hm1,hD⟩:=hE cls none H' ea σ' hw';refine Uk hm1 ?_;refine wC (X:=X.mark' (.ref ea)) (I2.mark' (.ref ea)) hg hm ⟨rfl,I2.kIn,fl2.there, ?_⟩ hdc;refine lands_againW fl2 λh3 fl3 sl3=> ?_;have I3:=I0.caughtX L fl3 (sl12.trans sl3);have hlen:σ'.length=X.N.length:=I0.len;refine jC (X:=X.mark' (.ref ea)) (I3.mark' _) hN hi (.inl hl) (v:= .ref ea) rfl (λs4 I4=> ?_) (.inr hl);have hiσ:i < σ'.length:=by rw[hlen];exact(az.mp hi).1
  have hs1:=UP (uz (X:=X.mark' (.ref ea)) (pos:=apos) (pos' :=yp) hN hk (.inl hy) (QR (pos:=np) hi (.inl hl) hdn hcd) hs (.inr hy));have hr:=hs1 pins s4 _ _ { nx:=λσ5 H5=>σ5=(σ'.set i (some (.ref ea))).set k (some (.ref ea))/\H5=upd H' ea (.ext (u0 cls ea)),rt:=λ_ _=>False } I4 ⟨.ref ea,bg hiσ,rfl,rfl⟩;refine bQ hr (λf s5 h5=> ?_) λ_ _ z=>z;cases f with
  | next=>
   obtain⟨σ5,H5,I5,rfl,rfl⟩:=h5;refine Vc (X:=X) (I5.unmark I.ok.hd) hN hi hl λs6 I6=> ?_;exact⟨_,_,I6,hD L.fresh (hlen.trans I.len.symm) I.len⟩
  | brk=>obtain⟨_,_,_,z⟩:=h5;exact z.elim
  | cont=>obtain⟨_,_,_,z⟩:=h5;exact z.elim
  | ret u=>obtain⟨_,_,_,_,_,z⟩:=h5;exact z.elim
 have hr:=hb E' (X.pn++pins) _ pass [] s σ H D (I.try' _) hw;refine wpAny_Try_except (bQ hr (λf s1 h1=> ?_) λ_ _ z=>z);have h1:=h1.untry;cases f with
 | next=>exact wpAny_execs_nil h1
 | brk=>exact h1
 | cont=>exact h1
 | ret u=>exact h1
end L2
namespace PySem
open PySem.W
section
variable {M:Model}{A:Around}{E:Value->Shared->Prop}{s:Shared}
end
end PySem
namespace L2
open PySem PySem.Spec PyProof.Rows PySem.W
section
variable {X:Cx}{pins:List (Addr×Obj)}{σ:St}{H H' :Hp}{s s' :Shared}{ea C:Addr}{cls a0:Value}{B:Heap}{h' :Heap}
def XO (X:Cx)(E:XK):Prop:=∀(pins:List (Addr×Obj)) (σ:St) (H:Hp) (s:Shared) (e:Value) (s' :Shared) (C:Addr) (m:Str->Option Value) (E' :Value->Shared->Prop) (cenv:Env),Inv X pins σ H s->s.heap.Ns C m->H C=none->X.s₀.heap.objs.size<=C->C ∉ frs X.stack->cenv.frame=X.env.frame->CX1 X.prog X.w X.stack H s E e s' ->
 wpAny (model X.prog X.w) X.A (noteFrame e cenv) (λ_ s'' =>∃m,s''.heap.Ns C m/\∀h',cP C s''.heap h' ->∀env:Env,env.locals=C->wpAny (model X.prog X.w) X.A (passOn "comprehension.variables-let-go" e env:Sem Value) (λ_ _=>False) X.xe { s'' with heap:=h' }) E' s'
theorem wl {E:XK}(h:E=λ_ _ _=>False):XO X E:=λpins σ H s e s' C m E' cenv I _ _ _ _ _ ⟨_,_,_,_,_,_,_,z⟩=>by subst h;exact z.elim
end
end L2
namespace L2
open PySem PySem.Spec PyProof.Rows
theorem PE.imp {X:Cx}{e:Expr}{t t' :TE}(h:PE X e t)(i:∀σ H Q,t' σ H Q->t σ H Q):PE X e t' :=λpins s σ H Q I q=>h pins s σ H Q I (i σ H Q q)
theorem PT.imp {X:Cx}{e:Expr}{t t' :TT}(h:PT X e t)(i:∀σ H Q,t' σ H Q->t σ H Q):PT X e t' :=λpins s σ H Q I q=>h pins s σ H Q I (i σ H Q q)
theorem PA.imp {X:Cx}{e:List Expr}{t t' :TA}(h:PA X e t)(i:∀σ H Q,t' σ H Q->t σ H Q):PA X e t' :=λpos pins s σ H Q I q=>h pos pins s σ H Q I (i σ H Q q)
theorem PS.imp {X:Cx}{e:Stmt}{t t' :TS}(h:PS X e t)(i:∀D σ H,t' D σ H->t D σ H):PS X e t' :=λpins s σ H D I q=>h pins s σ H D I (i D σ H q)
theorem PSs.imp {X:Cx}{e:List Stmt}{t t' :TS}(h:PSs X e t)(i:∀D σ H,t' D σ H->t D σ H):PSs X e t' :=λpins s σ H D I q=>h pins s σ H D I (i D σ H q)
end L2
namespace PV
open PySem
def Wi:Expr->Bool
 | .Starred _ _=>false
 | _=>true
theorem zN {e:Expr}{rest:List Expr}{env:Env}(h:Wi e=true):starEach (e :: rest) env=(false,eval e env) :: starEach rest env:=by
 cases e <;> first | rfl | cases h
theorem st2 {a b:Expr}{env:Env}(h:Wi a=true)(h' :Wi b=true):starEach [a,b] env=[(false,eval a env),(false,eval b env)]:=by
 rw[zN h,zN h'];rfl
theorem st1 {a:Expr}{env:Env}(h:Wi a=true):starEach [a] env=[(false,eval a env)]:=by
 rw[zN h];rfl
theorem Zy {pos:Pos}{env:Env}:∀{es:List Expr},es.all Wi=true->((backTo pos (starEach es env)).any λx=>x.fst)=false
 | [],_=>rfl
 | e :: es,h=>by
  rw[bc,af]at h;rw[zN h.1];have:=Zy (pos:=pos) (env:=env) h.2;show (false || ((backTo pos (starEach es env)).any λx=>x.fst))=false
  rw[this];rfl
open PySem PySem.Spec PyProof.Rows L2
abbrev Sg:=L2.St
inductive T where
 | non | bl (b:Bool) | int (i:Int) | str (x:Str) | tup (xs:List T) | lst (xs:List T) | fz (xs:List T)
inductive R (α:Type) where
 | ok (a:α) | ex (c:Nat) | bad
def R.bind {α β:Type}(r:R α)(f:α->R β):R β:=match r with
 | .ok a=>f a
 | .ex c=> .ex c
 | .bad=> .bad
mutual
inductive Rep (H:Hp):V->T->Prop where
 | non:Rep H .non .non
 | bl (b:Bool):Rep H (.bl b) (.bl b)
 | int (i:Int):Rep H (.int i) (.int i)
 | str (x:Str):Rep H (.str x) (.str x)
 | tup {a:Addr} {xs:List V} {ts:List T}:H a=some (.tup xs)->zH H xs ts->Rep H (.ref a) (.tup ts)
 | lst {a:Addr} {xs:List V} {ts:List T}:H a=some (.lst xs)->zH H xs ts->Rep H (.ref a) (.lst ts)
 | fz {a:Addr} {o:Obj} {xs:List V} {ts:List T}:H a=some (.frz o (.lst xs))->zH H xs ts->Rep H (.ref a) (.fz ts)
inductive zH (H:Hp):List V->List T->Prop where
 | nil:zH H [] []
 | cons {v:V} {t:T} {vs:List V} {ts:List T}:Rep H v t->zH H vs ts->zH H (v :: vs) (t :: ts)
end
mutual
theorem Rep.mono {H H' :Hp}(s:zw H H'):∀{v:V} {t:T},Rep H v t->Rep H' v t
 | _,_,.non=> .non
 | _,_,.bl b=> .bl b
 | _,_,.int i=> .int i
 | _,_,.str x=> .str x
 | _,_,.tup h r=> .tup (s _ _ h) (zH.mono s r)
 | _,_,.lst h r=> .lst (s _ _ h) (zH.mono s r)
 | _,_,.fz h r=> .fz (s _ _ h) (zH.mono s r)
theorem zH.mono {H H' :Hp}(s:zw H H'):∀{v:List V} {t:List T},zH H v t->zH H' v t
 | _,_,.nil=> .nil
 | _,_,.cons h r=> .cons (Rep.mono s h) (zH.mono s r)
end
theorem zH.length {H:Hp}:∀{vs:List V} {ts:List T},zH H vs ts->vs.length=ts.length
 | _,_,.nil=>rfl
 | _,_,.cons _ r=>congrArg (·+1) (zH.length r)
theorem zH.get {H:Hp}:∀{vs:List V} {ts:List T} {i:Nat} {t:T},zH H vs ts->ts[i]? =some t->∃v,vs[i]? =some v/\Rep H v t
 | _,_,_,_,.nil,e=>by simp at e
 | _,_,0,_,.cons r _,e=>by simp at e;subst e;exact⟨_,rfl,r⟩
 | _,_,i+1,t,.cons _ q,e=>by
  obtain⟨v,h1,h2⟩:=zH.get (i:=i) (t:=t) q (by simpa using e)
  exact⟨v,by simpa using h1,h2⟩
theorem zH.getV {H:Hp}:∀{vs:List V} {ts:List T} {i:Nat} {v:V},zH H vs ts->vs[i]? =some v->∃t,ts[i]? =some t/\Rep H v t
 | _,_,_,_,.nil,e=>by simp at e
 | _,_,0,_,.cons r _,e=>by simp at e;subst e;exact⟨_,rfl,r⟩
 | _,_,i+1,v,.cons _ q,e=>by
  obtain⟨t,h1,h2⟩:=zH.getV (i:=i) (v:=v) q (by simpa using e)
  exact⟨t,by simpa using h1,h2⟩
theorem zH.append {H:Hp}:∀{vs ws:List V} {ts us:List T},zH H vs ts->zH H ws us->zH H (vs++ws) (ts++us)
 | _,_,_,_,.nil,q=>q
 | _,_,_,_,.cons r t,q=> .cons r (zH.append t q)
theorem zH.take {H:Hp}:∀{vs:List V} {ts:List T} (n:Nat),zH H vs ts->zH H (vs.take n) (ts.take n)
 | _,_,0,_=> .nil
 | _,_,_+1,.nil=> .nil
 | _,_,n+1,.cons r t=> .cons r (zH.take n t)
theorem zH.drop {H:Hp}:∀{vs:List V} {ts:List T} (n:Nat),zH H vs ts->zH H (vs.drop n) (ts.drop n)
 | _,_,0,r=>r
 | _,_,_+1,.nil=> .nil
 | _,_,n+1,.cons _ t=>zH.drop n t
theorem zH.rep {H:Hp}{vs:List V}{ts:List T}(h:zH H vs ts):∀n:Nat,zH H (ag n vs).flatten (ag n ts).flatten
 | 0=> .nil
 | n+1=>by
  rw[aU,aU,bU,bU];exact h.append (zH.rep h n)
theorem zH.nil_iff {H:Hp}{vs:List V}{ts:List T}(h:zH H vs ts):vs=[]↔ts=[]:=by
 cases h <;> simp
def zV (B H H' :Hp):Hp:=λb=>match H b with
 | none=>H' b
 | some _=>B b
theorem Zc {B H H' :Hp}{b:Addr}(h:H b=none):zV B H H' b=H' b:=by unfold zV;rw[h]
theorem Ze {B H H' :Hp}{b:Addr}{o:HO}(h:H b=some o):zV B H H' b=B b:=by unfold zV;rw[h]
theorem zV.ge {B H H' :Hp}(s:zw B H)(s' :zw H H'):zw B (zV B H H'):=λb o h=>by
 rw[Ze (s b o h)];exact h
theorem zV.le {B H H' :Hp}(s:zw B H)(s' :zw H H'):zw (zV B H H') H' :=λb o h=>by
 cases q:H b with
 | none=>rw[Zc q]at h;exact h
 | some u=>rw[Ze q]at h;exact s' b o (s b o h)
theorem zV.self (B H:Hp)(s:zw B H):zV B H H=B:=by
 funext b
 cases q:H b with
 | none=>
  rw[Zc q,q];cases z:B b with
  | none=>rfl
  | some o=>rw[s b o z]at q;cases q
 | some u=>rw[Ze q]
theorem zV.trans {B H H1 H2:Hp}(s1:zw H H1)(s2:zw H1 H2):zV (zV B H H1) H1 H2=zV B H H2:=by
 funext b
 cases q:H b with
 | none=>
  rw[Zc q];cases z:H1 b with
  | none=>rw[Zc z]
  | some o=>rw[Ze z,Zc q,z,s2 b o z]
 | some u=>rw[Ze q,Ze (s1 b u q),Ze q]
inductive Sl where
 | un | vl (t:T) | ow (ts:List T) | xc (c:Nat)
abbrev En:=List Sl
structure Fx where
 B0:Hp
 H0:Hp
 E:XK
 cl:Nat->Value
structure SI (Y:Fx) (B:Hp) (ρ:En) (σ:Sg) (H:Hp):Prop where
 s0:zw Y.B0 Y.H0
 sH:zw Y.H0 H
 sB:zw B H
 old:∀b o,Y.H0 b=some o->B b=Y.B0 b
 len:ρ.length=σ.length
 vl:∀(i:Nat) (t:T),ρ[i]? =some (Sl.vl t)->∃v:V,σ[i]? =some (some v)/\Rep B v t
 ow:∀(i:Nat) (ts:List T),ρ[i]? =some (Sl.ow ts)->∃(a:Addr) (xs:List V),σ[i]? =some (some (V.ref a))/\B a=none/\Y.H0 a=none/\H a=some (.lst xs)/\zH B xs ts/\
  ∀(j:Nat) (us:List T),j ≠ i->ρ[j]? =some (Sl.ow us)->σ[j]? ≠ some (some (V.ref a))
 xc:∀(i:Nat) (c:Nat),ρ[i]? =some (Sl.xc c)->∃a:Addr,σ[i]? =some (some (V.ref a))/\B a=some (.ext (u0 (Y.cl c) a))
theorem SI.grow {Y:Fx}{B:Hp}{ρ:En}{σ:Sg}{H H' :Hp}(I:SI Y B ρ σ H)(s:zw H H'):SI Y (zV B H H') ρ σ H' where
 s0:=I.s0
 sH:=I.sH.trans s
 sB:=zV.le I.sB s
 old:=λb o h=>by rw[Ze (I.sH b o h)];exact I.old b o h
 len:=I.len
 vl:=λi t h=>let ⟨v,e,r⟩:=I.vl i t h;⟨v,e,r.mono (zV.ge I.sB s)⟩
 ow:=λi ts h=>let ⟨a,xs,e,b,h0,hh,r,d⟩:=I.ow i ts h;⟨a,xs,e,by rw[Ze hh];exact b,h0,s _ _ hh,r.mono (zV.ge I.sB s),d⟩
 xc:=λi c h=>let ⟨a,e,r⟩:=I.xc i c h;⟨a,e,zV.ge I.sB s a _ r⟩
def XP (Y:Fx)(B:Hp)(c:Nat):Prop:=∀(d:Option Addr) (H' :Hp),zw Y.H0 H' ->zw B H' ->Y.E (Y.cl c) d H'
def Po {α β:Type}(Y:Fx)(rel:Hp->Hp->β->α->Prop)(B H:Hp)(r:R α)(Q:β->Hp->Prop):Prop:=match r with
 | .ok a=>∀b H',zw H H' ->rel (zV B H H') H' b a->Q b H'
 | .ex c=>XP Y B c
 | .bad=>False
abbrev rC:Hp->Hp->V->T->Prop:=λB _ v t=>Rep B v t
abbrev rB:Hp->Hp->V->T->Prop:=λ_ H v t=>Rep H v t
abbrev rCs:Hp->Hp->List V->List T->Prop:=λB _ v t=>zH B v t
abbrev rE {α:Type}:Hp->Hp->α->α->Prop:=λ_ _ a b=>a=b
def tS {α β:Type}(Y:Fx)(rel:Hp->Hp->β->α->Prop)(f:En->R α)(ρ:En):Sg->Hp->(β->Hp->Prop)->Prop:=λσ H Q=>∃B,SI Y B ρ σ H/\Po Y rel B H (f ρ) Q
structure Snd (X:Cx) (Y:Fx) (e:Expr) (f:En->R T):Prop where
 mk ::
 go:∀ρ,PE X e (tS Y rC f ρ)
instance {X:Cx}{Y:Fx}{e:Expr}{f:En->R T}:CoeFun (Snd X Y e f) λ_=>∀ρ,PE X e (tS Y rC f ρ):=⟨Snd.go⟩
structure jw (X:Cx) (Y:Fx) (e:Expr) (f:En->R T):Prop where
 mk ::
 go:∀ρ,PE X e (tS Y rB f ρ)
instance {X:Cx}{Y:Fx}{e:Expr}{f:En->R T}:CoeFun (jw X Y e f) λ_=>∀ρ,PE X e (tS Y rB f ρ):=⟨jw.go⟩
structure Wj (X:Cx) (Y:Fx) (e:Expr) (f:En->R Bool):Prop where
 mk ::
 go:∀ρ,PT X e (tS Y rE f ρ)
instance {X:Cx}{Y:Fx}{e:Expr}{f:En->R Bool}:CoeFun (Wj X Y e f) λ_=>∀ρ,PT X e (tS Y rE f ρ):=⟨Wj.go⟩
structure Wk (X:Cx) (Y:Fx) (es:List Expr) (f:En->R (List T)):Prop where
 mk ::
 go:∀ρ,PA X es (tS Y rCs f ρ)
instance {X:Cx}{Y:Fx}{es:List Expr}{f:En->R (List T)}:CoeFun (Wk X Y es f) λ_=>∀ρ,PA X es (tS Y rCs f ρ):=⟨Wk.go⟩
theorem step {α α' β β' :Type}{Y:Fx}{rel:Hp->Hp->β->α->Prop}{rel' :Hp->Hp->β' ->α' ->Prop}{f:En->R α}{k:α->R α'}{ρ:En}{B:Hp}{σ:Sg}{H:Hp}{Q:β' ->Hp->Prop}{K:β->Hp->Prop}
  (I:SI Y B ρ σ H) (h:Po Y rel' B H ((f ρ).bind k) Q)
  (n:∀a b H1,f ρ= .ok a->zw H H1->rel (zV B H H1) H1 b a->SI Y (zV B H H1) ρ σ H1->Po Y rel' (zV B H H1) H1 (k a) Q->K b H1):tS Y rel f ρ σ H K:=by
 refine⟨B,I, ?_⟩;cases e:f ρ with
 | bad=>rw[e]at h;exact h
 | ex c=>rw[e]at h;exact h
 | ok a=>
  rw[e]at h;intro b H1 s r;refine n a b H1 e s r (I.grow s) ?_;have h' :Po Y rel' B H (k a) Q:=h;revert h';cases k a with
  | bad=>exact λh' =>h'
  | ex c=>exact λh' d H' s0 sB' =>h' d H' s0 ((zV.ge I.sB s).trans sB')
  | ok a' =>exact λh' b' H2 s2 r2=>h' b' H2 (s.trans s2) (by rw[← zV.trans s s2];exact r2)
theorem ZP {α β:Type}{Y:Fx}{rel:Hp->Hp->β->α->Prop}{ρ:En}{B:Hp}{σ:Sg}{H:Hp}{a:α}{b:β}{Q:β->Hp->Prop}(I:SI Y B ρ σ H)(h:Po Y rel B H (.ok a) Q)(r:rel B H b a):Q b H:=h b H (zw.refl H) (by rw[zV.self B H I.sB];exact r)
theorem Snd.b {X:Cx}{Y:Fx}{e:Expr}{f:En->R T}(h:Snd X Y e f):jw X Y e f:= .mk λρ=>PE.imp (h ρ) λσ H Q ⟨B,I,q⟩=>⟨B,I,by
 revert q;cases f ρ with
 | bad=>exact λq=>q
 | ex c=>exact λq=>q
 | ok a=>exact λq b H' s r=>q b H' s (r.mono (zV.le I.sB s))⟩
section
variable {X:Cx}{Y:Fx}{a b c:Expr}{fa fb fc:En->R T}{pos:Pos}
def vE (i:Nat):En->R T:=λρ=>match ρ[i]? with
 | some (.vl t)=> .ok t
 | _=> .bad
def vB (i:Nat):En->R T:=λρ=>match ρ[i]? with
 | some (.vl t)=> .ok t
 | some (.ow ts)=> .ok (.lst ts)
 | _=> .bad
def cE (t:T):En->R T:=λ_=> .ok t
theorem G4 (i:Nat){x:Str}(h:PE X (.Name x pos) (UN i)):Snd X Y (.Name x pos) (vE i):= .mk λρ=>PE.imp h λσ H Q ⟨B,I,q⟩=>by
 unfold vE at q;split at q
 ·rename_i t e;obtain⟨v,e1,r⟩:=I.vl i t e;exact⟨v,e1,ZP I q r⟩
 ·exact q.elim
theorem XQ (i:Nat){x:Str}(h:PE X (.Name x pos) (UN i)):jw X Y (.Name x pos) (vB i):= .mk λρ=>PE.imp h λσ H Q ⟨B,I,q⟩=>by
 unfold vB at q;split at q
 ·rename_i t e;obtain⟨v,e1,r⟩:=I.vl i t e;exact⟨v,e1,ZP I q (r.mono I.sB)⟩
 ·rename_i ts e;obtain⟨a,xs,e1,_,_,hh,r,_⟩:=I.ow i ts e;exact⟨.ref a,e1,ZP I q (.lst hh (r.mono I.sB))⟩
 ·exact q.elim
theorem G5 {i j}:Snd X Y (.Constant (.int i) j pos) (cE (.int i)):= .mk λρ=>PE.imp QS λσ H Q ⟨B,I,q⟩=>ZP I q (.int i)
theorem s_bl {i j}:Snd X Y (.Constant (.bool i) j pos) (cE (.bl i)):= .mk λρ=>PE.imp gF λσ H Q ⟨B,I,q⟩=>ZP I q (.bl i)
theorem G6 {j}:Snd X Y (.Constant .none j pos) (cE .non):= .mk λρ=>PE.imp QT λσ H Q ⟨B,I,q⟩=>ZP I q .non
theorem XR {i j}:Snd X Y (.Constant (.str i) j pos) (cE (.str i)):= .mk λρ=>PE.imp QU λσ H Q ⟨B,I,q⟩=>ZP I q (.str i)
def zc:En->R (List T):=λ_=> .ok []
def z9 (f:En->R T)(g:En->R (List T)):En->R (List T):=λρ=>(f ρ).bind λt=>(g ρ).bind λts=> .ok (t :: ts)
theorem XS:Wk X Y [] zc:= .mk λρ=>PA.imp Za λσ H Q ⟨B,I,q⟩=>ZP I q .nil
theorem QZ {es:List Expr}{g:En->R (List T)}(h:Snd X Y a fa)(hs:Wk X Y es g)(hq:starEach (a :: es) X.env=(false,eval a X.env) :: starEach es X.env:=by exact zN rfl):Wk X Y (a :: es) (z9 fa g):= .mk λρ=>
 PA.imp (zu (h ρ) (hs ρ) hq) λσ H Q ⟨B,I,q⟩=>step I q λt v H1 _ s1 r1 I1 q1=>step I1 q1 λts vs H2 _ s2 r2 I2 q2=>ZP I2 q2 (.cons (r1.mono (zV.ge I1.sB s2)) r2)
theorem zw.new {H:Hp}{p:Addr}(h:H p=none)(o:HO):zw H (upd H p o):=λb u q=>by rw[zy (zT q h)];exact q
theorem j9 {B H:Hp}{p:Addr}(h:H p=none)(o:HO):zV B H (upd H p o) p=some o:=by rw[Zc h,zU]
def bnd:Nat:=16777216
theorem ZX {n:Nat}(h:n<=bnd):n<=sizeLine:=by rw[bS];exact h
def zp (g:En->R (List T)):En->R T:=λρ=>(g ρ).bind λts=>if ts.length<=bnd then .ok (.tup ts) else .bad
def Zp (g:En->R (List T)):En->R T:=λρ=>(g ρ).bind λts=>if ts.length<=bnd then .ok (.lst ts) else .bad
theorem Ve {ρ:En}{σ:Sg}{B H:Hp}{xs:List V}{ts:List T}(I:SI Y B ρ σ H)(r:zH B xs ts){p:Addr}(h:H p=none):Rep (zV B H (upd H p (.tup xs))) (.ref p) (.tup ts):=
 .tup (j9 h _) (r.mono (zV.ge I.sB (zw.new h _)))
theorem Vf {ρ:En}{σ:Sg}{B H:Hp}{xs:List V}{ts:List T}(I:SI Y B ρ σ H)(r:zH B xs ts){p:Addr}(h:H p=none):Rep (zV B H (upd H p (.lst xs))) (.ref p) (.lst ts):=
 .lst (j9 h _) (r.mono (zV.ge I.sB (zw.new h _)))
theorem G7 {es:List Expr}{g:En->R (List T)}{x1}(h:Wk X Y es g):Snd X Y (.Tuple es x1 pos) (zp g):= .mk λρ=>PE.imp (Xy (h ρ)) λσ H Q ⟨B,I,q⟩=>
 step I q λts vs H1 _ s1 r1 I1 q1=>by
  split at q1
  ·rename_i hb;refine⟨by rw[r1.length];exact ZX hb,λp hp=>q1 _ _ (zw.new hp _) (Ve I1 r1 hp)⟩
  ·exact q1.elim
theorem G8 {es:List Expr}{g:En->R (List T)}(h:Wk X Y es g):Snd X Y (.List es pos) (Zp g):= .mk λρ=>PE.imp (y7 (h ρ)) λσ H Q ⟨B,I,q⟩=>
 step I q λts vs H1 _ s1 r1 I1 q1=>by
  split at q1
  ·rename_i hb;refine⟨by rw[r1.length];exact ZX hb,λp hp=>q1 _ _ (zw.new hp _) (Vf I1 r1 hp)⟩
  ·exact q1.elim
end
end PV
namespace PV
open PySem PySem.Spec PyProof.Rows L2
def eqL (f:T->T->Option Bool):List T->List T->Option Bool
 | [],[]=>some true
 | [],_ :: _=>some false
 | _ :: _,[]=>some false
 | x :: xs,y :: ys=>match f x y with
  | none=>none
  | some b=>match eqL f xs ys with
   | none=>none
   | some c=>some (b && c)
def b2 (b:Bool):Int:=if b then 1 else 0
def eqF:Nat->T->T->Option Bool
 | _,.non,.non=>some true
 | _,.bl a,.bl b=>some (a == b)
 | _,.bl a,.int j=>some (b2 a == j)
 | _,.int i,.bl b=>some (i == b2 b)
 | _,.int i,.int j=>some (i == j)
 | _,.str x,.str y=>some (x == y)
 | n+1,.tup xs,.tup ys=>eqL (eqF n) xs ys
 | n+1,.lst xs,.lst ys=>eqL (eqF n) xs ys
 | n+1,.fz xs,.lst ys=>eqL (eqF n) xs ys
 | n+1,.lst xs,.fz ys=>eqL (eqF n) xs ys
 | n+1,.fz xs,.fz ys=>eqL (eqF n) xs ys
 | 0,.tup _,.tup _=>none
 | 0,.lst _,.lst _=>none
 | 0,.fz _,.lst _=>none
 | 0,.lst _,.fz _=>none
 | 0,.fz _,.fz _=>none
 | _,.non,_=>some false
 | _,.bl _,_=>some false
 | _,.int _,_=>some false
 | _,.str _,_=>some false
 | _,.tup _,_=>some false
 | _,.lst _,_=>some false
 | _,.fz _,_=>some false
mutual
theorem Rep.fn {H:Hp}:∀{v:V} {t t' :T},Rep H v t->Rep H v t' ->t=t'
 | _,_,_,.non,.non=>rfl
 | _,_,_,.bl _,.bl _=>rfl
 | _,_,_,.int _,.int _=>rfl
 | _,_,_,.str _,.str _=>rfl
 | _,_,_,.tup h r,.tup h' r' =>by
  rw[h]at h';cases h';rw[zH.fn r r']
 | _,_,_,.tup h r,.lst h' r' =>by rw[h]at h';cases h'
 | _,_,_,.tup h r,.fz h' r' =>by rw[h]at h';cases h'
 | _,_,_,.lst h r,.tup h' r' =>by rw[h]at h';cases h'
 | _,_,_,.lst h r,.lst h' r' =>by
  rw[h]at h';cases h';rw[zH.fn r r']
 | _,_,_,.lst h r,.fz h' r' =>by rw[h]at h';cases h'
 | _,_,_,.fz h r,.tup h' r' =>by rw[h]at h';cases h'
 | _,_,_,.fz h r,.lst h' r' =>by rw[h]at h';cases h'
 | _,_,_,.fz h r,.fz h' r' =>by
  rw[h]at h';cases h';rw[zH.fn r r']
theorem zH.fn {H:Hp}:∀{v:List V} {t t' :List T},zH H v t->zH H v t' ->t=t'
 | _,_,_,.nil,.nil=>rfl
 | _,_,_,.cons h r,.cons h' r' =>by rw[Rep.fn h h',zH.fn r r']
end
theorem Zz {f:T->T->Option Bool}(hf:∀x b,f x x=some b->b=true):∀(xs:List T) (b:Bool),eqL f xs xs=some b->b=true
 | [],b,h=>by
  have h' :some true=some b:=h;cases h';rfl
 | x :: xs,b,h=>by
  unfold eqL at h;cases e:f x x with
  | none=>rw[e]at h;cases h
  | some c=>
   rw[e]at h;cases e' :eqL f xs xs with
   | none=>rw[e']at h;cases h
   | some d=>
    rw[e']at h;cases h;rw[hf x c e,Zz hf xs d e'];rfl
theorem Zk:∀(n:Nat) (t:T) (b:Bool),eqF n t t=some b->b=true
 | n,.non,b,h=>by unfold eqF at h;cases h;rfl
 | n,.bl x,b,h=>by unfold eqF at h;cases h;simp
 | n,.int x,b,h=>by unfold eqF at h;cases h;simp
 | n,.str x,b,h=>by unfold eqF at h;cases h;simp
 | 0,.tup x,b,h=>by unfold eqF at h;cases h
 | 0,.lst x,b,h=>by unfold eqF at h;cases h
 | 0,.fz x,b,h=>by unfold eqF at h;cases h
 | n+1,.tup x,b,h=>by unfold eqF at h;exact Zz (Zk n) x b h
 | n+1,.lst x,b,h=>by unfold eqF at h;exact Zz (Zk n) x b h
 | n+1,.fz x,b,h=>by unfold eqF at h;exact Zz (Zk n) x b h
theorem yh {f:T->T->Option Bool}:∀{xs ys:List T} {b:Bool},eqL f xs ys=some b->
  ∃e:Nat->Bool,(∀j x y,xs[j]? =some x->ys[j]? =some y->f x y=some (e j))/\((aC (min xs.length ys.length)).all e && xs.length == ys.length)=b
 | [],[],b,h=>by
  have h' :some true=some b:=h;cases h';exact⟨λ_=>true,λj x y h=>by simp at h,by simp⟩
 | [],y :: ys,b,h=>by
  have h' :some false=some b:=h;cases h';exact⟨λ_=>true,λj x y h=>by simp at h,by simp⟩
 | x :: xs,[],b,h=>by
  have h' :some false=some b:=h;cases h';exact⟨λ_=>true,λj x y h h' =>by simp at h',by simp⟩
 | x :: xs,y :: ys,b,h=>by
  unfold eqL at h;cases e:f x y with
  | none=>rw[e]at h;cases h
  | some c=>
   rw[e]at h;cases e' :eqL f xs ys with
   | none=>rw[e']at h;cases h
   | some d=>
    rw[e']at h;cases h;obtain⟨g,h1,h2⟩:=yh e';refine⟨λj=>match j with | 0=>c | j+1=>g j,λj u v hu hv=> ?_, ?_⟩
    ·cases j with
     | zero=>simp at hu hv;subst hu hv;exact e
     | succ j=>exact h1 j u v (by simpa using hu) (by simpa using hv)
    ·have z:min (x :: xs).length (y :: ys).length=min xs.length ys.length+1:=by simp only[al];omega
     rw[z,cF,bc,i9];have z2:((x :: xs).length == (y :: ys).length)=(xs.length == ys.length):=by simp
     rw[z2,← h2,Bool.and_assoc];rfl
section
variable {X:Cx}{pins:List (Addr×Obj)}{σ:Sg}{H:Hp}{s:Shared}
theorem ZU {a:Addr}{xs:List V}{ts:List T}(I:L2.Inv X pins σ H s)(h:H a=some (.tup xs))(r:zH H xs ts):∃its:List Value,Vals xs its/\s.heap.IsTuple a its.toArray/\ts.length=its.length/\xs.length<=sizeLine:=by
 obtain⟨its,rv,p,z⟩:=I.tuple (SqT.of h);exact⟨its,rv,p,by rw[← r.length];exact rv.length,z⟩
theorem zZ {a:Addr}{xs:List V}{ts:List T}(I:L2.Inv X pins σ H s)(h:Rd H a (.lst xs))(r:zH H xs ts):∃its:List Value,Vals xs its/\s.heap.IsList a its.toArray/\ts.length=its.length/\xs.length<=sizeLine:=by
 obtain⟨its,rv,p,z⟩:=I.list (.inl h);exact⟨its,rv,p.isList,by rw[← r.length];exact rv.length,z⟩
end
abbrev EqN (A:Around)(s:Shared)(u u' :Value)(b:Bool):Prop:=cK A s u u' b/\fw A s u u' b/\dw A s u u' (!b)
section
variable {X:Cx}{pins:List (Addr×Obj)}{σ:Sg}{H:Hp}{s:Shared}
theorem yi {xs ys:List V}{ts us:List T}{its its' :List Value}{A:Around}{f:T->T->Option Bool}{e:Nat->Bool}(r:zH H xs ts)(r' :zH H ys us)(v:Vals xs its)(v' :Vals ys its')
  (he:∀(j:Nat) (x y:T),ts[j]? =some x->us[j]? =some y->f x y=some (e j))
  (ih:∀(x y:T) (b:Bool) (p q:V) (u w:Value),f x y=some b->Rep H p x->Rep H q y->RelV p u->RelV q w->EqN A s u w b) (j:Nat) (h1:j < its.toArray.size) (h2:j < its'.toArray.size):
  cK A s its.toArray[j] its'.toArray[j] (e j):=by
 have l1:=v.length;have l2:=v'.length;have m1:=r.length;have m2:=r'.length;have k1:j < xs.length:=by simp at h1;omega
 have k2:j < ys.length:=by simp at h2;omega
 obtain⟨t,et,rt⟩:=r.getV (ad k1);obtain⟨t',et',rt'⟩:=r'.getV (ad k2);obtain⟨u,eu,ru⟩:=v.get (ad k1);obtain⟨u',eu',ru'⟩:=v'.get (ad k2);have q1:its.toArray[j]=u:=by
  have:its[j]? =some its.toArray[j]:=by simp at h1 ⊢
  rw[eu]at this;exact(aR this).symm
 have q2:its'.toArray[j]=u' :=by
  have:its'[j]? =some its'.toArray[j]:=by simp at h2 ⊢
  rw[eu']at this;exact(aR this).symm
 rw[q1,q2];exact(ih t t' (e j) _ _ u u' (he j t t' et et') rt rt' ru ru').1
theorem Vg {A:Around}{a c:Addr}{xs ys:List V}{ts us:List T}{b:Bool}{f:T->T->Option Bool}(I:L2.Inv X pins σ H s)(hu:A.units < cLine)(ha:H a=some (.tup xs))(hc:H c=some (.tup ys))(r:zH H xs ts)(r' :zH H ys us)
  (hb:eqL f ts us=some b) (hr:∀x b,f x x=some b->b=true)
  (ih:∀(x y:T) (b:Bool) (p q:V) (u w:Value),f x y=some b->Rep H p x->Rep H q y->RelV p u->RelV q w->EqN A.in1 s u w b):EqN A s (.ref a) (.ref c) b:=by
 obtain⟨its,v,p,l,_⟩:=ZU I ha r;obtain⟨its',v',p',l',_⟩:=ZU I hc r';obtain⟨e,he,hb'⟩:=yh hb;have hp:=yi (A:=A.in1) r r' v v' he ih;have z:((aC (min its.toArray.size its'.toArray.size)).all e && its.toArray.size == its'.toArray.size)=b:=by
  rw[← hb'];simp[l,l']
 have R:=fw.tuples p p' hu hp;have N:=dw.tuples p p' hu hp;rw[z]at R;have N' :dw A s (.ref a) (.ref c) (!b):=by
  rw[← z];exact N
 refine⟨?_,R,N'⟩
 by_cases hac:a=c
 ·subst hac;rw[ha]at hc;cases hc;have:=r.fn r';subst this;rw[Zz hr ts b hb];exact iF _
 ·exact hJ hac R
theorem wF {A:Around}{a c:Addr}{xs ys:List V}{ts us:List T}{b:Bool}{f:T->T->Option Bool}(I:L2.Inv X pins σ H s)(hu:A.units < cLine)(ha:Rd H a (.lst xs))(hc:Rd H c (.lst ys))(r:zH H xs ts)(r' :zH H ys us)
  (hb:eqL f ts us=some b) (hr:∀x b,f x x=some b->b=true)
  (ih:∀(x y:T) (b:Bool) (p q:V) (u w:Value),f x y=some b->Rep H p x->Rep H q y->RelV p u->RelV q w->EqN A.in1 s u w b):EqN A s (.ref a) (.ref c) b:=by
 obtain⟨its,v,p,l,_⟩:=zZ I ha r;obtain⟨its',v',p',l',_⟩:=zZ I hc r';obtain⟨e,he,hb'⟩:=yh hb;have hp:=yi (A:=A.in1) r r' v v' he ih;have RN:fw A s (.ref a) (.ref c) b/\dw A s (.ref a) (.ref c) (!b):=by
  by_cases hl:its.toArray.size=its'.toArray.size
  ·have z:(aC its.toArray.size).all e=b:=by
    rw[← hb'];have:ts.length=us.length:=by simp at hl;omega
    rw[this];have k:its.toArray.size=us.length:=by simp;omega
    rw[k];simp
   have R:=fw.lists p p' hl hu hp;have N:=dw.lists p p' hl hu hp;rw[z]at R;refine⟨R, ?_⟩;rw[← z];exact N
  ·have hl' :(its.toArray.size != its'.toArray.size)=true:=by simpa using hl
   have z:b=false:=by
    rw[← hb'];have:¬ ts.length=us.length:=by simp at hl;omega
    simp[this]
   subst z;exact⟨fw.lists_lengths p p' hl' hu,dw.lists_lengths p p' hl' hu⟩
 refine⟨?_,RN.1,RN.2⟩
 by_cases hac:a=c
 ·subst hac;have hxy:xs=ys:=by
   rcases ha with ha | ⟨o,ha⟩ <;> rcases hc with hc | ⟨o',hc⟩ <;> (rw[ha]at hc;cases hc) <;> rfl
  subst hxy;have:=r.fn r';subst this;rw[Zz hr ts b hb];exact iF _
 ·exact hJ hac RN.1
end
section
variable {X:Cx}{pins:List (Addr×Obj)}{σ:Sg}{H:Hp}{s:Shared}
theorem jF {A:Around}:A.in1.units=A.units+1:=rfl
set_option maxHeartbeats 2000000 in
theorem yj (I:L2.Inv X pins σ H s):∀(A:Around),A.units < cLine->∀(x y:T) (b:Bool) (p q:V) (u w:Value),eqF 0 x y=some b->Rep H p x->Rep H q y->RelV p u->RelV q w->EqN A s u w b:=by
 intro A hu x y b p q u w h rp rq ru rw';have hu' :=hu;cases rp with
 | non=>
  obtain rfl:u=Value.none:=ru;cases rq with
  | non=>obtain rfl:w=Value.none:=rw';unfold eqF at h;cases h;exact⟨.same _,.none_none,.none_none⟩
  | bl c=>obtain rfl:w=Value.bool c:=rw';unfold eqF at h;cases h;exact⟨.none_bool _,.none_bool _,.none_bool _⟩
  | int c=>obtain⟨t,rfl⟩:=rw';unfold eqF at h;cases h;exact⟨.none_int _ _,.none_int _ _,.none_int _ _⟩
  | str c=>obtain⟨t,rfl⟩:=rw';unfold eqF at h;cases h;exact⟨.none_str _ _,.none_str _ _,.none_str _ _⟩
  | tup h1 r1=>obtain rfl:w=Value.ref _:=rw';unfold eqF at h;cases h;obtain⟨i,_,p,_⟩:=ZU I h1 r1;exact⟨.none_tuple p hu',.none_tuple p hu',.none_tuple p hu'⟩
  | lst h1 r1=>obtain rfl:w=Value.ref _:=rw';unfold eqF at h;cases h;obtain⟨i,_,p,_⟩:=zZ I (.inl h1) r1;exact⟨.none_list p hu',.none_list p hu',.none_list p hu'⟩
  | fz h1 r1=>obtain rfl:w=Value.ref _:=rw';unfold eqF at h;cases h;obtain⟨i,_,p,_⟩:=zZ I (.inr ⟨_,h1⟩) r1;exact⟨.none_list p hu',.none_list p hu',.none_list p hu'⟩
 | bl d=>
  obtain rfl:u=Value.bool d:=ru;cases rq with
  | non=>obtain rfl:w=Value.none:=rw';unfold eqF at h;cases h;exact⟨.bool_none _,.bool_none _,.bool_none _⟩
  | bl c=>obtain rfl:w=Value.bool c:=rw';unfold eqF at h;cases h;exact⟨.bool_bool _ _,.bool_bool _ _,.bool_bool _ _⟩
  | int c=>obtain⟨t,rfl⟩:=rw';unfold eqF at h;cases h;exact⟨.bool_int _ _ _,.bool_int _ _ _,.bool_int _ _ _⟩
  | str c=>obtain⟨t,rfl⟩:=rw';unfold eqF at h;cases h;exact⟨.bool_str _ _ _,.bool_str _ _ _,.bool_str _ _ _⟩
  | tup h1 r1=>obtain rfl:w=Value.ref _:=rw';unfold eqF at h;cases h;obtain⟨i,_,p,_⟩:=ZU I h1 r1;exact⟨.bool_tuple _ p hu',.bool_tuple _ p hu',.bool_tuple _ p hu'⟩
  | lst h1 r1=>obtain rfl:w=Value.ref _:=rw';unfold eqF at h;cases h;obtain⟨i,_,p,_⟩:=zZ I (.inl h1) r1;exact⟨.bool_list _ p hu',.bool_list _ p hu',.bool_list _ p hu'⟩
  | fz h1 r1=>obtain rfl:w=Value.ref _:=rw';unfold eqF at h;cases h;obtain⟨i,_,p,_⟩:=zZ I (.inr ⟨_,h1⟩) r1;exact⟨.bool_list _ p hu',.bool_list _ p hu',.bool_list _ p hu'⟩
 | int d=>
  obtain⟨t0,rfl⟩:=ru;cases rq with
  | non=>obtain rfl:w=Value.none:=rw';unfold eqF at h;cases h;exact⟨.int_none _ _,.int_none _ _,.int_none _ _⟩
  | bl c=>obtain rfl:w=Value.bool c:=rw';unfold eqF at h;cases h;exact⟨.int_bool _ _ _,.int_bool _ _ _,.int_bool _ _ _⟩
  | int c=>obtain⟨t,rfl⟩:=rw';unfold eqF at h;cases h;exact⟨.int_int _ _ _ _,.int_int _ _ _ _,.int_int _ _ _ _⟩
  | str c=>obtain⟨t,rfl⟩:=rw';unfold eqF at h;cases h;exact⟨.int_str _ _ _ _,.int_str _ _ _ _,.int_str _ _ _ _⟩
  | tup h1 r1=>obtain rfl:w=Value.ref _:=rw';unfold eqF at h;cases h;obtain⟨i,_,p,_⟩:=ZU I h1 r1;exact⟨.int_tuple _ _ p hu',.int_tuple _ _ p hu',.int_tuple _ _ p hu'⟩
  | lst h1 r1=>obtain rfl:w=Value.ref _:=rw';unfold eqF at h;cases h;obtain⟨i,_,p,_⟩:=zZ I (.inl h1) r1;exact⟨.int_list _ _ p hu',.int_list _ _ p hu',.int_list _ _ p hu'⟩
  | fz h1 r1=>obtain rfl:w=Value.ref _:=rw';unfold eqF at h;cases h;obtain⟨i,_,p,_⟩:=zZ I (.inr ⟨_,h1⟩) r1;exact⟨.int_list _ _ p hu',.int_list _ _ p hu',.int_list _ _ p hu'⟩
 | str d=>
  obtain⟨t0,rfl⟩:=ru;cases rq with
  | non=>obtain rfl:w=Value.none:=rw';unfold eqF at h;cases h;exact⟨.str_none _ _,.str_none _ _,.str_none _ _⟩
  | bl c=>obtain rfl:w=Value.bool c:=rw';unfold eqF at h;cases h;exact⟨.str_bool _ _ _,.str_bool _ _ _,.str_bool _ _ _⟩
  | int c=>obtain⟨t,rfl⟩:=rw';unfold eqF at h;cases h;exact⟨.str_int _ _ _ _,.str_int _ _ _ _,.str_int _ _ _ _⟩
  | str c=>obtain⟨t,rfl⟩:=rw';unfold eqF at h;cases h;exact⟨.str_str _ _ _ _,.str_str _ _ _ _,.str_str _ _ _ _⟩
  | tup h1 r1=>obtain rfl:w=Value.ref _:=rw';unfold eqF at h;cases h;obtain⟨i,_,p,_⟩:=ZU I h1 r1;exact⟨.str_tuple _ _ p hu',.str_tuple _ _ p hu',.str_tuple _ _ p hu'⟩
  | lst h1 r1=>obtain rfl:w=Value.ref _:=rw';unfold eqF at h;cases h;obtain⟨i,_,p,_⟩:=zZ I (.inl h1) r1;exact⟨.str_list _ _ p hu',.str_list _ _ p hu',.str_list _ _ p hu'⟩
  | fz h1 r1=>obtain rfl:w=Value.ref _:=rw';unfold eqF at h;cases h;obtain⟨i,_,p,_⟩:=zZ I (.inr ⟨_,h1⟩) r1;exact⟨.str_list _ _ p hu',.str_list _ _ p hu',.str_list _ _ p hu'⟩
 | tup h0 r0=>
  obtain rfl:u=Value.ref _:=ru;obtain⟨i0,_,p0,_⟩:=ZU I h0 r0;cases rq with
  | non=>obtain rfl:w=Value.none:=rw';unfold eqF at h;cases h;exact⟨.tuple_none p0 hu',.tuple_none p0 hu',.tuple_none p0 hu'⟩
  | bl c=>obtain rfl:w=Value.bool c:=rw';unfold eqF at h;cases h;exact⟨.tuple_bool _ p0 hu',.tuple_bool _ p0 hu',.tuple_bool _ p0 hu'⟩
  | int c=>obtain⟨t,rfl⟩:=rw';unfold eqF at h;cases h;exact⟨.tuple_int _ _ p0 hu',.tuple_int _ _ p0 hu',.tuple_int _ _ p0 hu'⟩
  | str c=>obtain⟨t,rfl⟩:=rw';unfold eqF at h;cases h;exact⟨.tuple_str _ _ p0 hu',.tuple_str _ _ p0 hu',.tuple_str _ _ p0 hu'⟩
  | tup h1 r1=>unfold eqF at h;cases h
  | lst h1 r1=>obtain rfl:w=Value.ref _:=rw';unfold eqF at h;cases h;obtain⟨i,_,p,_⟩:=zZ I (.inl h1) r1;exact⟨.tuple_list p0 p hu',.tuple_list p0 p hu',.tuple_list p0 p hu'⟩
  | fz h1 r1=>obtain rfl:w=Value.ref _:=rw';unfold eqF at h;cases h;obtain⟨i,_,p,_⟩:=zZ I (.inr ⟨_,h1⟩) r1;exact⟨.tuple_list p0 p hu',.tuple_list p0 p hu',.tuple_list p0 p hu'⟩
 | lst h0 r0=>
  obtain rfl:u=Value.ref _:=ru;obtain⟨i0,_,p0,_⟩:=zZ I (.inl h0) r0;cases rq with
  | non=>obtain rfl:w=Value.none:=rw';unfold eqF at h;cases h;exact⟨.list_none p0 hu',.list_none p0 hu',.list_none p0 hu'⟩
  | bl c=>obtain rfl:w=Value.bool c:=rw';unfold eqF at h;cases h;exact⟨.list_bool _ p0 hu',.list_bool _ p0 hu',.list_bool _ p0 hu'⟩
  | int c=>obtain⟨t,rfl⟩:=rw';unfold eqF at h;cases h;exact⟨.list_int _ _ p0 hu',.list_int _ _ p0 hu',.list_int _ _ p0 hu'⟩
  | str c=>obtain⟨t,rfl⟩:=rw';unfold eqF at h;cases h;exact⟨.list_str _ _ p0 hu',.list_str _ _ p0 hu',.list_str _ _ p0 hu'⟩
  | tup h1 r1=>obtain rfl:w=Value.ref _:=rw';unfold eqF at h;cases h;obtain⟨i,_,p,_⟩:=ZU I h1 r1;exact⟨.list_tuple p0 p hu',.list_tuple p0 p hu',.list_tuple p0 p hu'⟩
  | lst h1 r1=>unfold eqF at h;cases h
  | fz h1 r1=>unfold eqF at h;cases h
 | fz h0 r0=>
  obtain rfl:u=Value.ref _:=ru;obtain⟨i0,_,p0,_⟩:=zZ I (.inr ⟨_,h0⟩) r0;cases rq with
  | non=>obtain rfl:w=Value.none:=rw';unfold eqF at h;cases h;exact⟨.list_none p0 hu',.list_none p0 hu',.list_none p0 hu'⟩
  | bl c=>obtain rfl:w=Value.bool c:=rw';unfold eqF at h;cases h;exact⟨.list_bool _ p0 hu',.list_bool _ p0 hu',.list_bool _ p0 hu'⟩
  | int c=>obtain⟨t,rfl⟩:=rw';unfold eqF at h;cases h;exact⟨.list_int _ _ p0 hu',.list_int _ _ p0 hu',.list_int _ _ p0 hu'⟩
  | str c=>obtain⟨t,rfl⟩:=rw';unfold eqF at h;cases h;exact⟨.list_str _ _ p0 hu',.list_str _ _ p0 hu',.list_str _ _ p0 hu'⟩
  | tup h1 r1=>obtain rfl:w=Value.ref _:=rw';unfold eqF at h;cases h;obtain⟨i,_,p,_⟩:=ZU I h1 r1;exact⟨.list_tuple p0 p hu',.list_tuple p0 p hu',.list_tuple p0 p hu'⟩
  | lst h1 r1=>unfold eqF at h;cases h
  | fz h1 r1=>unfold eqF at h;cases h
set_option maxHeartbeats 2000000 in
theorem yk (I:L2.Inv X pins σ H s):∀(n:Nat) (A:Around),A.units+n < cLine->∀(x y:T) (b:Bool) (p q:V) (u w:Value),eqF n x y=some b->Rep H p x->Rep H q y->RelV p u->RelV q w->EqN A s u w b:=by
 intro n
 induction n with
 | zero=>exact λA hu x y b p q u w h=>yj I A (by omega) x y b p q u w h
 | succ n ih=>
  intro A hu x y b p q u w h rp rq ru rw';have low:eqF 0 x y=some b->EqN A s u w b:=λh=>yj I A (by omega) x y b p q u w h rp rq ru rw'
  have hu' :A.units < cLine:=by omega
  have ih' :=ih A.in1 (by rw[jF];omega)
  cases rp with
  | tup h0 r0=>
   cases rq with
   | tup h1 r1=>
    obtain rfl:u=Value.ref _:=ru;obtain rfl:w=Value.ref _:=rw';unfold eqF at h;exact Vg I hu' h0 h1 r0 r1 h (Zk n) ih'
   | _=>exact low (by unfold eqF at h ⊢;exact h)
  | lst h0 r0=>
   cases rq with
   | lst h1 r1=>
    obtain rfl:u=Value.ref _:=ru;obtain rfl:w=Value.ref _:=rw';unfold eqF at h;exact wF I hu' (.inl h0) (.inl h1) r0 r1 h (Zk n) ih'
   | fz h1 r1=>
    obtain rfl:u=Value.ref _:=ru;obtain rfl:w=Value.ref _:=rw';unfold eqF at h;exact wF I hu' (.inl h0) (.inr ⟨_,h1⟩) r0 r1 h (Zk n) ih'
   | _=>exact low (by unfold eqF at h ⊢;exact h)
  | fz h0 r0=>
   cases rq with
   | lst h1 r1=>
    obtain rfl:u=Value.ref _:=ru;obtain rfl:w=Value.ref _:=rw';unfold eqF at h;exact wF I hu' (.inr ⟨_,h0⟩) (.inl h1) r0 r1 h (Zk n) ih'
   | fz h1 r1=>
    obtain rfl:u=Value.ref _:=ru;obtain rfl:w=Value.ref _:=rw';unfold eqF at h;exact wF I hu' (.inr ⟨_,h0⟩) (.inr ⟨_,h1⟩) r0 r1 h (Zk n) ih'
   | _=>exact low (by unfold eqF at h ⊢;exact h)
  | _=>exact low (by cases rq <;> (unfold eqF at h ⊢;exact h))
end
section
variable {X:Cx}{Y:Fx}{a b c d:Expr}{fa fb fc fd:En->R T}{pos:Pos}
def rG (Y:Fx)(g:T->T->R T):R2:=λx y H Q=>∃B t t',zw B H/\Rep B x t/\Rep B y t' /\Po Y rC B H (g t t') Q
def zb (g:T->T->R T)(fa fb:En->R T):En->R T:=λρ=>(fa ρ).bind λx=>(fb ρ).bind λy=>g x y
theorem Ul {op:Operator}{g:T->T->R T}(ho:OpR X (binaryOp op) (rG Y g))(ha:Snd X Y a fa)(hb:Snd X Y b fb):Snd X Y (.BinOp a op b pos) (zb g fa fb):= .mk λρ=>
 PE.imp (gR ho (ha ρ) (hb ρ)) λσ H Q ⟨B,I,q⟩=>step I q λt v H1 _ s1 r1 I1 q1=>step I1 q1 λt' v' H2 _ s2 r2 I2 q2=>
  ⟨_,t,t',I2.sB,r1.mono (zV.ge I1.sB s2),r2,q2⟩
theorem po0 {g:R T}{B H:Hp}{Q:VK}{t:T}{v:V}(sB:zw B H)(q:Po Y rC B H g Q)(e:g= .ok t)(r:Rep B v t):Q v H:=by
 subst e;exact q v H (zw.refl H) (by show Rep (zV B H H) v t;rw[zV.self B H sB];exact r)
theorem KS {g:R T}{B H:Hp}{Q:VK}{ts:List T}{xs:List V}{p:Addr}(sB:zw B H)(q:Po Y rC B H g Q)(e:g= .ok (.tup ts))(r:zH B xs ts)(h:H p=none):Q (.ref p) (upd H p (.tup xs)):=by
 subst e;exact q _ _ (zw.new h _) (.tup (j9 h _) (r.mono (zV.ge sB (zw.new h _))))
theorem G9 {g:R T}{B H:Hp}{Q:VK}{ts:List T}{xs:List V}{p:Addr}(sB:zw B H)(q:Po Y rC B H g Q)(e:g= .ok (.lst ts))(r:zH B xs ts)(h:H p=none):Q (.ref p) (upd H p (.lst xs)):=by
 subst e;exact q _ _ (zw.new h _) (.lst (j9 h _) (r.mono (zV.ge sB (zw.new h _))))
def zl:T->T->R T
 | .int i,.int j=> .ok (.int (i+j))
 | .bl x,.int j=> .ok (.int (b2 x+j))
 | .int i,.bl y=> .ok (.int (i+b2 y))
 | .str x,.str y=>if x.length+y.length<=bnd then .ok (.str (x++y)) else .bad
 | .tup xs,.tup ys=>if xs.length+ys.length<=bnd then .ok (.tup (xs++ys)) else .bad
 | .lst xs,.lst ys=>if xs.length+ys.length<=bnd then .ok (.lst (xs++ys)) else .bad
 | _,_=> .bad
theorem qK {prog:Program}{w:World}{A:Around}{E:Value->Shared->Prop}{s:Shared}{t b:Addr}{vs ws:List Value}{Q:Value->Shared->Prop}(ht:IsTup s.heap t vs.toArray)(hb:IsTup s.heap b ws.toArray)(hv:vs=[])
  (h1:Q (.ref b) s):wpAny (model prog w) A (binaryOp .Add (.ref t) (.ref b)) Q E s:=by
 obtain⟨⟨cls,dd,data,sl⟩,ho,hc,n,hd⟩:=id ht;obtain⟨⟨cls2,dd2,data2,sl2⟩,ho2,hc2,n2,hd2⟩:=id hb;simp only at hc hd hc2 hd2;subst hc hd hc2 hd2;exact concat_meets ⟨_,ho,rfl⟩ ⟨_,ho2,rfl⟩ noFill_tuple_add seq_tuple_add dq di (cW _ _)
   (tuple_addW0 t b vs.toArray ws.toArray n n2 dd dd2 sl sl2 (by simp[hv])) ⟨ho,ho2,h1⟩
theorem Vh:OpR X (binaryOp .Add) (rG Y zl):=by
 intro pins s σ H x y v u Q I rx ry h;obtain⟨B,t,t',sB,r,r',q⟩:=h;cases r with
 | int i=>
  cases r' with
  | int j=>exact Xs pins s σ H _ _ v u Q I rx ry ⟨i,j,rfl,rfl,po0 sB q rfl (.int _)⟩
  | bl y=>exact UV pins s σ H _ _ v u Q I rx ry ⟨i,y,rfl,rfl,po0 sB q rfl (.int _)⟩
  | _=>exact q.elim
 | bl x=>
  cases r' with
  | int j=>
   obtain rfl:v=Value.bool x:=rx;obtain⟨tk,rfl⟩:=ry;exact IntBool.add_bool_int (⟨.int _,H,I.tok _,⟨_,rfl⟩,po0 sB q rfl (.int _)⟩)
  | _=>exact q.elim
 | str x=>
  cases r' with
  | str y=>
   by_cases hb:x.length+y.length<=bnd
   ·exact Uf pins s σ H _ _ v u Q I rx ry ⟨x,y,rfl,rfl,ZX hb,po0 sB q (if_pos hb) (.str _)⟩
   ·rw[show zl (.str x) (.str y)= .bad from if_neg hb]at q;exact q.elim
  | _=>exact q.elim
 | @tup a xs ts h1 r1=>
  cases r' with
  | @tup a' ys us h2 r2=>
   by_cases hb:ts.length+us.length<=bnd
   ·have eg:zl (.tup ts) (.tup us)= .ok (.tup (ts++us)):=if_pos hb;have hz:xs.length+ys.length<=sizeLine:=by rw[r1.length,r2.length];exact ZX hb
    by_cases hx:xs=[]
    ·obtain rfl:v=Value.ref a:=rx;obtain rfl:u=Value.ref a' :=ry;obtain⟨its,rv,p,_⟩:=I.tuple (SqT.of (sB _ _ h1));obtain⟨its',rv',p',_⟩:=I.tuple (SqT.of (sB _ _ h2));have et:ts=[]:=r1.nil_iff.mp hx;refine qK p p' (rv.nil_iff.mpr hx) ⟨.ref a',H,I,rfl,po0 sB q eg ?_⟩;rw[et];exact .tup h2 r2
    ·refine V7 pins s σ H _ _ v u Q I rx ry ⟨a,a',xs,ys,rfl,rfl,SqT.of (sB _ _ h1),SqT.of (sB _ _ h2),hx,hz,λhy=> ?_,λhy p hp=> ?_⟩
     ·refine po0 sB q eg ?_;rw[r2.nil_iff.mp hy,ci];exact .tup h1 r1
     ·exact KS sB q eg (r1.append r2) hp
   ·rw[show zl (.tup ts) (.tup us)= .bad from if_neg hb]at q;exact q.elim
  | _=>exact q.elim
 | @lst a xs ts h1 r1=>
  cases r' with
  | @lst a' ys us h2 r2=>
   by_cases hb:ts.length+us.length<=bnd
   ·have eg:zl (.lst ts) (.lst us)= .ok (.lst (ts++us)):=if_pos hb;have hz:xs.length+ys.length<=sizeLine:=by rw[r1.length,r2.length];exact ZX hb
    exact XJ pins s σ H _ _ v u Q I rx ry ⟨a,a',xs,ys,rfl,rfl,sB _ _ h1,sB _ _ h2,hz,λp hp=>G9 sB q eg (r1.append r2) hp⟩
   ·rw[show zl (.lst ts) (.lst us)= .bad from if_neg hb]at q;exact q.elim
  | _=>exact q.elim
 | _=>cases r' <;> exact q.elim
theorem Ga (ha:Snd X Y a fa)(hb:Snd X Y b fb):Snd X Y (.BinOp a .Add b pos) (zb zl fa fb):=Ul Vh ha hb
def jN:T->T->R T
 | .int i,.int j=> .ok (.int (i - j))
 | _,_=> .bad
def jB:T->T->R T
 | .int i,.int j=>if 0 < j then .ok (.int (i % j)) else .bad
 | _,_=> .bad
def Um:T->T->R T
 | .int i,.int j=>if 0 < j/\j < 1073741824 then .ok (.int (i / j)) else .bad
 | _,_=> .bad
instance (i j:Int):Decidable (W3 i j):=by unfold W3;infer_instance
def Z0:T->T->R T
 | .int i,.int j=>if W3 i j then .ok (.int (i*j)) else .bad
 | .lst xs,.int k=>if 0<=k/\k < 1000000/\xs.length*k.toNat<=bnd then .ok (.lst (ag k.toNat xs).flatten) else .bad
 | .tup xs,.int k=>if 2<=k/\k < 1000000/\xs ≠ []/\xs.length*k.toNat<=bnd then .ok (.tup (ag k.toNat xs).flatten) else .bad
 | _,_=> .bad
theorem Vi:OpR X (binaryOp .Sub) (rG Y jN):=by
 intro pins s σ H x y v u Q I rx ry h;obtain⟨B,t,t',sB,r,r',q⟩:=h;cases r with
 | int i=>
  cases r' with
  | int j=>exact Xt pins s σ H _ _ v u Q I rx ry ⟨i,j,rfl,rfl,po0 sB q rfl (.int _)⟩
  | _=>exact q.elim
 | _=>cases r' <;> exact q.elim
theorem Vj:OpR X (binaryOp .Mod) (rG Y jB):=by
 intro pins s σ H x y v u Q I rx ry h;obtain⟨B,t,t',sB,r,r',q⟩:=h;cases r with
 | int i=>
  cases r' with
  | int j=>
   by_cases hj:0 < j
   ·exact Xv pins s σ H _ _ v u Q I rx ry ⟨i,j,rfl,rfl,hj,po0 sB q (if_pos hj) (.int _)⟩
   ·rw[show jB (.int i) (.int j)= .bad from if_neg hj]at q;exact q.elim
  | _=>exact q.elim
 | _=>cases r' <;> exact q.elim
theorem qL:OpR X (binaryOp .FloorDiv) (rG Y Um):=by
 intro pins s σ H x y v u Q I rx ry h;obtain⟨B,t,t',sB,r,r',q⟩:=h;cases r with
 | int i=>
  cases r' with
  | int j=>
   by_cases hj:0 < j/\j < 1073741824
   ·exact V1 pins s σ H _ _ v u Q I rx ry ⟨i,j,rfl,rfl,hj,po0 sB q (if_pos hj) (.int _)⟩
   ·rw[show Um (.int i) (.int j)= .bad from if_neg hj]at q;exact q.elim
  | _=>exact q.elim
 | _=>cases r' <;> exact q.elim
theorem Uo (l:Addr)(items:Array Value)(n:Nat)(dd:Option Addr)(sl:Array (Option Value))(x:Int)(u:Tok)(h1:2<=x)(h2:x < 1000000)(hne:items.isEmpty=false)(hsz:items.size*x.toNat<=sizeLine):
  Meets (Builtin.«tuple.__mul__» ⟨[.ref l,.int x u],[]⟩) (λ_ R s=>s.heap.get? l=some { cls:= .type "tuple",dict:=dd,data:= .seq items n,slots:=sl }/\
   R (.ok (.ret (Value.ref s.heap.objs.size))) { s with heap:=s.heap.push { cls:=Value.type "tuple",data:=Data.seq (dF (λx1 x2=>x1++x2) #[] (ag x.toNat items)) },toks:=s.toks }):=
 .of_wp λprog w A R s h=>by
  obtain⟨hp,g,d,tk,os⟩:=s;obtain⟨hl,h⟩:=h;have f1:=il;have e0:(items.size:Int)*x=((items.size*x.toNat:Nat):Int):=by
   have:x=((x.toNat:Nat):Int):=by omega
   rw[iG,← this]
  have sl1:(sizeLine:Nat)=16777216:=bS;have c1:¬ (decide (x < -(2 ^ 63)) || decide (x ≥ 2 ^ 63))=true:=by simp;omega
  have c2:¬ (items.isEmpty || x == 1)=true:=by simp[hne];omega
  have c3:¬ (decide (x<=0) || items.isEmpty)=true:=by simp[hne];omega
  have c4:¬ ((items.size:Int)*x > (2 ^ 63 - 1) / 8):=by rw[e0];omega
  have c5:¬ dY ((items.size:Int)*x)=true:=by
   unfold dY;rw[e0];intro z;have:=of_decide_eq_true z;omega
  unfold Builtin.«tuple.__mul__»
  wp_walk using wpAny_loadPart' hl
  rw[if_neg c1]
  wp_walk using wpAny_loadPart' hl
  rw[if_neg c2]
  try dsimp only
  rw[if_neg c3]
  try dsimp only
  rw[if_neg c4]
  try dsimp only
  rw[if_neg c5]
  try dsimp only
  have hsz' :sizeOk (.seq (dF (λx1 x2=>x1++x2) #[] (ag x.toNat items))):=by
   show (dF (λx1 x2=>x1++x2) #[] (ag x.toNat items)).size<=sizeLine;have:=jE items.toList x.toNat [];rw[bG]at this;have q:dF (λx1 x2=>x1++x2) #[] (ag x.toNat items)=(ag x.toNat items.toList).flatten.toArray:=by
    simpa using this
   rw[q,av,JC,bu,dt];exact hsz
  exact aa (m:=aX _) (aZ (ak ⟨_,rfl,h⟩) hsz')
theorem J8:seqRepeat? (.type "tuple")=pure (some (.builtin "tuple.__mul__")):=by
 unfold seqRepeat?;rw[im (T:="tuple") (name:="__mul__") (id:="tuple.__mul__") dG.lookup (by decide+kernel),im (T:="tuple") (name:="__rmul__") (id:="tuple.__rmul__") ib.lookup (by decide+kernel)]
 rfl
theorem j3:fillsNumberSlot (.type "tuple") "mul"=pure false:=
 PySem.fillsNumberSlot_seq (id:="tuple.__mul__") (r:=some (.builtin "tuple.__rmul__")) dG.lookup (by decide+kernel) ib.lookup (by decide+kernel)
theorem jr (a:Int)(t:Tok)(l:Addr)(items:Array Value)(n:Nat)(dd:Option Addr)(sl:Array (Option Value)):
  Meets (Builtin.«int.__rmul__» ⟨[.int a t,.ref l],[]⟩) (λ_ R s=>s.heap.get? l=some { cls:= .type "tuple",dict:=dd,data:= .seq items n,slots:=sl }/\R (.ok (.ret Value.notImplemented)) s):=
 .of_wp λprog w A R s h=>by obtain⟨hp,g,d,tk,os⟩:=s;obtain⟨hl,h⟩:=h;wp_walk;exact⟨_,rfl,h⟩
theorem Vk {prog:Program}{w:World}{A:Around}{E:Value->Shared->Prop}{s:Shared}{l:Addr}{its:List Value}{k:Int}{t:Tok}{Q:Value->Shared->Prop}(p:IsTup s.heap l its.toArray)(hne:its ≠ [])(h1:2<=k)(h2:k < 1000000)
  (hsz:its.length*k.toNat<=sizeLine) (q:Q (.ref s.heap.objs.size) { s with heap:=s.heap.push { cls:= .type "tuple",data:= .seq (ag k.toNat its).flatten.toArray } }):
  wpAny (model prog w) A (binaryOp .Mult (.ref l) (.int k t)) Q E s:=by
 obtain⟨⟨cls,dd,data,sl⟩,ho,hc,n,hd⟩:=id p;simp only at hc hd;subst hc hd;refine wpAny_binaryOp_repeat_ref (T:="tuple") (U:="int") (by decide) ⟨_,ho,rfl⟩ (λs' =>dE s' k t) j3 fD cI J8 eX.lookup
  (cD cI (dE s k t) eY (eM _ _) (jr k t l its.toArray n dd sl)
   ⟨ho,rfl,⟨_,ho,rfl⟩,cD dG ⟨_,ho,rfl⟩ ic (hU _ _) (Uo l its.toArray n dd sl k t h1 h2 (by simpa using hne) (by simpa using hsz)) ⟨ho, ?_⟩⟩)
 have:=jE its k.toNat [];rw[bG]at this;rw[this];exact q
theorem yl:OpR X (binaryOp .Mult) (rG Y Z0):=by
 intro pins s σ H x y v u Q I rx ry h;obtain⟨B,t,t',sB,r,r',q⟩:=h;cases r with
 | int i=>
  cases r' with
  | int j=>
   by_cases hj:W3 i j
   ·exact Xu pins s σ H _ _ v u Q I rx ry ⟨i,j,rfl,rfl,hj,po0 sB q (if_pos hj) (.int _)⟩
   ·rw[show Z0 (.int i) (.int j)= .bad from if_neg hj]at q;exact q.elim
  | _=>exact q.elim
 | @lst l xs ts h1 r1=>
  cases r' with
  | int k=>
   by_cases hk:0<=k/\k < 1000000/\ts.length*k.toNat<=bnd
   ·have eg:Z0 (.lst ts) (.int k)= .ok (.lst (ag k.toNat ts).flatten):=if_pos hk;exact XL pins s σ H _ _ v u Q I rx ry ⟨l,k,xs,rfl,rfl,sB _ _ h1,by omega,by omega,by rw[r1.length];exact ZX hk.2.2,λp hp=>G9 sB q eg (r1.rep _) hp⟩
   ·rw[show Z0 (.lst ts) (.int k)= .bad from if_neg hk]at q;exact q.elim
  | _=>exact q.elim
 | @tup l xs ts h1 r1=>
  cases r' with
  | int k=>
   by_cases hk:2<=k/\k < 1000000/\ts ≠ []/\ts.length*k.toNat<=bnd
   ·have eg:Z0 (.tup ts) (.int k)= .ok (.tup (ag k.toNat ts).flatten):=if_pos hk;obtain rfl:v=Value.ref l:=rx;obtain⟨tk,rfl⟩:=ry;obtain⟨its,rv,p,_⟩:=I.tuple (SqT.of (sB _ _ h1));have ln:ts.length=its.length:=r1.length.symm.trans rv.length;have hne:its ≠ []:=λz=>hk.2.2.1 (by rw[z]at ln;exact eZ.mp ln)
    refine Vk p hne hk.1 hk.2.1 (by rw[← ln];exact ZX hk.2.2.2) ⟨.ref s.heap.objs.size,upd H s.heap.objs.size (.tup (ag k.toNat xs).flatten),I.laid (t' :=s.toks) (λb u e=>aj _ e) (am _) ?_,rfl, ?_⟩
    ·exact⟨by rw[JC,r1.length,dt];exact ZX hk.2.2.2,(ag k.toNat its).flatten,rv.rep _,⟨_,ay _ rfl,rfl,_,rfl⟩,.inr ⟨_,ay _ rfl,rfl⟩⟩
    ·exact KS sB q eg (r1.rep _) (I.hok.fresh (am _))
   ·rw[show Z0 (.tup ts) (.int k)= .bad from if_neg hk]at q;exact q.elim
  | _=>exact q.elim
 | _=>cases r' <;> exact q.elim
theorem Gb (ha:Snd X Y a fa)(hb:Snd X Y b fb):Snd X Y (.BinOp a .Sub b pos) (zb jN fa fb):=Ul Vi ha hb
theorem Gc (ha:Snd X Y a fa)(hb:Snd X Y b fb):Snd X Y (.BinOp a .Mod b pos) (zb jB fa fb):=Ul Vj ha hb
theorem XT (ha:Snd X Y a fa)(hb:Snd X Y b fb):Snd X Y (.BinOp a .FloorDiv b pos) (zb Um fa fb):=Ul qL ha hb
theorem Ge (ha:Snd X Y a fa)(hb:Snd X Y b fb):Snd X Y (.BinOp a .Mult b pos) (zb Z0 fa fb):=Ul yl ha hb
def uE (fa:En->R T):En->R T:=λρ=>(fa ρ).bind λx=>match x with
 | .int i=> .ok (.int (-i))
 | _=> .bad
theorem Gf (ha:Snd X Y a fa):Snd X Y (.UnaryOp .USub a pos) (uE fa):= .mk λρ=>PE.imp (Xr QV (ha ρ)) λσ H Q ⟨B,I,q⟩=>step I q λt v H1 _ s1 r1 I1 q1=>by
 cases r1 with
 | int i=>exact⟨i,rfl,po0 I1.sB q1 rfl (.int _)⟩
 | _=>exact q1.elim
def wm (g:T->T->R Bool):R2:=λx y H Q=>∃t t' b,Rep H x t/\Rep H y t' /\g t t' = .ok b/\Q (.bl b) H
def Zi (g:T->T->R Bool)(fa fb:En->R T):En->R T:=λρ=>(fa ρ).bind λx=>(fb ρ).bind λy=>(g x y).bind λb=> .ok (.bl b)
def zi (g:T->T->R Bool)(fa fb:En->R T):En->R Bool:=λρ=>(fa ρ).bind λx=>(fb ρ).bind λy=>g x y
def Nx (g:T->T->R Bool):Prop:=∀t t' c,g t t' ≠ .ex c
theorem qM {op:CmpOp}{g:T->T->R Bool}(nx:Nx g)(ho:OpR X (compareOp op) (wm g))(ha:jw X Y a fa)(hb:jw X Y b fb)(hm:behindInMarks op b=false):Snd X Y (.Compare a [op] [b] pos) (Zi g fa fb):= .mk λρ=>
 PE.imp (V2 ho (ha ρ) (hb ρ) hm) λσ H Q ⟨B,I,q⟩=>step I q λt v H1 _ s1 r1 I1 q1=>step I1 q1 λt' v' H2 _ s2 r2 I2 q2=>by
  cases e:g t t' with
  | bad=>rw[e]at q2;exact q2.elim
  | ex c=>exact absurd e (nx _ _ _)
  | ok b=>rw[e]at q2;exact⟨t,t',b,r1.mono s2,r2,e,ZP I2 q2 (.bl b)⟩
theorem Wl {op:CmpOp}{g:T->T->R Bool}(nx:Nx g)(ho:OpR X (compareOp op) (wm g))(ha:jw X Y a fa)(hb:jw X Y b fb)(hm:behindInMarks op b=false):Wj X Y (.Compare a [op] [b] pos) (zi g fa fb):= .mk λρ=>
 PT.imp (UW ho (ha ρ) (hb ρ) hm) λσ H Q ⟨B,I,q⟩=>step I q λt v H1 _ s1 r1 I1 q1=>step I1 q1 λt' v' H2 _ s2 r2 I2 q2=>by
  cases e:g t t' with
  | bad=>rw[e]at q2;exact q2.elim
  | ex c=>exact absurd e (nx _ _ _)
  | ok b=>rw[e]at q2;exact⟨t,t',b,r1.mono s2,r2,e,b,rfl,ZP I2 q2 rfl⟩
def eqC (t t' :T):R Bool:=match eqF 30 t t' with
 | some b=> .ok b
 | none=> .bad
def neC (t t' :T):R Bool:=match eqF 30 t t' with
 | some b=> .ok (!b)
 | none=> .bad
theorem XU:Nx eqC:=λt t' c h=>by unfold eqC at h;split at h <;> cases h
theorem Gg:Nx neC:=λt t' c h=>by unfold neC at h;split at h <;> cases h
theorem v9 (hu:X.A.units+64 < cLine):OpR X (compareOp .Eq) (wm eqC):=by
 intro pins s σ H x y v u Q I rx ry h;obtain⟨t,t',b,r,r',e,q⟩:=h;unfold eqC at e;split at e
 ·rename_i k ek;have e' :k=b:=by injection e
  subst e';exact(yk I 30 X.A (by omega) t t' k x y v u ek r r' rx ry).2.1 _ _ _ _ ⟨.bl k,H,I,rfl,q⟩
 ·cases e
theorem XV (hu:X.A.units+64 < cLine):OpR X (compareOp .NotEq) (wm neC):=by
 intro pins s σ H x y v u Q I rx ry h;obtain⟨t,t',b,r,r',e,q⟩:=h;unfold neC at e;split at e
 ·rename_i k ek;cases e;exact(yk I 30 X.A (by omega) t t' k x y v u ek r r' rx ry).2.2 _ _ _ _ ⟨.bl (!k),H,I,rfl,q⟩
 ·cases e
def ltC:T->T->R Bool
 | .int i,.int j=> .ok (decide (i < j))
 | _,_=> .bad
def leC:T->T->R Bool
 | .int i,.int j=> .ok (decide (i<=j))
 | .str x,.str y=> .ok (!decide (y.cps.toList < x.cps.toList))
 | _,_=> .bad
def gtC:T->T->R Bool
 | .int i,.int j=> .ok (decide (j < i))
 | _,_=> .bad
theorem Gh:Nx ltC:=λt t' c h=>by unfold ltC at h;split at h <;> cases h
theorem Wm:Nx leC:=λt t' c h=>by unfold leC at h;split at h <;> cases h
theorem XW:Nx gtC:=λt t' c h=>by unfold gtC at h;split at h <;> cases h
theorem XX:OpR X (compareOp .Lt) (wm ltC):=by
 intro pins s σ H x y v u Q I rx ry h;obtain⟨t,t',b,r,r',e,q⟩:=h;unfold ltC at e;split at e
 ·rename_i i j;cases e;cases r;cases r';exact gT pins s σ H _ _ v u Q I rx ry ⟨i,j,rfl,rfl,q⟩
 ·cases e
theorem va:OpR X (compareOp .Gt) (wm gtC):=by
 intro pins s σ H x y v u Q I rx ry h;obtain⟨t,t',b,r,r',e,q⟩:=h;unfold gtC at e;split at e
 ·rename_i i j;cases e;cases r;cases r';exact gW pins s σ H _ _ v u Q I rx ry ⟨i,j,rfl,rfl,q⟩
 ·cases e
theorem J9:OpR X (compareOp .LtE) (wm leC):=by
 intro pins s σ H x y v u Q I rx ry h;obtain⟨t,t',b,r,r',e,q⟩:=h;unfold leC at e;split at e
 ·rename_i i j;cases e;cases r;cases r';exact gU pins s σ H _ _ v u Q I rx ry ⟨i,j,rfl,rfl,q⟩
 ·rename_i i j;cases e;cases r;cases r';obtain⟨t1,rfl⟩:=rx;obtain⟨t2,rfl⟩:=ry;exact PySem.P.le_str ⟨.bl _,H,I,rfl,q⟩
 ·cases e
end
section
variable {X:Cx}{Y:Fx}{a b c d:Expr}{fa fb fc fd:En->R T}{pos:Pos}
def wG (f:T->Option Bool):List T->Option Bool
 | []=>some false
 | t :: r=>match f t with
  | none=>none
  | some b=>match wG f r with
   | none=>none
   | some c=>some (b || c)
def inC (t t' :T):R Bool:=match t' with
 | .tup ys=>match wG (λy=>eqF 30 y t) ys with | some b=> .ok b | none=> .bad
 | .lst ys=>match wG (λy=>eqF 30 y t) ys with | some b=> .ok b | none=> .bad
 | _=> .bad
def qN (t t' :T):R Bool:=(inC t t').bind λb=> .ok (!b)
theorem Vl:Nx inC:=λt t' c h=>by
 unfold inC at h;split at h
 ·split at h <;> cases h
 ·split at h <;> cases h
 ·cases h
theorem XY:Nx qN:=λt t' c h=>by
 unfold qN at h;cases e:inC t t' with
 | bad=>rw[e]at h;cases h
 | ex k=>exact absurd e (Vl _ _ _)
 | ok k=>rw[e]at h;cases h
open Classical in
theorem u3 {H:Hp}(f:T->Option Bool):∃e:Value->Bool,∀(v:V) (t:T) (u:Value) (b:Bool),RelV v u->Rep H v t->f t=some b->e u=b:=by
 refine⟨λu=>decide (∃v t,RelV v u/\Rep H v t/\f t=some true),λv t u b rv r e=> ?_⟩;cases b with
 | true=>exact decide_eq_true ⟨v,t,rv,r,e⟩
 | false=>
  refine decide_eq_false ?_
  rintro⟨v',t',rv',r',e'⟩
  have:=rv.inj rv';subst this;have:=r.fn r';subst this;rw[e]at e';cases e'
theorem ym {H:Hp}{f:T->Option Bool}{e:Value->Bool}(he:∀(v:V) (t:T) (u:Value) (b:Bool),RelV v u->Rep H v t->f t=some b->e u=b):∀{xs:List V} {ts:List T} {its:List Value} {b:Bool},
  Vals xs its->zH H xs ts->wG f ts=some b->its.any e=b/\∀u∈its,∃v t k,RelV v u/\Rep H v t/\f t=some k
 | _,_,_,b,.nil,.nil,h=>by
  have h' :some false=some b:=h;cases h';exact⟨rfl,λu hu=>by simp at hu⟩
 | _,_,_,b,.cons rv vs,.cons r rs,h=>by
  rename_i v u vals us t ts;unfold wG at h;cases q:f t with
  | none=>rw[q]at h;cases h
  | some k=>
   rw[q]at h;cases q' :wG f ts with
   | none=>rw[q']at h;cases h
   | some k' =>
    rw[q']at h;cases h;obtain⟨h1,h2⟩:=ym he vs rs q';refine⟨by rw[List.any_cons,h1,he v t u k rv r q],λw hw=> ?_⟩
    rcases ax.mp hw with rfl | hw
    ·exact⟨v,t,k,rv,r,q⟩
    ·exact h2 w hw
theorem yn (hu:X.A.units+64 < cLine)(neg:Bool):OpR X (compareOp (if neg then .NotIn else .In)) (wm (if neg then qN else inC)):=by
 intro pins s σ H x y v u Q I rx ry h;obtain⟨t,t',b,r,r',e,q⟩:=h;have hs:∃k,inC t t' = .ok k/\b=(if neg then !k else k):=by
  cases neg with
  | false=>exact⟨b,e,rfl⟩
  | true=>
   have e' :qN t t' = .ok b:=e;unfold qN at e';cases z:inC t t' with
   | bad=>rw[z]at e';cases e'
   | ex k=>exact absurd z (Vl _ _ _)
   | ok k=>rw[z]at e';cases e';exact⟨k,rfl,rfl⟩
 obtain⟨k,ek,rfl⟩:=hs;unfold inC at ek;obtain⟨f,hf⟩:=u3 (H:=H) λy=>eqF 30 y t;have eqa:∀w,(∃v t' k,RelV v w/\Rep H v t' /\eqF 30 t' t=some k)->cK X.A.in1 s w v (f w):=λw ⟨v',t',k,rv,rr,ee⟩=>by
  rw[hf v' t' w k rv rr ee];exact(yk I 30 X.A.in1 (by rw[jF];omega) t' t k v' x w v ee rr r rv rx).1
 split at ek
 ·rename_i ys;split at ek
  ·rename_i k' hk;cases ek;cases r' with
   | @tup l xs _ h1 r1=>
    obtain rfl:u=Value.ref l:=ry;obtain⟨its,rv,p,_⟩:=ZU I h1 r1;obtain⟨h2,h3⟩:=ym hf rv r1 hk;have h4:its.toArray.any f=k:=by simpa using h2
    cases neg with
    | false=>exact SeqAt.in_tupleAt f p (λw hw=>eqa w (h3 w (by simpa using hw))) (by rw[h4];exact⟨.bl k,H,I,rfl,q⟩)
    | true=>exact SeqAt.notIn_tupleAt f p (λw hw=>eqa w (h3 w (by simpa using hw))) (by rw[h4];exact⟨.bl (!k),H,I,rfl,q⟩)
  ·cases ek
 ·rename_i ys;split at ek
  ·rename_i k' hk;cases ek;cases r' with
   | @lst l xs _ h1 r1=>
    obtain rfl:u=Value.ref l:=ry;obtain⟨its,rv,p,_⟩:=zZ I (.inl h1) r1;obtain⟨h2,h3⟩:=ym hf rv r1 hk;have h4:its.toArray.any f=k:=by simpa using h2
    cases neg with
    | false=>exact SeqAt.in_listAt f p (λw hw=>eqa w (h3 w (by simpa using hw))) (by rw[h4];exact⟨.bl k,H,I,rfl,q⟩)
    | true=>exact SeqAt.notIn_listAt f p (λw hw=>eqa w (h3 w (by simpa using hw))) (by rw[h4];exact⟨.bl (!k),H,I,rfl,q⟩)
  ·cases ek
 ·cases ek
theorem XZ (hu:X.A.units+64 < cLine):OpR X (compareOp .In) (wm inC):=yn hu false
theorem Vm (hu:X.A.units+64 < cLine):OpR X (compareOp .NotIn) (wm qN):=yn hu true
def Jl (t t' :T):R Bool:=match t' with
 | .non=>match t with | .non=> .ok true | _=> .ok false
 | .bl k=>match t with | .bl j=> .ok (j == k) | _=> .ok false
 | _=> .bad
def Z8 (t t' :T):R Bool:=(Jl t t').bind λb=> .ok (!b)
theorem qO:Nx Jl:=λt t' c h=>by
 unfold Jl at h;split at h
 ·split at h <;> cases h
 ·split at h <;> cases h
 ·cases h
theorem vb:Nx Z8:=λt t' c h=>by
 unfold Z8 at h;cases e:Jl t t' with
 | bad=>rw[e]at h;cases h
 | ex k=>exact absurd e (qO _ _ _)
 | ok k=>rw[e]at h;cases h
theorem yo (neg:Bool):OpR X (compareOp (if neg then .IsNot else .Is)) (wm (if neg then Z8 else Jl)):=by
 intro pins s σ H x y v u Q I rx ry h;obtain⟨t,t',b,r,r',e,q⟩:=h;have hs:∃k,Jl t t' = .ok k/\b=(if neg then !k else k):=by
  cases neg with
  | false=>exact⟨b,e,rfl⟩
  | true=>
   have e' :Z8 t t' = .ok b:=e;unfold Z8 at e';cases z:Jl t t' with
   | bad=>rw[z]at e';cases e'
   | ex k=>exact absurd z (qO _ _ _)
   | ok k=>rw[z]at e';cases e';exact⟨k,rfl,rfl⟩
 obtain⟨k,ek,rfl⟩:=hs;have go:plainIs v u=true/\(v == u)=k:=by
  cases r' with
  | non=>
   obtain rfl:u=Value.none:=ry;cases r with
   | non=>obtain rfl:v=Value.none:=rx;cases ek;exact⟨rfl,rfl⟩
   | bl j=>obtain rfl:v=Value.bool j:=rx;cases ek;exact⟨rfl,rfl⟩
   | int j=>obtain⟨t,rfl⟩:=rx;cases ek;exact⟨rfl,rfl⟩
   | str j=>obtain⟨t,rfl⟩:=rx;cases ek;exact⟨rfl,rfl⟩
   | tup _ _=>obtain rfl:v=Value.ref _:=rx;cases ek;exact⟨rfl,rfl⟩
   | lst _ _=>obtain rfl:v=Value.ref _:=rx;cases ek;exact⟨rfl,rfl⟩
   | fz _ _=>obtain rfl:v=Value.ref _:=rx;cases ek;exact⟨rfl,rfl⟩
  | bl k' =>
   obtain rfl:u=Value.bool k' :=ry;cases r with
   | non=>obtain rfl:v=Value.none:=rx;cases ek;exact⟨rfl,rfl⟩
   | bl j=>obtain rfl:v=Value.bool j:=rx;cases ek;exact⟨rfl,by cases j <;> cases k' <;> rfl⟩
   | int j=>obtain⟨t,rfl⟩:=rx;cases ek;exact⟨rfl,rfl⟩
   | str j=>obtain⟨t,rfl⟩:=rx;cases ek;exact⟨rfl,rfl⟩
   | tup _ _=>obtain rfl:v=Value.ref _:=rx;cases ek;exact⟨rfl,rfl⟩
   | lst _ _=>obtain rfl:v=Value.ref _:=rx;cases ek;exact⟨rfl,rfl⟩
   | fz _ _=>obtain rfl:v=Value.ref _:=rx;cases ek;exact⟨rfl,rfl⟩
  | _=>cases ek
 cases neg with
 | false=>exact wpAny_is_plain go.1 (by rw[go.2];exact⟨.bl k,H,I,rfl,q⟩)
 | true=>exact wpAny_isNot_plain go.1 (by rw[go.2];exact⟨.bl (!k),H,I,rfl,q⟩)
theorem vc:OpR X (compareOp .Is) (wm Jl):=yo false
theorem yq:OpR X (compareOp .IsNot) (wm Z8):=yo true
def chE (g g' :T->T->R Bool)(fa fb fc:En->R T):En->R T:=λρ=>(fa ρ).bind λx=>(fb ρ).bind λy=>(g x y).bind λk=>if k=true then (fc ρ).bind λz=>(g' y z).bind λk' => .ok (.bl k') else .ok (.bl false)
def chT (g g' :T->T->R Bool)(fa fb fc:En->R T):En->R Bool:=λρ=>(fa ρ).bind λx=>(fb ρ).bind λy=>(g x y).bind λk=>if k=true then (fc ρ).bind λz=>g' y z else .ok false
theorem Vn {op op' :CmpOp}{g g' :T->T->R Bool}(nx:Nx g)(nx' :Nx g')(ho:OpR X (compareOp op) (wm g))(ho' :OpR X (compareOp op') (wm g'))(ha:jw X Y a fa)(hb:jw X Y b fb)(hc:jw X Y c fc)
  (hm:lastMarks [op,op'] [b,c]=false:=by with_unfolding_all rfl):Snd X Y (.Compare a [op,op'] [b,c] pos) (chE g g' fa fb fc):= .mk λρ=>
 PE.imp (qE ho ho' (ha ρ) (hb ρ) (hc ρ) hm) λσ H Q ⟨B,I,q⟩=>step I q λt v H1 _ s1 r1 I1 q1=>step I1 q1 λt' v' H2 _ s2 r2 I2 q2=>by
  cases e:g t t' with
  | bad=>rw[e]at q2;exact q2.elim
  | ex c=>exact absurd e (nx _ _ _)
  | ok k=>
   rw[e]at q2;refine⟨t,t',k,r1.mono s2,r2,e,k,rfl, ?_⟩;cases k with
   | false=>exact ZP I2 q2 (.bl false)
   | true=>
    refine step I2 q2 λt3 v3 H3 _ s3 r3 I3 q3=> ?_
    ·cases e:g' t' t3 with
     | bad=>rw[e]at q3;exact q3.elim
     | ex c=>exact absurd e (nx' _ _ _)
     | ok k=>rw[e]at q3;exact⟨t',t3,k,r2.mono s3,r3,e,ZP I3 q3 (.bl k)⟩
theorem Vo {op op' :CmpOp}{g g' :T->T->R Bool}(nx:Nx g)(nx' :Nx g')(ho:OpR X (compareOp op) (wm g))(ho' :OpR X (compareOp op') (wm g'))(ha:jw X Y a fa)(hb:jw X Y b fb)(hc:jw X Y c fc)
  (hm:lastMarks [op,op'] [b,c]=false:=by with_unfolding_all rfl):Wj X Y (.Compare a [op,op'] [b,c] pos) (chT g g' fa fb fc):= .mk λρ=>
 PT.imp (qF ho ho' (ha ρ) (hb ρ) (hc ρ) hm) λσ H Q ⟨B,I,q⟩=>step I q λt v H1 _ s1 r1 I1 q1=>step I1 q1 λt' v' H2 _ s2 r2 I2 q2=>by
  cases e:g t t' with
  | bad=>rw[e]at q2;exact q2.elim
  | ex c=>exact absurd e (nx _ _ _)
  | ok k=>
   rw[e]at q2;refine⟨t,t',k,r1.mono s2,r2,e,k,rfl, ?_⟩;cases k with
   | false=>exact⟨false,rfl,ZP I2 q2 rfl⟩
   | true=>
    refine step I2 q2 λt3 v3 H3 _ s3 r3 I3 q3=> ?_
    ·cases e:g' t' t3 with
     | bad=>rw[e]at q3;exact q3.elim
     | ex c=>exact absurd e (nx' _ _ _)
     | ok k=>rw[e]at q3;exact⟨t',t3,k,r2.mono s3,r3,e,k,rfl,ZP I3 q3 rfl⟩
def Vp (r r' r'' :R2)(ta tb tc td:TE):TE:=λσ H Q=>ta σ H λx H1=>tb σ H1 λy H2=>r x y H2 λz H3=>∃k,z= .bl k/\
 (if k=true then tc σ H3 λw' H4=>r' y w' H4 λz' H5=>∃k',z' = .bl k' /\(if k' =true then td σ H5 λw2 H6=>r'' w' w2 H6 Q else Q (.bl false) H5) else Q (.bl false) H3)
theorem yr {op op' op'' :CmpOp}{r r' r'' :R2}{ta tb tc td:TE}(ho:OpR X (compareOp op) r)(ho' :OpR X (compareOp op') r')(ho'' :OpR X (compareOp op'') r'')(ha:PE X a ta)(hb:PE X b tb)(hc:PE X c tc)(hd:PE X d td)
  (hm:lastMarks [op,op',op''] [b,c,d]=false:=by with_unfolding_all rfl):PE X (.Compare a [op,op',op''] [b,c,d] pos) (Vp r r' r'' ta tb tc td):=by
 intro pins s σ H Q I h;refine Compare_chain (thn (ha pins s σ H _ I h) λv s1 ⟨x,H1,I1,r1,q1⟩=>chain_link (thn (hb pins s1 σ H1 _ I1 q1) λu s2 ⟨y,H2,I2,r2,q2⟩=>
  thn (ho pins s2 σ H2 x y v u _ I2 r1 r2 q2) λd' s3 ⟨z,H3,I3,r3,k,e,q3⟩=> ?_)) hm
 subst e;cases r3;refine bv ?_;cases k with
 | false=>exact ite_ff ⟨.bl false,H3,I3,rfl,q3⟩
 | true=>
  refine ite_tt (chain_link (thn (hc pins s3 σ H3 _ I3 q3) λw' s4 ⟨z',H4,I4,r4,q4⟩=>thn (ho' pins s4 σ H4 y z' u w' _ I4 r2 r4 q4) λd2 s5 ⟨z5,H5,I5,r5,k5,e5,q5⟩=> ?_));subst e5;cases r5;refine bv ?_;cases k5 with
  | false=>exact ite_ff ⟨.bl false,H5,I5,rfl,q5⟩
  | true=>exact ite_tt (chain_last (thn (hd pins s5 σ H5 _ I5 q5) λw6 s6 ⟨z6,H6,I6,r6,q6⟩=>ho'' pins s6 σ H6 z' z6 w' w6 Q I6 r4 r6 q6))
def ch3E (g g' g'' :T->T->R Bool)(fa fb fc fd:En->R T):En->R T:=λρ=>(fa ρ).bind λx=>(fb ρ).bind λy=>(g x y).bind λk=>if k=true then (fc ρ).bind λz=>(g' y z).bind λk' =>
 if k' =true then (fd ρ).bind λw=>(g'' z w).bind λk'' => .ok (.bl k'') else .ok (.bl false) else .ok (.bl false)
theorem qP {op op' op'' :CmpOp}{g g' g'' :T->T->R Bool}(nx:Nx g)(nx' :Nx g')(nx'' :Nx g'')(ho:OpR X (compareOp op) (wm g))(ho' :OpR X (compareOp op') (wm g'))(ho'' :OpR X (compareOp op'') (wm g''))
  (ha:jw X Y a fa) (hb:jw X Y b fb) (hc:jw X Y c fc) (hd:jw X Y d fd)
  (hm:lastMarks [op,op',op''] [b,c,d]=false:=by with_unfolding_all rfl):Snd X Y (.Compare a [op,op',op''] [b,c,d] pos) (ch3E g g' g'' fa fb fc fd):= .mk λρ=>
 PE.imp (yr ho ho' ho'' (ha ρ) (hb ρ) (hc ρ) (hd ρ) hm) λσ H Q ⟨B,I,q⟩=>step I q λt v H1 _ s1 r1 I1 q1=>step I1 q1 λt' v' H2 _ s2 r2 I2 q2=>by
  cases e:g t t' with
  | bad=>rw[e]at q2;exact q2.elim
  | ex c=>exact absurd e (nx _ _ _)
  | ok k=>
   rw[e]at q2;refine⟨t,t',k,r1.mono s2,r2,e,k,rfl, ?_⟩;cases k with
   | false=>exact ZP I2 q2 (.bl false)
   | true=>
    refine step I2 q2 λt3 v3 H3 _ s3 r3 I3 q3=> ?_
    ·cases e:g' t' t3 with
     | bad=>rw[e]at q3;exact q3.elim
     | ex c=>exact absurd e (nx' _ _ _)
     | ok k=>
      rw[e]at q3;refine⟨t',t3,k,r2.mono s3,r3,e,k,rfl, ?_⟩;cases k with
      | false=>exact ZP I3 q3 (.bl false)
      | true=>
       refine step I3 q3 λt4 v4 H4 _ s4 r4 I4 q4=> ?_
       ·cases e:g'' t3 t4 with
        | bad=>rw[e]at q4;exact q4.elim
        | ex c=>exact absurd e (nx'' _ _ _)
        | ok k=>rw[e]at q4;exact⟨t3,t4,k,r3.mono s4,r4,e,ZP I4 q4 (.bl k)⟩
variable {rest:List Expr}{ga gb:En->R Bool}
def Ja (fa fb:En->R T):En->R T:=λρ=>(fa ρ).bind λx=>match x with
 | .bl true=>fb ρ
 | .bl false=> .ok (.bl false)
 | _=> .bad
def Gi (fa:En->R T):En->R T:=λρ=>(fa ρ).bind λx=>match x with
 | .bl k=> .ok (.bl (!k))
 | _=> .bad
theorem Gj {op}(h:Snd X Y a fa):Snd X Y (.BoolOp op [a] pos) fa:= .mk λρ=>Xk (h ρ)
theorem Gk (ha:Snd X Y a fa)(hb:Snd X Y (.BoolOp .And (b :: rest) pos) fb):Snd X Y (.BoolOp .And (a :: b :: rest) pos) (Ja fa fb):= .mk λρ=>
 PE.imp (Xl (ha ρ) (hb ρ)) λσ H Q ⟨B,I,q⟩=>step I q λt v H1 _ s1 r1 I1 q1=>by
  cases r1 with
  | bl k=>
   refine⟨k,rfl, ?_⟩;cases k with
   | true=>exact⟨_,I1,q1⟩
   | false=>exact ZP I1 q1 (.bl false)
  | _=>exact q1.elim
theorem Gm (ha:Snd X Y a fa):Snd X Y (.UnaryOp .Not a pos) (Gi fa):= .mk λρ=>
 PE.imp (Xm (ha ρ)) λσ H Q ⟨B,I,q⟩=>step I q λt v H1 _ s1 r1 I1 q1=>by
  cases r1 with
  | bl k=>exact⟨k,rfl,ZP I1 q1 (.bl (!k))⟩
  | _=>exact q1.elim
structure UH (X:Cx) (Y:Fx) (e:Expr) (f:En->R Bool):Prop where
 mk ::
 go:∀ρ,PW X e (tS Y rE f ρ)
instance {X:Cx}{Y:Fx}{e:Expr}{f:En->R Bool}:CoeFun (UH X Y e f) λ_=>∀ρ,PW X e (tS Y rE f ρ):=⟨UH.go⟩
theorem UH.t {e:Expr}{f:En->R Bool}(h:UH X Y e f):Wj X Y e f:= .mk λρ=>(h ρ).pt
theorem PW.imp {e:Expr}{t t' :TT}(h:PW X e t)(i:∀σ H Q,t' σ H Q->t σ H Q):PW X e t' :=λwh pins s σ H Q I q=>h wh pins s σ H Q I (i σ H Q q)
def jt (fa fb:En->R Bool):En->R Bool:=λρ=>(fa ρ).bind λx=>if x=true then fb ρ else .ok false
def orT (fa fb:En->R Bool):En->R Bool:=λρ=>(fa ρ).bind λx=>if x=true then .ok true else fb ρ
def jO (fa:En->R Bool):En->R Bool:=λρ=>(fa ρ).bind λx=> .ok (!x)
theorem k6 (h:Wj X Y a ga):UH X Y (.BoolOp .And [a] pos) ga:= .mk λρ=>vZ (h ρ)
theorem Gn (h:Wj X Y a ga):UH X Y (.BoolOp .Or [a] pos) ga:= .mk λρ=>Xh (h ρ)
theorem Go (ha:Wj X Y a ga)(hb:UH X Y (.BoolOp .And (b :: rest) pos) gb):UH X Y (.BoolOp .And (a :: b :: rest) pos) (jt ga gb):= .mk λρ=>
 PW.imp (Xi (ha ρ) (hb ρ)) λσ H Q ⟨B,I,q⟩=>step I q λt v H1 _ s1 r1 I1 q1=>by
  have r1' :v=t:=r1;subst r1';cases v with
  | true=>exact⟨_,I1,q1⟩
  | false=>exact ZP I1 q1 rfl
theorem w_or (ha:Wj X Y a ga)(hb:UH X Y (.BoolOp .Or (b :: rest) pos) gb):UH X Y (.BoolOp .Or (a :: b :: rest) pos) (orT ga gb):= .mk λρ=>
 PW.imp (gG (ha ρ) (hb ρ)) λσ H Q ⟨B,I,q⟩=>step I q λt v H1 _ s1 r1 I1 q1=>by
  have r1' :v=t:=r1;subst r1';cases v with
  | false=>exact⟨_,I1,q1⟩
  | true=>exact ZP I1 q1 rfl
theorem Gp (ha:Wj X Y a ga):Wj X Y (.UnaryOp .Not a pos) (jO ga):= .mk λρ=>
 PT.imp (Xj (ha ρ)) λσ H Q ⟨B,I,q⟩=>step I q λt v H1 _ s1 r1 I1 q1=>by
  have r1' :v=t:=r1;subst r1';exact ZP I1 q1 rfl
def tru:T->R Bool
 | .bl k=> .ok k
 | .non=> .ok false
 | .int i=> .ok (i != 0)
 | .tup xs=> .ok (!xs.isEmpty)
 | .lst xs=> .ok (!xs.isEmpty)
 | _=> .bad
def ZI (fa:En->R T):En->R Bool:=λρ=>(fa ρ).bind tru
theorem isE {H:Hp}{xs:List V}{ts:List T}(r:zH H xs ts):(!xs.isEmpty)= !ts.isEmpty:=by cases r <;> rfl
theorem Gq (ha:jw X Y a fa)(he:∀whole,isTrue a X.env whole=(do let v ← whole;standAt a.pos;holding [v] (truthy v)):=by intro _;rfl):Wj X Y a (ZI fa):= .mk λρ=>
 PT.imp (qG (ha ρ) he) λσ H Q ⟨B,I,q⟩=>step I q λt v H1 _ s1 r1 I1 q1=>by
  cases r1 with
  | bl k=>exact⟨k,rfl,ZP I1 q1 rfl⟩
  | non=>exact⟨false,rfl,ZP I1 q1 rfl⟩
  | int i=>exact⟨_,rfl,ZP I1 q1 rfl⟩
  | tup h r=>exact⟨_,.inr (.inl ⟨_,SqT.of h,rfl⟩),ZP I1 q1 (isE r)⟩
  | lst h r=>exact⟨_,.inl ⟨_,SqL.of h,rfl⟩,ZP I1 q1 (isE r)⟩
  | _=>exact q1.elim
def ifE (g:En->R Bool)(fa fb:En->R T):En->R T:=λρ=>(g ρ).bind λk=>if k=true then fa ρ else fb ρ
theorem s_if (hc:Wj X Y c ga)(ha:Snd X Y a fa)(hb:Snd X Y b fb):Snd X Y (.IfExp c a b pos) (ifE ga fa fb):= .mk λρ=>
 PE.imp (qA (hc ρ) (ha ρ) (hb ρ)) λσ H Q ⟨B,I,q⟩=>step I q λt v H1 _ s1 r1 I1 q1=>by
  have r1' :v=t:=r1;subst r1';cases v with
  | true=>exact⟨_,I1,q1⟩
  | false=>exact⟨_,I1,q1⟩
end
end PV
namespace PV
open PySem PySem.Spec PyProof.Rows L2
section
variable {X:Cx}{Y:Fx}{a b c d:Expr}{fa fb fc fd:En->R T}{pos p:Pos}
def ap1 (g:T->R T)(fa:En->R T):En->R T:=λρ=>(fa ρ).bind g
abbrev St1 (X:Cx)(a:Expr):Prop:=starEach [a] X.env=[(false,eval a X.env)]
theorem yt {id:String}{x:Str}{r:List V->Hp->VK->Prop}{g:T->R T}(hc:ZB X (.builtin id) r)(hr:∀v t B H Q,Rep H v t->zw B H->Po Y rC B H (g t) Q->r [v] H Q)
  (gl:Gl X x) (mg:X.mg x=none) (bt:bootBuiltins x=some (.builtin id)) (ha:jw X Y a fa) (hs:St1 X a:=by exact st1 rfl) (hn:x ≠ "__name__":=by decide) (hd:(x == ("__debug__":Str))=false:=by decide):Snd X Y (.Call (.Name x p) [a] [] pos) (ap1 g fa):= .mk λρ=>
 PE.imp (ZR hc gl mg bt (zu (ha ρ) Za hs) hn hd hs rfl) λσ H Q ⟨B,I,q⟩=>step I q λt v H1 _ s1 r1 I1 q1=>hr v t _ H1 Q r1 I1.sB q1
theorem yu {id:String}{x:Str}{r:List V->Hp->VK->Prop}{g:T->R T}(hc:ZB X (.type id) r)(hr:∀v t B H Q,Rep B v t->zw B H->Po Y rC B H (g t) Q->r [v] H Q)
  (gl:Gl X x) (mg:X.mg x=none) (bt:bootBuiltins x=some (.type id)) (ha:Snd X Y a fa) (hs:St1 X a:=by exact st1 rfl) (hn:x ≠ "__name__":=by decide) (hd:(x == ("__debug__":Str))=false:=by decide):Snd X Y (.Call (.Name x p) [a] [] pos) (ap1 g fa):= .mk λρ=>
 PE.imp (jD hc gl mg bt (zu (ha ρ) Za hs) hn hd hs rfl) λσ H Q ⟨B,I,q⟩=>step I q λt v H1 _ s1 r1 I1 q1=>hr v t _ H1 Q r1 I1.sB q1
def zK:T->R T
 | .tup xs=> .ok (.int xs.length)
 | .lst xs=> .ok (.int xs.length)
 | .fz xs=> .ok (.int xs.length)
 | .str x=>if x.length<=bnd then .ok (.int x.length) else .bad
 | _=> .bad
theorem Gr (v:V)(t:T)(B H:Hp)(Q:VK)(r:Rep H v t)(sB:zw B H)(q:Po Y rC B H (zK t) Q):
  (∃p ys,[v]=[V.ref p]/\(SqL X.K H p ys\/SqT X.K H p ys)/\Q (V.int ys.length) H)\/(∃z,[v]=[V.str z]/\z.length<=sizeLine/\Q (V.int z.length) H):=by
 cases r with
 | tup h r=>exact .inl ⟨_,_,rfl,.inr (SqT.of h),po0 sB q rfl (by rw[r.length];exact .int _)⟩
 | lst h r=>exact .inl ⟨_,_,rfl,.inl (SqL.of h),po0 sB q rfl (by rw[r.length];exact .int _)⟩
 | fz h r=>exact .inl ⟨_,_,rfl,.inl (.inl (.inr ⟨_,h⟩)),po0 sB q rfl (by rw[r.length];exact .int _)⟩
 | str x=>
  by_cases hb:x.length<=bnd
  ·exact .inr ⟨x,rfl,ZX hb,po0 sB q (if_pos hb) (.int _)⟩
  ·rw[show zK (.str x)= .bad from if_neg hb]at q;exact q.elim
 | _=>exact q.elim
theorem Gs (gl:Gl X "len")(mg:X.mg "len"=none)(ha:jw X Y a fa)(hs:St1 X a:=by exact st1 rfl):Snd X Y (.Call (.Name "len" p) [a] [] pos) (ap1 zK fa):=
 yt (We.or Wf) Gr gl mg PySem.boot_len ha hs
def UI:T->R T
 | .tup xs=> .ok (.tup xs)
 | .lst xs=> .ok (.tup xs)
 | _=> .bad
theorem Gu (v:V)(t:T)(B H:Hp)(Q:VK)(r:Rep B v t)(sB:zw B H)(q:Po Y rC B H (UI t) Q):
  ∃p ys,[v]=[V.ref p]/\((SqL X.K H p ys/\∀l,H l=none->Q (.ref l) (upd H l (.tup ys)))\/(SqT X.K H p ys/\Q (.ref p) H)):=by
 cases r with
 | tup h r=>exact⟨_,_,rfl,.inr ⟨SqT.of (sB _ _ h),po0 sB q rfl (.tup h r)⟩⟩
 | lst h r=>exact⟨_,_,rfl,.inl ⟨SqL.of (sB _ _ h),λl hl=>KS sB q rfl r hl⟩⟩
 | _=>exact q.elim
theorem Vq (gl:Gl X "tuple")(mg:X.mg "tuple"=none)(ha:Snd X Y a fa)(hs:St1 X a:=by exact st1 rfl):Snd X Y (.Call (.Name "tuple" p) [a] [] pos) (ap1 UI fa):=
 yu wE Gu gl mg (PyProof.Rows.Boot.«tuple») ha hs
def tyN:T->String
 | .non=>"NoneType"
 | .bl _=>"bool"
 | .int _=>"int"
 | .str _=>"str"
 | .tup _=>"tuple"
 | .lst _=>"list"
 | .fz _=>"list"
def isT (n:String)(t:T):Bool:=tyN t == n || (n == "int" && tyN t == "bool")
theorem Gv {H:Hp}{v:V}{t:T}(K:ai)(r:Rep H v t):Uh K H v (.type (tyN t)):=by
 cases r with
 | non=>exact .non
 | bl b=>exact .bl b
 | int b=>exact .int b
 | str b=>exact .str b
 | tup h _=>exact .tup h
 | lst h _=>exact .lst h
 | fz h _=>exact .frz h
theorem qQ:ZB X (.builtin "isinstance") (λxs H Q=>∃v n t,xs=[v,.ty n]/\Rep H v t/\aN X.K (.type (tyN t)) (.type n)=some (isT n t)/\Q (.bl (isT n t)) H):=by
 intro pins s σ H xs us Q I rv h;obtain⟨v,n,t,rfl,r,hk,q⟩:=h;obtain⟨u,w,rfl,ru,rw'⟩:=Ug rv;obtain rfl:w=Value.type n:=rw';exact y6 I ru (Gv X.K r) hk λtk=>⟨.bl _,H,I.tok tk,rfl,q⟩
def jo (n:String)(t:T):R T:= .ok (.bl (isT n t))
theorem Vr (K:ai)(t:T):aN K (.type (tyN t)) (.type "int")=some (isT "int" t):=by cases t <;> rfl
theorem qR (K:ai)(t:T):aN K (.type (tyN t)) (.type "bool")=some (isT "bool" t):=by cases t <;> rfl
theorem Vs (K:ai)(t:T):aN K (.type (tyN t)) (.type "str")=some (isT "str" t):=by cases t <;> rfl
theorem yv (K:ai)(t:T):aN K (.type (tyN t)) (.type "tuple")=some (isT "tuple" t):=by cases t <;> rfl
theorem qS {n:String}{p' :Pos}(hk:∀t,aN X.K (.type (tyN t)) (.type n)=some (isT n t))(gl:Gl X "isinstance")(mg:X.mg "isinstance"=none)(gl' :Gl X (aO n))(mg' :X.mg (aO n)=none)(bt:bootBuiltins (aO n)=some (.type n))(ha:jw X Y a fa)
  (hs:starEach [a,.Name (aO n) p'] X.env=[(false,eval a X.env),(false,eval (.Name (aO n) p') X.env)]:=by exact st2 rfl rfl) (hs2:starEach [.Name (aO n) p'] X.env=[(false,eval (.Name (aO n) p') X.env)]:=by exact st1 rfl)
  (hn:aO n ≠ "__name__":=by decide) (hd:(aO n == ("__debug__":Str))=false:=by decide) (hz:((backTo pos (starEach [.Name (aO n) p'] X.env)).any λx=>x.fst)=false:=by exact Zy rfl):
  Snd X Y (.Call (.Name "isinstance" p) [a,.Name (aO n) p'] [] pos) (ap1 (jo n) fa):= .mk λρ=>
 PE.imp (ZR qQ gl mg PyProof.Rows.Boot.«isinstance» (zu (ha ρ) (zu (UO (v:= .ty n) gl' mg' bt rfl hn hd) Za hs2) (by rw[hs,hs2])) (by decide) (by decide) (by rw[hs,hs2]) hz) λσ H Q ⟨B,I,q⟩=>
  step I q λt v H1 _ s1 r1 I1 q1=>⟨v,n,t,rfl,r1,hk t,po0 I1.sB q1 rfl (.bl _)⟩
def atT (xs:List T)(i:Int):R T:=match atI xs i with
 | some t=> .ok t
 | none=> .bad
def ixT:T->T->R T
 | .tup xs,.int i=>atT xs i
 | .lst xs,.int i=>atT xs i
 | .fz xs,.int i=>atT xs i
 | .str z,.int i=>if z.length<=bnd then match atI z.cps.toList i with | some c=> .ok (.str ⟨#[c]⟩) | none=> .bad else .bad
 | _,_=> .bad
theorem yw {H:Hp}{xs:List V}{ts:List T}{i:Int}{t:T}(r:zH H xs ts)(h:atI ts i=some t):∃v,atI xs i=some v/\Rep H v t:=by
 unfold atI at h ⊢;rw[r.length];cases e:ixN ts.length i with
 | none=>rw[e]at h;cases h
 | some j=>
  rw[e]at h;obtain⟨v,h1,h2⟩:=r.get (show ts[j]? =some t from h);exact⟨v,h1,h2⟩
theorem s_ix (ha:Snd X Y a fa)(hb:Snd X Y b fb)(hs:WX b:=by exact λ_ _=>rfl):Snd X Y (.Subscript a b pos) (zb ixT fa fb):= .mk λρ=>
 PE.imp (XD XH (ha ρ) (hb ρ) hs) λσ H Q ⟨B,I,q⟩=>step I q λt v H1 _ s1 r1 I1 q1=>step I1 q1 λt' v' H2 _ s2 r2 I2 q2=>by
  have r1:=r1.mono (zV.ge I1.sB s2);cases r2 with
  | int i=>
   cases r1 with
   | @tup _ xs ts h r=>
    have q2:Po Y rC _ H2 (atT ts i) Q:=q2;unfold atT at q2;split at q2
    ·rename_i t' e;obtain⟨w,e1,e2⟩:=yw r e;exact .inr (.inl ⟨_,xs,i,w,rfl,rfl,SqT.of (I2.sB _ _ h),e1,po0 I2.sB q2 rfl e2⟩)
    ·exact q2.elim
   | @lst _ xs ts h r=>
    have q2:Po Y rC _ H2 (atT ts i) Q:=q2;unfold atT at q2;split at q2
    ·rename_i t' e;obtain⟨w,e1,e2⟩:=yw r e;exact .inl ⟨_,xs,i,w,rfl,rfl,SqL.of (I2.sB _ _ h),e1,po0 I2.sB q2 rfl e2⟩
    ·exact q2.elim
   | @fz _ _ xs ts h r=>
    have q2:Po Y rC _ H2 (atT ts i) Q:=q2;unfold atT at q2;split at q2
    ·rename_i t' e;obtain⟨w,e1,e2⟩:=yw r e;exact .inl ⟨_,xs,i,w,rfl,rfl,.inl (.inr ⟨_,I2.sB _ _ h⟩),e1,po0 I2.sB q2 rfl e2⟩
    ·exact q2.elim
   | str z=>
    have q2:Po Y rC _ H2 (if z.length<=bnd then match atI z.cps.toList i with | some c=> .ok (.str ⟨#[c]⟩) | none=> .bad else .bad) Q:=q2
    split at q2
    ·rename_i hb;split at q2
     ·rename_i c e;exact .inr (.inr ⟨z,i,c,rfl,rfl,ZX hb,e,po0 I2.sB q2 rfl (.str _)⟩)
     ·exact q2.elim
    ·exact q2.elim
   | _=>exact q2.elim
  | _=>cases r1 <;> exact q2.elim
structure Vt (X:Cx) (Y:Fx) (e:Option Expr) (f:En->R (Option Int)):Prop where
 mk ::
 go:∀ρ,PO X e (tS Y rE f ρ)
instance {X:Cx}{Y:Fx}{e:Option Expr}{f:En->R (Option Int)}:CoeFun (Vt X Y e f) λ_=>∀ρ,PO X e (tS Y rE f ρ):=⟨Vt.go⟩
def noO:En->R (Option Int):=λ_=> .ok none
def Z5 (fa:En->R T):En->R (Option Int):=λρ=>(fa ρ).bind λt=>match t with
 | .int i=> .ok (some i)
 | _=> .bad
theorem PO.imp {e:Option Expr}{t t' :TO}(h:PO X e t)(i:∀σ H Q,t' σ H Q->t σ H Q):PO X e t' :=λpins s σ H Q I q=>h pins s σ H Q I (i σ H Q q)
theorem k7:Vt X Y none noO:= .mk λρ=>PO.imp V5 λσ H Q ⟨B,I,q⟩=>ZP I q rfl
theorem k8 (ha:Snd X Y a fa):Vt X Y (some a) (Z5 fa):= .mk λρ=>PO.imp (V6 (ha ρ)) λσ H Q ⟨B,I,q⟩=>step I q λt v H1 _ s1 r1 I1 q1=>by
 cases r1 with
 | int i=>exact⟨i,rfl,ZP I1 q1 rfl⟩
 | _=>exact q1.elim
def cut (xs:List T)(lo hi:Option Int):List T:=(xs.drop (HT.sIx xs.length 0 lo)).take (HT.sIx xs.length xs.length hi - HT.sIx xs.length 0 lo)
def slT (t:T)(lo hi:Option Int):R T:=match t with
 | .tup xs=> .ok (.tup (cut xs lo hi))
 | .lst xs=> .ok (.lst (cut xs lo hi))
 | _=> .bad
def slE (fa:En->R T)(fl fh:En->R (Option Int)):En->R T:=λρ=>(fa ρ).bind λt=>(fl ρ).bind λlo=>(fh ρ).bind λhi=>slT t lo hi
theorem yx {H:Hp}{xs:List V}{ts:List T}{lo hi:Option Int}(r:zH H xs ts):zH H (QY xs lo hi) (cut ts lo hi):=by
 unfold QY cut;rw[r.length];exact(r.drop _).take _
theorem jQ {prog:Program}{w:World}{A:Around}{E:Value->Shared->Prop}{s:Shared}{t sl:Addr}{items:Array Value}{vl vu:Value}{lo hi:Option Int}{Q:Value->Shared->Prop}(ht:IsTup s.heap t items)(hs:s.heap.IsSliceOf sl vl vu .none)(pl:IsPart vl lo)(pu:IsPart vu hi)
  (hw:HT.sIx items.size 0 lo=0/\HT.sIx items.size items.size hi=items.size) (h:Q (.ref t) s):wpAny (model prog w) A (getItem (.ref t) (.ref sl)) Q E s:=by
 obtain⟨os,hos,hcs,hds⟩:=id hs;have hTs:s.TypeIs (.ref sl) "slice":=⟨os,hos,hcs⟩;unfold getItem
 try with_reducible refine b_ ?_
 first | refine aa (ak ?_) | skip
 refine aa (wpAny_sequenceKey ht.typeIs (by decide) ?_)
 refine aa (bI (name:=aO "__getitem__") ht.typeIs aL
  (c7 aL ht.typeIs entry_tuple_getitem ?_ (args_tuple_getitem _ _)))
 show wpAny _ _ (cM (.ref t) >>= _) _ _ s;refine aa (tupleItemsOf_ ht ?_);refine aa (wpAny_typeOf hTs ?_);rw[if_pos (by decide)]
 refine aa (HT.sliceApplied_gen hs pl pu ?_);have hyes:(((HT.sIx items.size 0 lo:Nat):Int) == 0 && (1:Int) == 1 && (HT.sIx items.size items.size hi - HT.sIx items.size 0 lo) == items.size)=true:=by
  rw[hw.1,hw.2];simp
 show wpAny _ _ (if (((HT.sIx items.size 0 lo:Nat):Int) == 0 && (1:Int) == 1 && (HT.sIx items.size items.size hi - HT.sIx items.size 0 lo) == items.size)=true then _ else _) _ _ s
 rw[if_pos hyes];unfold Builtin.Tuple.tupleIsExact;refine aa (aa (wpAny_typeOf ht.typeIs (ak ?_)));rw[if_pos (by decide)]
 exact aa (wpAny_rule (ak ⟨_,rfl,ak h⟩))
theorem Up:SlR X (λx lo hi H Q=>∃a xs,x= .ref a/\SqT X.K H a xs/\(HT.sIx xs.length 0 lo=0/\HT.sIx xs.length xs.length hi=xs.length)/\Q (.ref a) H):=by
 intro pins s σ H x v vl vu lo hi sl Q I rx hs pl pu h;obtain⟨a,xs,rfl,hx,hw,q⟩:=h;obtain rfl:v=Value.ref a:=rx;obtain⟨its,r,ht,hz⟩:=I.tuple hx;have hlen:its.toArray.size=xs.length:=by rw[av];exact r.length.symm
 refine⟨"tuple",_,aL.lookup,ht.typeIs, ?_⟩;exact jQ ht hs pl pu (by rw[hlen];exact hw) ⟨.ref a,H,I,rfl,q⟩
theorem Vu {xs:List T}{lo hi:Option Int}(h1:HT.sIx xs.length 0 lo=0)(h2:HT.sIx xs.length xs.length hi=xs.length):cut xs lo hi=xs:=by
 unfold cut;rw[h1,h2];simp
theorem Vv {lo hi:Option Expr}{fl fh:En->R (Option Int)}{p2:Pos}(ha:Snd X Y a fa)(hl:Vt X Y lo fl)(hh:Vt X Y hi fh):Snd X Y (.Subscript a (.Slice lo hi none p2) pos) (slE fa fl fh):= .mk λρ=>
 PE.imp (qI (XB.or (Up.or V9)) (ha ρ) (hl ρ) (hh ρ)) λσ H Q ⟨B,I,q⟩=>step I q λt v H1 _ s1 r1 I1 q1=>step I1 q1 λl l' H2 _ s2 el I2 q2=>step I2 q2 λh h' H3 _ s3 eh I3 q3=>by
  have el' :l' =l:=el;have eh' :h' =h:=eh;subst el' eh';have r1:=r1.mono ((zV.ge I1.sB s2).trans (zV.ge I2.sB s3));cases r1 with
  | @tup _ xs ts hx r=>
   have q3:Po Y rC _ H3 (.ok (.tup (cut ts l' h'))) Q:=q3
   by_cases hw:HT.sIx xs.length 0 l' =0/\HT.sIx xs.length xs.length h' =xs.length
   ·refine .inr (.inl ⟨_,xs,rfl,SqT.of (I3.sB _ _ hx),hw,po0 I3.sB q3 rfl ?_⟩);rw[r.length]at hw;rw[Vu hw.1 hw.2];exact .tup hx r
   ·exact .inl ⟨_,xs,rfl,SqT.of (I3.sB _ _ hx),hw,λp hp=>KS I3.sB q3 rfl (yx r) hp⟩
  | @lst _ xs ts hx r=>
   have q3:Po Y rC _ H3 (.ok (.lst (cut ts l' h'))) Q:=q3;exact .inr (.inr ⟨_,xs,rfl,SqL.of (I3.sB _ _ hx),λp hp=>G9 I3.sB q3 rfl (yx r) hp⟩)
  | _=>exact q3.elim
def ZY (t t' :T):R T:=match t,t' with
 | .int i,.int j=> .ok (.int (if j < i then j else i))
 | _,_=> .bad
theorem k9 (hc:X.calm=true)(gl:Gl X "min")(mg:X.mg "min"=none)(ha:Snd X Y a fa)(hb:Snd X Y b fb)
  (hs:starEach [a,b] X.env=[(false,eval a X.env),(false,eval b X.env)]:=by exact st2 rfl rfl) (hs2:starEach [b] X.env=[(false,eval b X.env)]:=by exact st1 rfl):
  Snd X Y (.Call (.Name "min" p) [a,b] [] pos) (zb ZY fa fb):= .mk λρ=>
 PE.imp (ZR (UY hc) gl mg PyProof.Rows.Boot.«min» (zu (ha ρ) (zu (hb ρ) Za hs2) (by rw[hs,hs2])) (by decide) (by decide) (by rw[hs,hs2]) (by rw[hs2];rfl)) λσ H Q ⟨B,I,q⟩=>
  step I q λt v H1 _ s1 r1 I1 q1=>step I1 q1 λt' v' H2 _ s2 r2 I2 q2=>by
   cases r1 with
   | int i=>
    cases r2 with
    | int j=>exact⟨i,j,rfl,po0 I2.sB q2 rfl (.int _)⟩
    | _=>exact q2.elim
   | _=>cases r2 <;> exact q2.elim
def UJ:List T->Option Bool
 | []=>some true
 | .bl k :: r=>match UJ r with | some j=>some (k && j) | none=>none
 | _ :: _=>none
def Vw:T->R T
 | .lst ts=>match UJ ts with | some k=> .ok (.bl k) | none=> .bad
 | _=> .bad
theorem yy:∀{H:Hp} {xs:List V} {ts:List T} {its:List Value} {k:Bool},zH H xs ts->Vals xs its->UJ ts=some k->∃tr:Nat->Bool,(∀i v,its[i]? =some v->v=Value.bool (tr i))/\(aC its.length).all tr=k
 | _,_,_,_,k,.nil,.nil,h=>by
  have h' :some true=some k:=h;cases h';exact⟨λ_=>true,λi v e=>by simp at e,rfl⟩
 | H,_,_,_,k,.cons (v:=x) (t:=t) r rs,.cons (b:=u) rv vs,h=>by
  cases r with
  | bl b=>
   unfold UJ at h;split at h
   ·rename_i j e;cases h;obtain⟨tr,h1,h2⟩:=yy rs vs e;obtain rfl:u=Value.bool b:=rv;refine⟨λi=>match i with | 0=>b | i+1=>tr i,λi v e=> ?_, ?_⟩
    ·cases i with
     | zero=>simp at e;exact e.symm
     | succ i=>exact h1 i v (by simpa using e)
    ·rw[al,cF,bc,i9,← h2];rfl
   ·cases h
  | _=>cases h
theorem yz (hh:X.A.handled=none):ZB X (.builtin "all") (λvs H Q=>∃l xs ts k,vs=[.ref l]/\H l=some (.lst xs)/\zH H xs ts/\UJ ts=some k/\Q (.bl k) H):=by
 intro pins s σ H vs us Q I rv h;obtain⟨l,xs,ts,k,rfl,hl,r,hk,q⟩:=h;obtain⟨u,rfl,ru⟩:=j7 rv;obtain rfl:u=Value.ref l:=ru;obtain⟨its,rv,p,_⟩:=zZ I (.inl hl) r;obtain⟨tr,h1,h2⟩:=yy r rv hk;refine call_all_walk (wpAny_pyIter_list p ?_);have hlt:l < s.heap.objs.size:=I.hok.lt hl;have old:∀b o,s.heap.get? b=some o->(s.heap.push { cls:= .type "list_iterator",data:= .fields #[.ref l,.int 0 0] }).get? b=some o:=λb o e=>aj _ e;refine⟨s.heap.objs.size,_,_,_,_,_,tr,rfl,Walks.list (A:=X.A.in1) hh s.heap.objs.size l (aH hlt) its.toArray, ?_, ?_,λh' tk hk' => ?_⟩
 ·refine⟨?_,p.at λo e=>old _ o e⟩;exact⟨_,ay _ rfl,rfl,rfl⟩
 ·intro i v s' Q' E' hi hq;rw[h1 i v (by simpa using hi)]
  exact bv hq
 ·rw[av,h2];refine⟨.bl k,H,I.kept (t' :=tk) (λb o e=>hk' b o ?_ (old b o e)),rfl,q⟩;simp;exact aH (ar e)
theorem Gw (hh:X.A.handled=none)(gl:Gl X "all")(mg:X.mg "all"=none)(ha:jw X Y a fa)(hs:St1 X a:=by exact st1 rfl):Snd X Y (.Call (.Name "all" p) [a] [] pos) (ap1 Vw fa):=
 yt (yz hh) (λv t B H Q r sB q=>by
  cases r with
  | @lst l xs ts h r=>
   have q:Po Y rC B H (match UJ ts with | some k=> .ok (.bl k) | none=> .bad) Q:=q
   split at q
   ·rename_i k e;exact⟨l,xs,ts,k,rfl,h,r,e,po0 sB q rfl (.bl k)⟩
   ·exact q.elim
  | _=>exact q.elim) gl mg PyProof.Rows.Boot.«all» ha hs
end
inductive RS where
 | nx (ρ:En) | rt (t:T) | bk (ρ:En) | ct (ρ:En) | ex (c:Nat) | bad | rf (ts:List T)
def R.s {α:Type}(r:R α)(k:α->RS):RS:=match r with
 | .ok a=>k a
 | .ex c=> .ex c
 | .bad=> .bad
def PoS (Y:Fx)(B:Hp)(r:RS)(D:qz):Prop:=match r with
 | .nx ρ' =>∀σ' H' B',zw B B' ->SI Y B' ρ' σ' H' ->D.nx σ' H'
 | .rt t=>∀v H',zw Y.H0 H' ->Rep (zV Y.B0 Y.H0 H') v t->D.rt v H'
 | .bk ρ' =>∀σ' H' B',zw B B' ->SI Y B' ρ' σ' H' ->D.bk σ' H'
 | .ct ρ' =>∀σ' H' B',zw B B' ->SI Y B' ρ' σ' H' ->D.ct σ' H'
 | .ex c=>XP Y B c
 | .bad=>False
 | .rf ts=>∀a xs H' B',zw Y.H0 H' ->Y.H0 a=none->H' a=some (.lst xs)->zH B' xs ts->B' a=none->zw B' (zV Y.B0 Y.H0 H')->D.rt (.ref a) H'
theorem PoS.up {Y:Fx}{B B' :Hp}{r:RS}{D:qz}(s:zw B B')(h:PoS Y B r D):PoS Y B' r D:=by
 cases r with
 | nx ρ=>exact λσ' H' B2 s2 I=>h σ' H' B2 (s.trans s2) I
 | bk ρ=>exact λσ' H' B2 s2 I=>h σ' H' B2 (s.trans s2) I
 | ct ρ=>exact λσ' H' B2 s2 I=>h σ' H' B2 (s.trans s2) I
 | rt t=>exact h
 | rf t=>exact h
 | ex c=>exact λd H' s0 sB=>h d H' s0 (s.trans sB)
 | bad=>exact h
def tSS (Y:Fx)(f:En->RS)(ρ:En):TS:=λD σ H=>∃B,SI Y B ρ σ H/\PoS Y B (f ρ) D
structure wH (X:Cx) (Y:Fx) (e:Stmt) (f:En->RS):Prop where
 mk ::
 go:∀ρ,PS X e (tSS Y f ρ)
instance {X:Cx}{Y:Fx}{e:Stmt}{f:En->RS}:CoeFun (wH X Y e f) λ_=>∀ρ,PS X e (tSS Y f ρ):=⟨wH.go⟩
structure uF (X:Cx) (Y:Fx) (e:List Stmt) (f:En->RS):Prop where
 mk ::
 go:∀ρ,PSs X e (tSS Y f ρ)
instance {X:Cx}{Y:Fx}{e:List Stmt}{f:En->RS}:CoeFun (uF X Y e f) λ_=>∀ρ,PSs X e (tSS Y f ρ):=⟨uF.go⟩
theorem w9 {α β:Type}{Y:Fx}{rel:Hp->Hp->β->α->Prop}{f:En->R α}{k:α->RS}{ρ:En}{B:Hp}{σ:Sg}{H:Hp}{D:qz}{K:β->Hp->Prop}
  (I:SI Y B ρ σ H) (h:PoS Y B ((f ρ).s k) D)
  (n:∀a b H1,f ρ= .ok a->zw H H1->rel (zV B H H1) H1 b a->SI Y (zV B H H1) ρ σ H1->PoS Y (zV B H H1) (k a) D->K b H1):tS Y rel f ρ σ H K:=by
 refine⟨B,I, ?_⟩;cases e:f ρ with
 | bad=>rw[e]at h;exact h
 | ex c=>rw[e]at h;exact h
 | ok a=>
  rw[e]at h;exact λb H1 s r=>n a b H1 e s r (I.grow s) (PoS.up (zV.ge I.sB s) h)
theorem zS {α:Type}{xs:List α}{i j:Nat}{x y:α}(h:(xs.set i x)[j]? =some y):(j=i/\y=x)\/(j ≠ i/\xs[j]? =some y):=by
 by_cases e:j=i
 ·subst e
  by_cases hl:j < xs.length
  ·rw[bg hl]at h;exact .inl ⟨rfl,(aR h).symm⟩
  ·rw[bP (by rw[bj];omega)]at h;cases h
 ·rw[aM (cf e)]at h;exact .inr ⟨e,h⟩
theorem yA {α:Type}{xs:List α}{i:Nat}{x y:α}(h:(xs.set i x)[i]? =some y):i < xs.length:=by
 by_cases hl:i < xs.length
 ·exact hl
 ·rw[bP (by rw[bj];omega)]at h;cases h
theorem SI.setV {Y:Fx}{B:Hp}{ρ:En}{σ:Sg}{H:Hp}(I:SI Y B ρ σ H)(i:Nat){v:V}{t:T}(r:Rep B v t):SI Y B (ρ.set i (.vl t)) (σ.set i (some v)) H where
 s0:=I.s0
 sH:=I.sH
 sB:=I.sB
 old:=I.old
 len:=by rw[bj,bj];exact I.len
 vl:=λj u h=>by
  rcases zS h with ⟨rfl,e⟩ | ⟨hj,h'⟩
  ·cases e;exact⟨v,bg (by rw[← I.len];exact yA h),r⟩
  ·obtain⟨w,e,rr⟩:=I.vl j u h';exact⟨w,by rw[aM (cf hj)];exact e,rr⟩
 ow:=λj us h=>by
  rcases zS h with ⟨rfl,e⟩ | ⟨hj,h'⟩
  ·cases e
  ·obtain⟨a,xs,e,b0,h0,hh,rr,d⟩:=I.ow j us h';refine⟨a,xs,by rw[aM (cf hj)];exact e,b0,h0,hh,rr,λk ws hk hw=> ?_⟩
   rcases zS hw with ⟨rfl,e'⟩ | ⟨hk',hw'⟩
   ·cases e'
   ·rw[aM (cf hk')];exact d k ws hk hw'
 xc:=λj c h=>by
  rcases zS h with ⟨rfl,e⟩ | ⟨hj,h'⟩
  ·cases e
  ·obtain⟨a,e,r⟩:=I.xc j c h';exact⟨a,by rw[aM (cf hj)];exact e,r⟩
theorem SI.newO {Y:Fx}{B:Hp}{ρ:En}{σ:Sg}{H:Hp}(I:SI Y B ρ σ H)(i:Nat){p:Addr}{xs:List V}{ts:List T}(hp:H p=none)(r:zH B xs ts):SI Y B (ρ.set i (.ow ts)) (σ.set i (some (.ref p))) (upd H p (.lst xs)) where
 s0:=I.s0
 sH:=I.sH.trans (zw.new hp _)
 sB:=I.sB.trans (zw.new hp _)
 old:=I.old
 len:=by rw[bj,bj];exact I.len
 vl:=λj u h=>by
  rcases zS h with ⟨rfl,e⟩ | ⟨hj,h'⟩
  ·cases e
  ·obtain⟨w,e,rr⟩:=I.vl j u h';exact⟨w,by rw[aM (cf hj)];exact e,rr⟩
 ow:=λj us h=>by
  have op:∀k ws a,ρ[k]? =some (Sl.ow ws)->σ[k]? =some (some (V.ref a))->a ≠ p:=λk ws a h1 h2=>by
   obtain⟨a',xs',e,_,_,hh,_⟩:=I.ow k ws h1;rw[e]at h2;cases h2;exact zT hh hp
  rcases zS h with ⟨rfl,e⟩ | ⟨hj,h'⟩
  ·cases e;refine⟨p,xs,bg (by rw[← I.len];exact yA h),I.sB.free hp,I.sH.free hp,zU,r,λk ws hk hw=> ?_⟩
   rcases zS hw with ⟨rfl,e'⟩ | ⟨hk',hw'⟩
   ·exact absurd rfl hk
   ·rw[aM (cf hk')];exact λz=>op k ws p hw' z rfl
  ·obtain⟨a,xs',e,b0,h0,hh,rr,d⟩:=I.ow j us h';refine⟨a,xs',by rw[aM (cf hj)];exact e,b0,h0,by rw[zy (op j us a h' e)];exact hh,rr,λk ws hk hw=> ?_⟩
   rcases zS hw with ⟨rfl,e'⟩ | ⟨hk',hw'⟩
   ·rw[bg (by rw[← I.len];exact yA hw)]
    intro z;exact op j us a h' e (by injection z with z;injection z with z;injection z with z;exact z.symm)
   ·rw[aM (cf hk')];exact d k ws hk hw'
 xc:=λj c h=>by
  rcases zS h with ⟨rfl,e⟩ | ⟨hj,h'⟩
  ·cases e
  ·obtain⟨a,e,r⟩:=I.xc j c h';exact⟨a,by rw[aM (cf hj)];exact e,r⟩
theorem SI.chg {Y:Fx}{B:Hp}{ρ:En}{σ:Sg}{H:Hp}(I:SI Y B ρ σ H)(i:Nat){p:Addr}{ts us:List T}{ys:List V}(hi:ρ[i]? =some (.ow ts))(he:σ[i]? =some (some (.ref p)))(r:zH B ys us):SI Y B (ρ.set i (.ow us)) σ (upd H p (.lst ys)):=by
 obtain⟨p',xs,e,b0,h0,hh,rr,d⟩:=I.ow i ts hi;rw[he]at e;cases e;have nb:∀b o,B b=some o->b ≠ p:=λb o h z=>by subst z;rw[b0]at h;cases h
 have n0:∀b o,Y.H0 b=some o->b ≠ p:=λb o h z=>by subst z;rw[h0]at h;cases h
 refine⟨I.s0,λb o h=>by rw[zy (n0 b o h)];exact I.sH b o h,λb o h=>by rw[zy (nb b o h)];exact I.sB b o h,I.old,by rw[bj];exact I.len,λj u h=> ?_,λj ws h=> ?_,λj c h=> ?_⟩
 rotate_right
 ·rcases zS h with ⟨rfl,z⟩ | ⟨hj,h'⟩
  ·cases z
  ·exact I.xc j c h'
 ·rcases zS h with ⟨rfl,z⟩ | ⟨hj,h'⟩
  ·cases z
  ·exact I.vl j u h'
 ·rcases zS h with ⟨rfl,z⟩ | ⟨hj,h'⟩
  ·cases z;refine⟨p,ys,he,b0,h0,zU,r,λk vs hk hw=> ?_⟩;rcases zS hw with ⟨rfl,e'⟩ | ⟨hk',hw'⟩
   ·exact absurd rfl hk
   ·exact d k vs hk hw'
  ·obtain⟨a,xs',e,c0,g0,gg,ss,d'⟩:=I.ow j ws h';have hne:a ≠ p:=λz=>by subst z;exact d j ws hj h' e
   refine⟨a,xs',e,c0,g0,by rw[zy hne];exact gg,ss,λk vs hk hw=> ?_⟩
   rcases zS hw with ⟨rfl,e'⟩ | ⟨hk',hw'⟩
   ·rw[he];intro z;injection z with z;injection z with z;injection z with z;exact hne z.symm
   ·exact d' k vs hk hw'
def wn:Sl->Sl
 | .ow ts=> .vl (.lst ts)
 | x=>x
def frz (ρ:En):En:=ρ.map wn
theorem SI.up {Y:Fx}{B:Hp}{ρ:En}{σ:Sg}{H:Hp}(I:SI Y B ρ σ H):zw B (zV B Y.H0 H):=λb o h=>by
 cases q:Y.H0 b with
 | none=>rw[Zc q];exact I.sB b o h
 | some u=>rw[Ze q];exact h
theorem SI.frz {Y:Fx}{B:Hp}{ρ:En}{σ:Sg}{H:Hp}(I:SI Y B ρ σ H):SI Y (zV B Y.H0 H) (PV.frz ρ) σ H:=by
 have up:zw B (zV B Y.H0 H):=λb o h=>by
  cases q:Y.H0 b with
  | none=>rw[Zc q];exact I.sB b o h
  | some u=>rw[Ze q];exact h
 refine⟨I.s0,I.sH,λb o h=> ?_,λb o h=>by rw[Ze h];exact I.old b o h,by unfold PV.frz;rw[ac];exact I.len,λj t h=> ?_,λj ts h=> ?_,λj c h=> ?_⟩
 rotate_right
 ·unfold PV.frz at h;rw[aG]at h;cases e:ρ[j]? with
  | none=>rw[e]at h;cases h
  | some x=>
   rw[e]at h;cases x with
   | xc d=>
    cases h;obtain⟨a,e1,r⟩:=I.xc j _ e;exact⟨a,e1,up a _ r⟩
   | un=>cases h
   | vl _=>cases h
   | ow _=>cases h
 ·cases q:Y.H0 b with
  | none=>rw[Zc q]at h;exact h
  | some u=>rw[Ze q]at h;exact I.sB b o h
 ·unfold PV.frz at h;rw[aG]at h;cases e:ρ[j]? with
  | none=>rw[e]at h;cases h
  | some x=>
   rw[e]at h;cases x with
   | un=>cases h
   | vl u=>
    cases h;obtain⟨v,e1,r⟩:=I.vl j _ e;exact⟨v,e1,r.mono up⟩
   | ow us=>
    cases h;obtain⟨a,xs,e1,b0,h0,hh,rr,_⟩:=I.ow j us e;exact⟨.ref a,e1,.lst (by rw[Zc h0];exact hh) (rr.mono up)⟩
   | xc _=>cases h
 ·unfold PV.frz at h;rw[aG]at h;cases e:ρ[j]? with
  | none=>rw[e]at h;cases h
  | some x=>
   rw[e]at h;cases x with
   | un=>cases h
   | vl u=>cases h
   | ow us=>cases h
   | xc _=>cases h
theorem kb {Y:Fx}{B H H' :Hp}(s0:zw Y.H0 H)(old:∀b o,Y.H0 b=some o->B b=Y.B0 b)(s:zw H H')(sB:zw B H):zw (zV B H H') (zV Y.B0 Y.H0 H'):=λb o h=>by
 cases q:H b with
 | none=>
  rw[Zc q]at h;rw[Zc (s0.free q)];exact h
 | some u=>
  rw[Ze q]at h;cases z:Y.H0 b with
  | none=>rw[Zc z];exact s b o (sB b o h)
  | some w=>rw[Ze z,← old b w z];exact h
section
variable {X:Cx}{Y:Fx}{a b c d:Expr}{fa fb fc fd:En->R T}{pos p:Pos}{st:Stmt}{sts sts' :List Stmt}{f g:En->RS}
def nxS:En->RS:=λρ=> .nx ρ
def zm (f g:En->RS):En->RS:=λρ=>match f ρ with
 | .nx ρ' =>g ρ'
 | r=>r
theorem Gx:uF X Y [] nxS:= .mk λρ=>PSs.imp V0 λD σ H ⟨B,I,q⟩=>q σ H B (zw.refl B) I
theorem Gy (h:wH X Y st f):uF X Y [st] f:= .mk λρ=>UP (h ρ)
theorem kd (h1:wH X Y st f)(h2:uF X Y sts g):uF X Y (st :: sts) (zm f g):= .mk λρ=>by
 refine PSs.imp (qB (u:=λD σ H=>∃ρ',tSS Y g ρ' D σ H) (h1 ρ) ?_) ?_
 ·intro pins s σ H D I ⟨ρ',q⟩;exact h2 ρ' pins s σ H D I q
 ·intro D σ H ⟨B,I,q⟩;refine⟨B,I, ?_⟩;unfold zm at q;cases e:f ρ with
  | nx ρ' =>
   rw[e]at q;intro σ' H' B' s' I';exact⟨ρ',B',I',PoS.up s' q⟩
  | rt t=>rw[e]at q;exact q
  | rf t=>rw[e]at q;exact q
  | bk ρ' =>rw[e]at q;exact q
  | ct ρ' =>rw[e]at q;exact q
  | ex c=>rw[e]at q;exact q
  | bad=>rw[e]at q;exact q
def zx (i:Nat)(fa:En->R T):En->RS:=λρ=>(fa ρ).s λt=> .nx (ρ.set i (.vl t))
theorem ke {i:Nat}{x:Str}{p' :Pos}(hN:X.N.Nodup)(hi:X.N[i]? =some x)(hx:L2.Loc X.env.scope x)(ha:Snd X Y a fa)(hs:swapsWith a (some (.Name x p')) pos.line X.env=pure false:=by rfl)
  (hf:X.fn x=true\/X.env.scope.names.lookup x=some .local:=by first | exact .inl rfl | exact .inr rfl | assumption):wH X Y (.Assign [.Name x p'] a pos) (zx i fa):= .mk λρ=>
 PS.imp (uz hN hi hx (ha ρ) hs hf) λD σ H ⟨B,I,q⟩=>w9 I q λt v H1 _ s1 r1 I1 q1=>q1 _ _ _ (zw.refl _) (I1.setV i r1)
def yB (i:Nat)(ga:En->R (List T)):En->RS:=λρ=>(ga ρ).s λts=>if ts.length<=bnd then .nx (ρ.set i (.ow ts)) else .bad
theorem kf {i:Nat}{x:Str}{p' :Pos}{es:List Expr}{ga:En->R (List T)}(hN:X.N.Nodup)(hi:X.N[i]? =some x)(hx:L2.Loc X.env.scope x)(ha:Wk X Y es ga)(hs:swapsWith (.List es p) (some (.Name x p')) pos.line X.env=pure false:=by rfl)
  (hf:X.fn x=true\/X.env.scope.names.lookup x=some .local:=by first | exact .inl rfl | exact .inr rfl | assumption):wH X Y (.Assign [.Name x p'] (.List es p) pos) (yB i ga):= .mk λρ=>
 PS.imp (uz hN hi hx (y7 (ha ρ)) hs hf) λD σ H ⟨B,I,q⟩=>w9 I q λts vs H1 _ s1 r1 I1 q1=>by
  split at q1
  ·rename_i hb;exact⟨by rw[r1.length];exact ZX hb,λp hp=>q1 _ _ _ (zw.refl _) (I1.newO i hp r1)⟩
  ·exact q1.elim
def zt (fa:En->R T):En->RS:=λρ=>(fa (frz ρ)).s λt=> .rt t
theorem Gz (ha:Snd X Y a fa):wH X Y (.Return (some a) pos) (zt fa):= .mk λρ=>
 PS.imp (Xn (ha (frz ρ))) λD σ H ⟨B,I,q⟩=>by
  refine⟨_,I.frz, ?_⟩;unfold zt at q;cases e:fa (frz ρ) with
  | bad=>rw[e]at q;exact q
  | ex c=>
   rw[e]at q;exact λd H' s0 sG=>q d H' s0 (I.up.trans sG)
  | ok t=>
   rw[e]at q;intro v H' s r;have J:=I.frz;exact q v H' (I.sH.trans s) (r.mono (kb J.sH J.old s J.sB))
def ifS (g:En->R Bool)(f1 f2:En->RS):En->RS:=λρ=>(g ρ).s λk=>if k=true then f1 ρ else f2 ρ
theorem GA {ga:En->R Bool}(hc:Wj X Y c ga)(h1:uF X Y sts f)(h2:uF X Y sts' g):wH X Y (.If c sts sts' pos) (ifS ga f g):= .mk λρ=>
 PS.imp (gL (hc ρ) (h1 ρ) (h2 ρ)) λD σ H ⟨B,I,q⟩=>w9 I q λt v H1 _ s1 r1 I1 q1=>by
  have r1' :v=t:=r1;subst r1';cases v with
  | true=>exact⟨_,I1,q1⟩
  | false=>exact⟨_,I1,q1⟩
def u4 (fa:En->R T):En->RS:=λρ=>(fa ρ).s λ_=> .nx ρ
theorem kg (ha:Snd X Y a fa)(hs:swapsWith a none pos.line X.env=pure false:=by rfl):wH X Y (.Expr a pos) (u4 fa):= .mk λρ=>
 PS.imp (WU (ha ρ) hs) λD σ H ⟨B,I,q⟩=>w9 I q λt v H1 _ s1 r1 I1 q1=>q1 _ _ _ (zw.refl _) I1
def KT (i:Nat)(fa:En->R T):En->RS:=λρ=>match ρ[i]? with
 | some (.ow ts)=>(fa ρ).s λt=>if ts.length < bnd then .nx (ρ.set i (.ow (ts++[t]))) else .bad
 | _=> .bad
def qT (i:Nat)(fa:En->R T):En->RS:=λρ=>match ρ[i]? with
 | some (.ow ts)=>(fa ρ).s λt=>match t with
  | .lst us=>if ts.length+us.length<=bnd then .nx (ρ.set i (.ow (ts++us))) else .bad
  | _=> .bad
 | _=> .bad
theorem kh {n:Nat}(h:n < bnd):n < sizeLine:=by rw[bS];exact h
theorem GB {i:Nat}{x:Str}{px pa:Pos}(hv:PE X (.Name x px) (UN i))(ha:Snd X Y a fa)(hb:attributeBase (.Name x px) "append" X.env (eval (.Name x px) X.env)=eval (.Name x px) X.env:=by rfl)(hs:St1 X a:=by exact st1 rfl)
  (hz:(pa.endLine == p.line)=true:=by rfl) (hw:swapsWith (.Call (.Attribute (.Name x px) "append" pa) [a] [] p) none pos.line X.env=pure false:=by rfl):wH X Y (.Expr (.Call (.Attribute (.Name x px) "append" pa) [a] [] p) pos) (KT i fa):= .mk λρ=>by
 have e1:(((((backTo p (starEach [a] X.env)).all λx=> !x.fst) && (backToKw p (keywordEach [] X.env)).all λx=>x.fst.isSome) && decide (([a].length+([]:List Keyword).length+if ([]:List Keyword).isEmpty=true then 0 else 1) < 30))=true):=by rw[hs];rfl
 refine PS.imp (WU (yc cw PySem.F.slot_list_append PySem.F.type_list_append Wg hv (zu (ha ρ) Za hs) hb e1 hz hs rfl) hw) λD σ H ⟨B,I,q⟩=> ?_;unfold KT at q;split at q
 ·rename_i ts e;obtain⟨l,xs,e1,b0,h0,hh,rr,d⟩:=I.ow i ts e;refine⟨.ref l,e1,.inl ⟨rfl,_,SqL.of hh⟩, ?_⟩;refine w9 I q λt v H1 _ s1 r1 I1 q1=> ?_;split at q1
  ·rename_i hb;refine⟨l,xs,v,rfl,rfl,s1 _ _ hh,by rw[rr.length];exact kh hb, ?_⟩
   exact q1 _ _ _ (zw.refl _) (I1.chg i e e1 ((rr.mono (zV.ge I.sB s1)).append (.cons r1 .nil)))
  ·exact q1.elim
 ·exact q.elim
theorem GC {i:Nat}{x:Str}{px pa:Pos}(hv:PE X (.Name x px) (UN i))(ha:Snd X Y a fa)(hb:attributeBase (.Name x px) "extend" X.env (eval (.Name x px) X.env)=eval (.Name x px) X.env:=by rfl)(hs:St1 X a:=by exact st1 rfl)
  (hz:(pa.endLine == p.line)=true:=by rfl) (hw:swapsWith (.Call (.Attribute (.Name x px) "extend" pa) [a] [] p) none pos.line X.env=pure false:=by rfl):wH X Y (.Expr (.Call (.Attribute (.Name x px) "extend" pa) [a] [] p) pos) (qT i fa):= .mk λρ=>by
 have e1:(((((backTo p (starEach [a] X.env)).all λx=> !x.fst) && (backToKw p (keywordEach [] X.env)).all λx=>x.fst.isSome) && decide (([a].length+([]:List Keyword).length+if ([]:List Keyword).isEmpty=true then 0 else 1) < 30))=true):=by rw[hs];rfl
 refine PS.imp (WU (yc cw PySem.F.slot_list_extend PySem.F.type_list_extend yd hv (zu (ha ρ) Za hs) hb e1 hz hs rfl) hw) λD σ H ⟨B,I,q⟩=> ?_;unfold qT at q;split at q
 ·rename_i ts e;obtain⟨l,xs,e1,b0,h0,hh,rr,d⟩:=I.ow i ts e;refine⟨.ref l,e1,.inl ⟨rfl,_,SqL.of hh⟩, ?_⟩;refine w9 I q λt v H1 _ s1 r1 I1 q1=> ?_;cases r1 with
  | @lst b zs us hb r=>
   have q1:PoS Y _ (if ts.length+us.length<=bnd then .nx (ρ.set i (.ow (ts++us))) else .bad) D:=q1
   split at q1
   ·rename_i hl;refine⟨l,b,xs,zs,rfl,rfl,s1 _ _ hh,I1.sB _ _ hb,by rw[rr.length,r.length];exact ZX hl, ?_⟩
    exact q1 _ _ _ (zw.refl _) (I1.chg i e e1 ((rr.mono (zV.ge I.sB s1)).append r))
   ·exact q1.elim
  | _=>exact q1.elim
 ·exact q.elim
end
def spP (cl:Nat->Value)(n:Nat)(g:List T->R T):Sp:=λvs H Q E=>∃B ts,ts.length=n/\zw B H/\zH B vs ts/\Po ⟨B,H,E,cl⟩ rC B H (g ts) Q
theorem spP.len {cl:Nat->Value}{n:Nat}{g:List T->R T}(vs:List V)(H:Hp)(Q:VK)(E:XK)(h:spP cl n g vs H Q E):vs.length=n:=by
 obtain⟨B,ts,hl,_,r,_⟩:=h;rw[r.length,hl]
def za (n:Nat)(g:List T->R T)(ga:En->R (List T)):En->R T:=λρ=>(ga ρ).bind λts=>if ts.length=n then g ts else .bad
section
variable {X:Cx}{Y:Fx}{a b c d:Expr}{fa fb fc fd:En->R T}{pos p:Pos}
theorem vd {CX:CXT}{k n:Nat}{f:Addr}{fd:FuncData}{ps:List Str}{g:List T->R T}{x:Str}{es:List Expr}{ga:En->R (List T)}(F:Zh X.prog X.w X.K X.mg X.base CX k f fd ps (spP Y.cl n g))(hr:jv k X.A)(gl:Gl X x)(mg:X.mg x=some (.ref f))
  (kp:bL X.K (.ref f)=true) (bd:L2.Binds X.K fd ps []) (hx:ZQ CX X Y.E) (ha:Wk X Y (a :: es) ga) (hd:(x == ("__debug__":Str))=false:=by decide)
  (hs:starEach (a :: es) X.env=(false,eval a X.env) :: starEach es X.env:=by exact zN rfl) (hz:((backTo pos (starEach es X.env)).any λx=>x.fst)=false:=by exact Zy rfl):Snd X Y (.Call (.Name x p) (a :: es) [] pos) (za n g ga):= .mk λρ=>
 PE.imp (y8 F hr gl mg kp bd .nil hx (ha ρ) hd hs hz) λσ H Q ⟨B,I,q⟩=>step I q λts vs H1 _ s1 r1 I1 q1=>by
  split at q1
  ·rename_i hn;rw[ci];refine⟨_,ts,hn,I1.sB,r1, ?_⟩;revert q1;cases g ts with
   | bad=>exact λq1=>q1
   | ex c=>exact λq1 d H' s sB=>q1 d H' (I1.sH.trans s) sB
   | ok t=>exact λq1=>q1
  ·exact q1.elim
end
def zg:RS->R T
 | .rt t=> .ok t
 | .rf ts=> .ok (.lst ts)
 | .nx _=> .ok .non
 | .ex c=> .ex c
 | _=> .bad
def en0 (n:Nat)(ts:List T):En:=ts.map Sl.vl++ag (n - ts.length) Sl.un
theorem zH.vl {H:Hp}:∀{vs:List V} {ts:List T} {i:Nat} {t:T} {n m:Nat},zH H vs ts->(ts.map Sl.vl++ag n Sl.un)[i]? =some (Sl.vl t)->∃v:V,(vs.map some++ag m none)[i]? =some (some v)/\Rep H v t
 | _,_,i,t,n,m,.nil,h=>by
  exfalso;simp only[bY,bG]at h;rw[aF]at h;split at h
  ·cases h
  ·cases h
 | _,_,0,t,n,m,.cons r _,h=>by
  simp at h;subst h;exact⟨_,rfl,r⟩
 | _,_,i+1,t,n,m,.cons _ q,h=>by
  obtain⟨v,h1,h2⟩:=zH.vl (i:=i) (t:=t) (n:=n) (m:=m) q (by simpa using h)
  exact⟨v,by simpa using h1,h2⟩
theorem ve {n:Nat}:∀{ts:List T} {i:Nat} {us:List T},(ts.map Sl.vl++ag n Sl.un)[i]? =some (Sl.ow us)->False
 | [],i,us,h=>by
  simp only[bY,bG]at h;rw[aF]at h;split at h
  ·cases h
  ·cases h
 | t :: ts,0,us,h=>by simp at h
 | t :: ts,i+1,us,h=>ve (ts:=ts) (i:=i) (us:=us) (n:=n) (by simpa using h)
theorem vf {n:Nat}:∀{ts:List T} {i:Nat} {c:Nat},(ts.map Sl.vl++ag n Sl.un)[i]? =some (Sl.xc c)->False
 | [],i,us,h=>by
  simp only[bY,bG]at h;rw[aF]at h;split at h
  ·cases h
  ·cases h
 | t :: ts,0,us,h=>by simp at h
 | t :: ts,i+1,us,h=>vf (ts:=ts) (i:=i) (c:=us) (n:=n) (by simpa using h)
theorem SI.start {Y:Fx}{N:List Str}{vs:List V}{ts:List T}(s:zw Y.B0 Y.H0)(r:zH Y.B0 vs ts):SI Y Y.B0 (en0 N.length ts) (L2.start N vs) Y.H0 where
 s0:=s
 sH:=zw.refl _
 sB:=s
 old:=λ_ _ _=>rfl
 len:=by unfold en0 L2.start;simp[r.length]
 vl:=λi t h=>r.vl h
 ow:=λi ts h=>(ve h).elim
 xc:=λi c h=>(vf h).elim
section
variable {P:Program}{w:World}{K:ai}{mg:Str->Option Value}{base:Heap}
theorem Z6 {cl:Nat->Value}{x qual:Str}{st:Stmt}{f:Addr}{fd:FuncData}{N ps:List Str}{k n:Nat}{fb:En->RS}{g:List T->R T}(F:Fun K x qual st f fd)(S:zh N ps (zd st))(hn:n=ps.length)
  (hb:∀(cdv:Value) (A:Around) (outer:List Env) (s:Shared) (H:Hp) (E:XK) (Y:Fx),Y.cl=cl->jv k (A.deeper (envOfC qual (zd st) s.heap.objs.size f cdv))->
   uF (w4 CX0 P w K mg base N qual (zd st) f cdv A outer s H E).nox Y (Zw st) fb)
  (hg:∀ts,ts.length=n->g ts=zg (fb (en0 N.length ts))):Zh P w K mg base CX0 (k+1) f fd ps (spP cl n g):=by
 subst hn;refine F.ok S spP.len λcdv A outer s H vs Q E hr ⟨B,ts,hl,sB,r,q⟩=> ?_;refine⟨_,hb cdv A outer s H E ⟨B,H,E,cl⟩ rfl hr (en0 N.length ts),B,SI.start (Y:=⟨B,H,E,cl⟩) sB r, ?_⟩;rw[hg ts hl]at q;revert q;cases fb (en0 N.length ts) with
 | rt t=>exact λq v H' s r=>q v H' s r
 | rf t=>exact λq a xs H' B' s0 n e r _ l=>q (.ref a) H' s0 (.lst (by rw[Zc n];exact e) (r.mono l))
 | nx ρ=>exact λq σ' H' B' _ I=>q .non H' I.sH .non
 | ex c=>exact λq=>q
 | bk ρ=>exact λq=>q.elim
 | ct ρ=>exact λq=>q.elim
 | bad=>exact λq=>q
end
abbrev rI:Hp->Hp->It->List T->Prop:=λB1 _ J ts=>∀B2 H2,zw B1 B2->zw B2 H2->(∀i,i < ts.length->J.go i H2)/\(∀(i:Nat) t x H3,ts[i]? =some t->J.yld i H2 x H3->zw H2 H3/\Rep (zV B2 H2 H3) x t)/\(∀i,ts.length<=i->J.stop i H2)
structure yC (X:Cx) (Y:Fx) (tg iter:Expr) (f:En->R (List T)):Prop where
 mk ::
 go:∀ρ,PI X tg iter (tS Y rI f ρ)
instance {X:Cx}{Y:Fx}{tg iter:Expr}{f:En->R (List T)}:CoeFun (yC X Y tg iter f) λ_=>∀ρ,PI X tg iter (tS Y rI f ρ):=⟨yC.go⟩
section
variable {X:Cx}{Y:Fx}{a b c d tg:Expr}{fa fb fc fd:En->R T}{pos p:Pos}
theorem PI.imp {e:Expr}{t t' :TI}(h:PI X tg e t)(i:∀σ H Q,t' σ H Q->t σ H Q):PI X tg e t' :=λpins s σ H Q I q=>h pins s σ H Q I (i σ H Q q)
theorem ki {K:ai}{B1 H1:Hp}{a:Addr}{xs:List V}{ts:List T}(h:B1 a=some (.tup xs))(r:zH B1 xs ts):rI B1 H1 (Itt K a) ts:=λB2 H2 s1 s2=>by
 have h2:=s2 _ _ (s1 _ _ h);refine⟨λi hi=> ?_,λi t x H3 e y=> ?_,λi hi=>⟨xs,SqT.of h2,by rw[r.length];exact hi⟩⟩
 ·obtain⟨v,e,_⟩:=r.get (ad hi);exact⟨xs,v,SqT.of h2,e⟩
 ·obtain⟨rfl,y⟩:=y;obtain⟨v,e1,r1⟩:=r.get e;have:=y xs (SqT.of h2);rw[e1]at this;cases this;refine⟨zw.refl _, ?_⟩;rw[zV.self B2 _ s2];exact r1.mono s1
theorem kj {K:ai}{B1 H1:Hp}{a:Addr}{xs:List V}{ts:List T}(h:B1 a=some (.lst xs))(r:zH B1 xs ts):rI B1 H1 (Itl K a) ts:=λB2 H2 s1 s2=>by
 have h2:=s2 _ _ (s1 _ _ h);refine⟨λi hi=> ?_,λi t x H3 e y=> ?_,λi hi=>⟨xs,SqL.of h2,by rw[r.length];exact hi⟩⟩
 ·obtain⟨v,e,_⟩:=r.get (ad hi);exact⟨xs,v,SqL.of h2,e⟩
 ·obtain⟨rfl,y⟩:=y;obtain⟨v,e1,r1⟩:=r.get e;have:=y xs (SqL.of h2);rw[e1]at this;cases this;refine⟨zw.refl _, ?_⟩;rw[zV.self B2 _ s2];exact r1.mono s1
def rng (lo:Int)(n:Nat):List T:=(aC n).map λ(i:Nat)=>T.int (lo+(i:Int))
theorem vg {B1 H1:Hp}{lo:Int}{n:Nat}:rI B1 H1 (Itr lo n) (rng lo n):=λB2 H2 s1 s2=>by
 have hl:(rng lo n).length=n:=by unfold rng;simp
 refine⟨λi hi=>by rw[hl]at hi;exact hi,λi t x H3 e y=> ?_,λi hi=>by rw[hl]at hi;exact hi⟩
 obtain⟨rfl,rfl⟩:=y;refine⟨zw.refl _, ?_⟩;unfold rng at e;rw[aG]at e
 by_cases hi:i < n
 ·rw[List.getElem?_range hi]at e;cases e;exact .int _
 ·rw[bP (by simp;omega)]at e;cases e
def Zd (fa:En->R T):En->R (List T):=λρ=>(fa ρ).bind λt=>match t with
 | .int j=>if -1000000 < j/\j < 1000000 then .ok (rng 0 j.toNat) else .bad
 | _=> .bad
def Jm (fa fb:En->R T):En->R (List T):=λρ=>(fa ρ).bind λt=>(fb ρ).bind λt' =>match t,t' with
 | .int i,.int j=>if -1000000 < i/\i < 1000000/\ -1000000 < j/\j < 1000000 then .ok (rng i (j - i).toNat) else .bad
 | _,_=> .bad
theorem kl (gl:Gl X "range")(mg:X.mg "range"=none)(ha:Snd X Y a fa)(hs:St1 X a:=by exact st1 rfl):yC X Y tg (.Call (.Name "range" p) [a] [] pos) (Zd fa):= .mk λρ=>PI.imp (US gl mg (zu (ha ρ) Za hs) hs) λσ H R ⟨B,I,q⟩=>step I q λt v H1 _ s1 r1 I1 q1=>by
 cases r1 with
 | int j=>
  have q1:Po Y rI _ H1 (if -1000000 < j/\j < 1000000 then .ok (rng 0 j.toNat) else .bad) R:=q1
  split at q1
  ·rename_i hj;exact⟨j,rfl,by omega,by omega,ZP I1 q1 vg⟩
  ·exact q1.elim
 | _=>exact q1.elim
theorem km (gl:Gl X "range")(mg:X.mg "range"=none)(ha:Snd X Y a fa)(hb:Snd X Y b fb)(hs:starEach [a,b] X.env=[(false,eval a X.env),(false,eval b X.env)]:=by exact st2 rfl rfl)(hs2:St1 X b:=by exact st1 rfl):yC X Y tg (.Call (.Name "range" p) [a,b] [] pos) (Jm fa fb):= .mk λρ=>
 PI.imp (UT gl mg (zu (ha ρ) (zu (hb ρ) Za hs2) (by rw[hs,hs2])) hs hs2) λσ H R ⟨B,I,q⟩=>step I q λt v H1 _ s1 r1 I1 q1=>step I1 q1 λt' v' H2 _ s2 r2 I2 q2=>by
  cases r1 with
  | int i=>
   cases r2 with
   | int j=>
    have q2:Po Y rI _ H2 (if -1000000 < i/\i < 1000000/\ -1000000 < j/\j < 1000000 then .ok (rng i (j - i).toNat) else .bad) R:=q2
    split at q2
    ·rename_i hj;exact⟨i,j,rfl,⟨by omega,by omega,by omega,by omega⟩,ZP I2 q2 vg⟩
    ·exact q2.elim
   | _=>exact q2.elim
  | _=>cases r2 <;> exact q2.elim
def kn (X:Cx)(Y:Fx)(tg:Expr)(g:T->En->R En):Prop:=∃t:TG,PG X tg t/\∀B ρ σ H v x Q,SI Y B ρ σ H->Rep B v x->(match g x ρ with | .ok ρ' =>∀σ',SI Y B ρ' σ' H->Q σ' H | _=>False)->t v σ H Q
def zo (i:Nat):T->En->R En:=λt ρ=> .ok (ρ.set i (.vl t))
theorem vh {i:Nat}{x:Str}(hN:X.N.Nodup)(hi:X.N[i]? =some x)(hx:L2.Loc X.env.scope x)(hf:X.fn x=true\/X.env.scope.names.lookup x=some .local:=by first | exact .inl rfl | exact .inr rfl | assumption):kn X Y (.Name x pos) (zo i):=
 ⟨W7 i,zn hN hi hx hf,λB ρ σ H v x Q I r q=>q _ (I.setV i r)⟩
def Zb (i j:Nat):T->En->R En:=λt ρ=>match t with
 | .tup [x,y]=> .ok ((ρ.set i (.vl x)).set j (.vl y))
 | _=> .bad
theorem vi {i j:Nat}{x y:Str}{p' p2:Pos}{k:Nat}(hc:X.calm=true)(hN:X.N.Nodup)(hi:X.N[i]? =some x)(hj:X.N[j]? =some y)(hx:L2.Loc X.env.scope x)(hy:L2.Loc X.env.scope y)
  (hf:X.fn x=true\/X.env.scope.names.lookup x=some .local:=by first | exact .inl rfl | exact .inr rfl | assumption) (hf' :X.fn y=true\/X.env.scope.names.lookup y=some .local:=by first | exact .inl rfl | exact .inr rfl | assumption):
  kn X Y (.Tuple [.Name x pos,.Name y p'] k p2) (Zb i j):=by
 refine⟨gN X.K 2 (UQ (W7 i) (UQ (W7 j) gM)),wf hc (Zj (zn hN hi hx hf) (Zj (zn hN hj hy hf') jP)),λB ρ σ H v t Q I r q=> ?_⟩;cases r with
 | @tup l xs ts h r=>
  cases r with
  | nil=>exact q.elim
  | cons r1 rr=>
   cases rr with
   | nil=>exact q.elim
   | cons r2 rr=>
    cases rr with
    | cons _ _=>exact q.elim
    | nil=>
     exact⟨l,_,rfl,SqT.of (I.sB _ _ h),rfl,_,_,rfl,_,_,rfl,rfl,q _ ((I.setV i r1).setV j r2)⟩
 | _=>exact q.elim
def ZK (g:T->En->R En)(fb:En->RS):List T->En->RS
 | [],ρ=> .nx ρ
 | t :: ts,ρ=>match g t ρ with
  | .ok ρ1=>match fb ρ1 with
   | .nx ρ2=>ZK g fb ts ρ2
   | .ct ρ2=>ZK g fb ts ρ2
   | .bk ρ2=> .nx ρ2
   | r=>r
  | .ex c=> .bad
  | .bad=> .bad
def ju (fi:En->R (List T))(g:T->En->R En)(fb:En->RS):En->RS:=λρ=>(fi ρ).s λts=>ZK g fb ts ρ
theorem GD {iter:Expr}{sts:List Stmt}{fi:En->R (List T)}{g:T->En->R En}{fb:En->RS}(hp:PassesOwn (model X.prog X.w) X.A X.env X.xe)(hc:X.calm=true)(hi:yC X Y tg iter fi)(hg:kn X Y tg g)(hb:uF X Y sts fb)
  (hs:∀x,foldedSetIterable iter X.env x=pure x:=by intro _;rfl):wH X Y (.For tg iter sts [] pos) (ju fi g fb):= .mk λρ=>by
 obtain⟨tG,hG,hG'⟩:=hg;refine PS.imp (Xq (tb:=λD σ H=>∃ρ',tSS Y fb ρ' D σ H) hp hc (hi ρ) hG (λpins s σ H D I ⟨ρ',q⟩=>hb ρ' pins s σ H D I q) hs) λD σ H ⟨B,I,q⟩=> ?_;refine w9 I q λts J H1 _ s1 r1 I1 q1=> ?_;refine⟨λi m σ' H' =>m=ts.length - i/\i<=ts.length/\∃ρ' B',SI Y B' ρ' σ' H' /\zw (zV B H H1) B' /\PoS Y B' (ZK g fb (ts.drop i) ρ') D,⟨ts.length,by simp,bT _,ρ,_,I1,zw.refl _,q1⟩, ?_⟩
 rintro i m σ' H' ⟨rfl,hi,ρ',B',I',sB',q'⟩
 obtain⟨hgo,hyld,hstop⟩:=r1 B' H' sB' I'.sB
 by_cases hlt:i < ts.length
 ·refine .inr ⟨hgo i hlt,λσ2 H2=>∃ρ2 B2,SI Y B2 ρ2 σ2 H2/\zw (zV B H H1) B2/\PoS Y B2 (ZK g fb (ts.drop (i+1)) ρ2) D,λσ2 H2 ⟨ρ2,B2,I2,s2,q2⟩=>⟨ts.length - (i+1),by omega,rfl,hlt,ρ2,B2,I2,s2,q2⟩,λx H2 y=> ?_⟩
  obtain⟨s2,r2⟩:=hyld i _ x H2 (ad hlt) y;rw[cg hlt]at q';unfold ZK at q';refine hG' _ ρ' σ' H2 x _ _ (I'.grow s2) r2 ?_;cases eg:g ts[i] ρ' with
  | bad=>rw[eg]at q';exact q'
  | ex c=>rw[eg]at q';exact q'
  | ok ρ1=>
   rw[eg]at q';intro σ1 J1;refine⟨ρ1,_,J1, ?_⟩;have q2:=PoS.up (zV.ge I'.sB s2) q';dsimp only at q2;have s3:zw (zV B H H1) (zV B' H' H2):=sB'.trans (zV.ge I'.sB s2);revert q2;cases fb ρ1 with
   | nx ρ2=>exact λq2 σ3 H3 B3 s4 I3=>⟨ρ2,B3,I3,s3.trans s4,PoS.up s4 q2⟩
   | ct ρ2=>exact λq2 σ3 H3 B3 s4 I3=>⟨ρ2,B3,I3,s3.trans s4,PoS.up s4 q2⟩
   | bk ρ2=>exact λq2=>q2
   | rt t=>exact λq2=>q2
   | rf t=>exact λq2=>q2
   | ex c=>exact λq2=>q2
   | bad=>exact λq2=>q2
 ·have e:i=ts.length:=by omega
  subst e;rw[io]at q';exact .inl ⟨hstop _ (am _),q' σ' H' B' (zw.refl _) I'⟩
end
theorem JE {env:Env}:∀(ns:List (Str×NameKind)) (acc:List (Str×Addr)),(∀x∈ns,x.2=NameKind.free->∃c,env.cells.lookup x.1=some c)->(∀x c,acc.lookup x=some c->env.cells.lookup x=some c)->
  ∃cl,(forIn ns acc (λ(x:Str×NameKind) (r:List (Str×Addr))=>if (x.2 == NameKind.free)=true then (do let c ← cellOf env x.1;pure (ForInStep.yield ((x.1,c) :: r))) else pure (ForInStep.yield r)):Sem _)=pure cl/\
   (∀x c,cl.lookup x=some c->env.cells.lookup x=some c)/\(∀x c,acc.lookup x=some c->∃c',cl.lookup x=some c')/\(∀x∈ns,x.2=NameKind.free->∃c,cl.lookup x.1=some c)
 | [],acc,_,h=>⟨acc,rfl,h,λx c e=>⟨c,e⟩,λx hx=>by simp at hx⟩
 | (n,k) :: ns,acc,hf,h=>by
  by_cases hk:k=NameKind.free
  ·obtain⟨c,hc⟩:=hf (n,k) ah hk;have h' :∀x d,((n,c) :: acc).lookup x=some d->env.cells.lookup x=some d:=λx d e=>by
    by_cases hx:x=n
    ·subst hx;have e' :some c=some d:=by simpa[aS] using e
     cases e';exact hc
    ·have e' :acc.lookup x=some d:=by
      rw[aS,(beq_eq_false_iff_ne.mpr hx)]at e;exact e
     exact h x d e'
   obtain⟨cl,e,h1,h2,h3⟩:=JE ns ((n,c) :: acc) (λx hx=>hf x (ae _ hx)) h';refine⟨cl, ?_,h1,λx d ed=> ?_,λx hx hxf=> ?_⟩
   ·rw[dJ];subst hk;have q:cellOf env n=pure c:=by unfold cellOf;rw[hc]
    simp only[beq_self_eq_true,if_true,q];exact e
   ·by_cases hx:x=n
    ·subst hx;exact h2 x c (by simp[aS])
    ·exact h2 x d (by rw[aS,(beq_eq_false_iff_ne.mpr hx)];exact ed)
   ·rcases ax.mp hx with rfl | hx
    ·exact h2 n c (by simp[aS])
    ·exact h3 x hx hxf
  ·obtain⟨cl,e,h1,h2,h3⟩:=JE ns acc (λx hx=>hf x (ae _ hx)) h;refine⟨cl, ?_,h1,h2,λx hx hxf=> ?_⟩
   ·rw[dJ];have q:(k == NameKind.free)=false:=by simpa using hk
    simp only[q,au,if_false];exact e
   ·rcases ax.mp hx with rfl | hx
    ·exact absurd hxf hk
    ·exact h3 x hx hxf
theorem Vx {scope:Scope}{env:Env}(hf:∀x∈scope.names,x.2=NameKind.free->∃c,env.cells.lookup x.1=some c):
  ∃cl,closureFor scope env=pure cl/\(∀x c,cl.lookup x=some c->env.cells.lookup x=some c)/\(∀x∈scope.names,x.2=NameKind.free->∃c,cl.lookup x.1=some c):=by
 obtain⟨cl,e,h1,_,h3⟩:=JE scope.names [] hf (λx c e=>by simp at e)
 refine⟨cl, ?_,h1,h3⟩;unfold closureFor;show (do let cs ← _;pure cs)=_
 exact(by simpa using e)
def cxC (X:Cx)(scope:Scope)(N' :List Str)(cl:List (Str×Addr))(C:Addr)(s3:Shared)(H3:Hp)(fp:List Addr)(pins:List (Addr×Obj)):Cx:=
 { X with N:=N',s₀:=s3,H₀:=H3,env:=compEnvC scope cl C X.env,outer:=X.stack,stack:=X.stack,ex:=fp,fn:=λ_=>false,pn:=X.pn++pins,xe:=λ_ _=>False }
structure CSc (X:Cx) (scope:Scope):Prop where
 kind:scope.kind= .function
 nocell:∀x∈scope.names,x.2 ≠ .cell
 loc:∀x∈scope.names,x.2= .local->scope.names.lookup x.1=some .local
 fre:∀x∈scope.names,x.2= .free->X.env.kindOf x.1=some .cell\/X.env.kindOf x.1=some .free
theorem jG {scope:Scope}{env:Env}{x:Str}{k:NameKind}(h:(relabel scope env).names.lookup x=some k)(hk:k= .cell\/k= .free)(hn:∀x∈scope.names,x.2 ≠ NameKind.cell):∃y∈scope.names,y.1=x/\y.2= .free:=by
 have go:∀ns:List (Str×NameKind),(∀x∈ns,x.2 ≠ NameKind.cell)->(ns.map λ(n,k)=>if (k == NameKind.free && env.scope.kind == .function && env.kindOf n == some .cell) then (n,NameKind.cell) else (n,k)).lookup x=some k->∃y∈ns,y.1=x/\y.2= .free:=by
  intro ns
  induction ns with
  | nil=>intro _ h;simp at h
  | cons y ns ih=>
   intro hn h;obtain⟨n,k'⟩:=y
   by_cases hx:x=n
   ·subst hx;refine⟨(x,k'),ah,rfl, ?_⟩;rw[aB]at h
    by_cases hc:(k' == NameKind.free && env.scope.kind == .function && env.kindOf x == some .cell)=true
    ·rw[af,af]at hc;exact eq_of_beq hc.1.1
    ·simp only[if_neg hc,aS,beq_self_eq_true]at h;cases h;rcases hk with rfl | rfl
     ·exact absurd rfl (hn _ ah)
     ·rfl
   ·obtain⟨z,hz,h1,h2⟩:=ih (λz hz=>hn z (ae _ hz)) (by
     rw[aB]at h
     by_cases hc:(k' == NameKind.free && env.scope.kind == .function && env.kindOf n == some .cell)=true
     ·simp only[if_pos hc,aS,(beq_eq_false_iff_ne.mpr hx)]at h;exact h
     ·simp only[if_neg hc,aS,(beq_eq_false_iff_ne.mpr hx)]at h;exact h)
    exact⟨z,ae _ hz,h1,h2⟩
 exact go scope.names hn h
section
variable {X:Cx}{pins:List (Addr×Obj)}{σ:Sg}{H:Hp}{s:Shared}
theorem yD {scope:Scope}{N' :List Str}{cl:List (Str×Addr)}{fp:List Addr}{h' :Heap}{tk:Nat}{σ' :Sg}(I:L2.Inv X pins σ H s)(S:CSc X scope)(hc:X.calm=true)
  (hcl:∀x c,cl.lookup x=some c->X.env.cells.lookup x=some c) (hcf:∀x∈scope.names,x.2=NameKind.free->∃c,cl.lookup x.1=some c)
  (hfp:∀b∈fp,WV X pins H b) (hfo:∀b∈fp,∃o,s.heap.get? b=some o)
  (hns:h'.Ns s.heap.objs.size (λ_=>none)) (hk:∀b o,s.heap.get? b=some o->h'.get? b=some o)
  (hl:σ'.length=N'.length) (hσ:∀(i:Nat) (x:Str) (v:V),N'[i]? =some x->σ'[i]? =some (some v)->∃j:Nat,X.N[j]? =some x/\σ[j]? =some (some v)/\Vis X.env.scope x/\(scope.names.lookup x=some .free)/\(X.env.kindOf x=some .cell\/X.env.kindOf x=some .free)):
  L2.Inv (cxC X scope N' cl s.heap.objs.size s H fp pins) [] σ' H { s with heap:=h',toks:=tk }:=by
 have stk:=I.stkSub;have hlt:∀b∈fp,b < s.heap.objs.size:=λb hb=>let ⟨o,e⟩:=hfo b hb;ar e;have fresh:H s.heap.objs.size=none:=I.hok.fresh (am _);refine⟨⟨I.ok.mod,S.kind,I.ok.glob,I.ok.blt,am _,λx y c h1 h2=>I.ok.inj x y c (hcl _ _ h1) (hcl _ _ h2),λx hx=> ?_,λx c h _=>(ao h).elim,λ_=>I.ok.hd hc,I.ok.frames,.inl rfl,λb hb=> ?_,I.bs,
   aq I.ok.bsz I.sz,λb o e hb=> ?_,λb hb hb' => ?_,I.stack,I.stkFree⟩,rfl,I.bare,Un.kept hk,⟨_,hns,λi x v h1 h2 h3=> ?_⟩,λx c e=> ?_,fresh,λx c e=>I.freeC x c (hcl _ _ e),λp hp=> ?_,I.hok.kept hk,hl⟩
 ·have hx' :(relabel scope X.env).names.lookup x=some .cell\/(relabel scope X.env).names.lookup x=some .free:=hx;obtain⟨y,hy,rfl,hyf⟩:∃y∈scope.names,y.1=x/\y.2= .free:=by
   rcases hx' with h | h
   ·exact jG h (.inl rfl) S.nocell
   ·exact jG h (.inr rfl) S.nocell
  exact hcf y hy hyf
 ·refine⟨aH (hlt b hb),λx c e=>(hfp b hb).2.2.2.2.1 x c (hcl _ _ e)⟩
 ·rcases(hfp b hb).2.2.2.1 with h | h
  ·exact I.ok.noex b o e h
  ·exact absurd (aE (ar e) (aq I.ok.bsz h)) (bR _)
 ·have q:=hfp b hb;rcases ax.mp (stk b hb') with z | z
  ·exact q.2.1 z
  ·exact q.2.2.1 z
 ·obtain⟨j,e1,e2,e3,e4,e5⟩:=hσ i x v h1 h2;obtain⟨m,hn,hloc⟩:=I.loc;obtain⟨u,ru,lk⟩:=hloc j x v e1 e2 e3;refine⟨u,ru,.inr ⟨?_, ?_⟩⟩
  ·have h3:Vis (relabel scope X.env) x:=h3;rcases h3 with h | h | h
   ·exfalso;have:∀ns:List (Str×NameKind),ns.lookup x=some .free->(ns.map λ(n,k)=>if (k == NameKind.free && X.env.scope.kind == .function && X.env.kindOf n == some .cell) then (n,NameKind.cell) else (n,k)).lookup x ≠ some .local:=by
     intro ns
     induction ns with
     | nil=>intro z;simp at z
     | cons y ns ih=>
      obtain⟨n,k⟩:=y;intro z w;rw[aB]at w
      by_cases hx:x=n
      ·subst hx;have hkf:some k=some NameKind.free:=by simpa[aS] using z
       by_cases hcn:(k == NameKind.free && X.env.scope.kind == .function && X.env.kindOf x == some .cell)=true
       ·simp only[if_pos hcn,aS,beq_self_eq_true]at w;cases w
       ·simp only[if_neg hcn,aS,beq_self_eq_true]at w;rw[hkf]at w;cases w
      ·have z' :ns.lookup x=some .free:=by rw[aS,(beq_eq_false_iff_ne.mpr hx)]at z;exact z
       refine ih z' ?_
       by_cases hcn:(k == NameKind.free && X.env.scope.kind == .function && X.env.kindOf n == some .cell)=true
       ·simp only[if_pos hcn,aS,(beq_eq_false_iff_ne.mpr hx)]at w;exact w
       ·simp only[if_neg hcn,aS,(beq_eq_false_iff_ne.mpr hx)]at w;exact w
    exact this _ e4 h
   ·exact .inl h
   ·exact .inr h
  ·rcases lk with ⟨hk',_⟩ | ⟨_,c,hc',hcell⟩
   ·rcases e5 with z | z <;> (rw[z]at hk';cases hk')
   ·obtain⟨c',hc2⟩:=hcf (x,.free) (bW e4) rfl;have:=hcl x c' hc2;rw[hc']at this;cases this;obtain⟨o,eo,ed⟩:=hcell;exact⟨c,hc2,o,hk _ _ eo,ed⟩
 ·obtain⟨v,o,eo,ed⟩:=I.cell x c (hcl _ _ e);exact⟨v,o,hk _ _ eo,ed⟩
 ·have hp' :p∈X.pn++pins:=by
   have:p∈(X.pn++pins)++[]:=hp;rwa[ci]at this
  obtain⟨e,n,ne,nf,dc⟩:=I.pin p hp';refine⟨hk _ _ e,n,aH (ar e),λhb=> ?_,dc⟩;rcases ax.mp (stk _ hb) with z | z
  ·exact ne z
  ·exact nf z
end
def PIf (X:Cx)(ifs:List Expr)(t:TT):Prop:=
 ∀(pins:List (Addr×Obj)) (s:Shared) (σ:Sg) (H:Hp) (Q:Bool->Hp->Prop),L2.Inv X pins σ H s->t σ H Q->
  wpAny (model X.prog X.w) X.A (forIn ifs true λc r=>if r=true then do let ok ← isTrue c X.env (eval c X.env);pure (ForInStep.yield ok) else pure (ForInStep.yield r)) (TP X pins σ Q) X.xe s
theorem Vy {X:Cx}:PIf X [] (λ_ H Q=>Q true H):=λ_ _ σ H _ I h=>wpAny_tests_nil ⟨H,I,h⟩
theorem Vz {X:Cx}{c:Expr}{t:TT}(h:PT X c t):PIf X [c] t:=λpins s σ H Q I q=>wpAny_tests_one (h pins s σ H Q I q)
abbrev XE (X:Cx)(xe:Value->Shared->Prop):Cx:={ X with xe:=xe }
theorem uG {X:Cx}{pins:List (Addr×Obj)}{σ:Sg}{H:Hp}{s:Shared}{xe:Value->Shared->Prop}(I:L2.Inv X pins σ H s):L2.Inv (XE X xe) pins σ H s:=
 ⟨⟨I.ok.mod,I.ok.kind,I.ok.glob,I.ok.blt,I.ok.above,I.ok.inj,I.ok.has,I.ok.cab,I.ok.hd,I.ok.frames,I.ok.stk,I.ok.exf,I.ok.bs,I.ok.bsz,I.ok.noex,I.ok.exfs,I.ok.funs,I.ok.frf⟩,I.os,I.bare,I.base,I.loc,I.cell,I.free,I.freeC,I.pin,I.hok,I.len⟩
theorem yE {X:Cx}{pins:List (Addr×Obj)}{σ:Sg}{H:Hp}{s:Shared}{xe:Value->Shared->Prop}(I:L2.Inv (XE X xe) pins σ H s):L2.Inv X pins σ H s:=(uG I:L2.Inv (XE (XE X xe) X.xe) pins σ H s)
theorem GE {X:Cx}{e:Expr}{t:TG}{xe:Value->Shared->Prop}(hx:X.xe=λ_ _=>False)(h:PG X e t):PG (XE X xe) e t:=λpins s σ H v u Q I r q=>bQ (h pins s σ H v u Q (yE I) r q) (λ_ s' ⟨σ',H',I',q'⟩=>⟨σ',H',uG I',q'⟩) λe s' z=>by rw[hx]at z;exact z.elim
theorem ko {X:Cx}{e:List Expr}{t:TT}{xe:Value->Shared->Prop}(hx:X.xe=λ_ _=>False)(h:PIf X e t):PIf (XE X xe) e t:=λpins s σ H Q I q=>bQ (h pins s σ H Q (yE I) q) (λ_ s' ⟨H',I',q'⟩=>⟨H',uG I',q'⟩) λe s' z=>by rw[hx]at z;exact z.elim
theorem uH {α:Type}{M:Model}{A:Around}{m:Sem α}{Q:α->Shared->Prop}{E E' :Value->Shared->Prop}{s:Shared}(hE:∀e s',E' e s' ->E e s')(h:wpAny M A m Q E' s):wpAny M A m Q E s:=bQ h (λ_ _ q=>q) hE
def qU (J:It)(D:Addr)(g:TG)(tt:TT)(te:TE)(fin:Sg->Hp->Prop)(W:Nat->Nat->List V->Sg->Hp->Prop):Prop:=
 ∀i m ys σ H,W i m ys σ H->H D=some (.lst ys)/\((J.stop i H/\fin σ H)\/(J.go i H/\∀x H2,J.yld i H x H2->g x σ H2 λσ3 H3=>tt σ3 H3 λk H4=>
  if k=true then te σ3 H4 λv H5=>H5 D=some (.lst ys)/\ys.length < sizeLine/\∃m',m' < m/\W (i+1) m' (ys++[v]) σ3 (upd H5 D (.lst (ys++[v]))) else ∃m',m' < m/\W (i+1) m' ys σ3 H4))
theorem yF {X:Cx}{R:Result->Shared->Prop}(hx:∀e s',X.xe e s' ->notedBy (model X.prog X.w) X.A X.env (λe s' =>R (.error e) s') e s')(hc:X.calm=true){tg iter elt:Expr}{ifs:List Expr}{scope:Scope}{pos:Pos}{J:It}{fp:List Addr}{it:Addr}{tn:Nat->Heap->Prop}(TJ:qC X.prog X.w X.K tg J fp it tn)
  {g:TG} {tt:TT} {te:TE} (hg:PG X tg g) (ht:PIf X ifs tt) (he:PE X elt te) {D:Addr} {fin:Sg->Hp->Prop} (W:Nat->Nat->List V->Sg->Hp->Prop) (turn:qU J D g tt te fin W)
  (hR:∀s σ H,L2.Inv X [] σ H s->fin σ H->R (.ok .next) s) {m0:Nat} {σ0:Sg} {H0:Hp} {s0:Shared} (w0:W 0 m0 [] σ0 H0) (I0:L2.Inv X [] σ0 H0 s0) (t0:tn 0 s0.heap) (f0:∀b∈fp,WV X [] H0 b):
  codeAny (model X.prog X.w) X.A (.compLoop (.ListComp elt [⟨tg,iter,ifs,0⟩] scope pos) 0 (.ref it) (.ref D) X.env) R s0:=by
 have stat:∀{H' :Hp},(∀b∈fp,H' b=none)->∀b∈fp,WV X [] H' b:=λhn b hb=>⟨hn b hb,(f0 b hb).2⟩;refine codeAny_loop rfl (λn s' =>∃i ys σ' H',L2.Inv X [] σ' H' s' /\tn i s'.heap/\(∀b∈fp,H' b=none)/\W i n ys σ' H') (λn s3 h3=> ?_) m0 ⟨0,[],σ0,H0,I0,t0,λb hb=>(f0 b hb).1,w0⟩;obtain⟨i,ys,σ3,H3,I3,st3,fr3,w3⟩:=h3;show wpAny _ X.A ((compTurn (.ListComp elt [⟨tg,iter,ifs,0⟩] scope pos) 0 (.ref it) (.ref D) X.env).onRaise (λx=>do noteFrame x X.env;theTreesLotGoes x)) _ _ s3
 refine wpAny_noted ?_;rw[compTurn_list];obtain⟨hD,h⟩:=turn i n ys σ3 H3 w3;rcases h with ⟨stop,qn⟩ | ⟨go,next⟩
 ·refine aa (wpAny_standAt (aa (thn (TJ.done X rfl rfl rfl hc i [] s3 σ3 H3 _ I3 (stat fr3) st3 stop) λr s4 ⟨hr,I4⟩=> ?_)));subst hr;exact ak (hR s4 σ3 H3 I4 qn)
 ·refine aa (wpAny_standAt (aa (thn (TJ.item X rfl rfl rfl hc i [] s3 σ3 H3 _ I3 (stat fr3) st3 go) λr s4 ⟨u,hr,h4⟩=> ?_)));subst hr;refine aa (thn h4 λ_ s5 ⟨x,H5,I5,r5,y5,st5,fr5⟩=> ?_);have I5' :=I5.pinned (stat fr5) (TJ.obj _ _ st5);refine aa (uH hx (thn (hg _ s5 σ3 H5 x u _ I5' r5 (next x H5 y5)) λ_ s6 ⟨σ6,H6,I6,q6⟩=> ?_));have again:∀{σ7:Sg} {H7:Hp} {s7:Shared} {ys' :List V},L2.Inv X ([]++W8 fp s5.heap) σ7 H7 s7->(∃m',m' < n/\W (i+1) m' ys' σ7 H7)->∃m,m < n/\∃i ys σ' H',L2.Inv X [] σ' H' s7/\tn i s7.heap/\(∀b∈fp,H' b=none)/\W i m ys σ' H' :=λ{σ7 H7 s7 ys'} I7 ⟨m',hm,w7⟩=>by
   refine⟨m',hm,i+1,ys',σ7,H7,I7.unpinned,TJ.keep _ _ _ st5 λb hb o e=>(I7.pin (b,o) (bb _ (bb _ (jh hb e)))).1,λb hb=> ?_,w7⟩;obtain⟨o,e,d⟩:=TJ.obj _ _ st5 b hb;exact(I7.pin (b,o) (bb _ (bb _ (jh hb e)))).2.1
  refine aa (uH hx (thn (ht _ s6 σ6 H6 _ I6 q6) λk s7 ⟨H7,I7,q7⟩=> ?_));cases k with
  | false=>exact ak ⟨rfl,again I7 q7⟩
  | true=>
   refine aa (aa (uH hx (thn (he _ s7 σ6 H7 _ I7 q7) λv s8 ⟨y,H8,I8,r8,hD8,hlen,q8⟩=> ?_)));refine aa (uH hx (thn (Wg _ s8 σ6 H8 (.ref D) [y] (.ref D) [v] (λ_ H9=>∃m',m' < n/\W (i+1) m' (ys++[y]) σ6 H9) I8 rfl (.cons r8 .nil) ⟨D,ys,y,rfl,rfl,hD8,hlen,q8⟩) λw s9 ⟨_,H9,I9,_,q9⟩=> ?_));exact ak (ak ⟨rfl,again I9 q9⟩)
def qV (k:Nat)(js:List Nat)(σ:Sg):Sg:=ag k none++js.map λj=>(σ[j]?).getD none
section
variable {X:Cx}
abbrev X3 (X:Cx)(scope:Scope)(N' :List Str)(P:Cx->Prop):Prop:=∀cl C s3 H3 fp pins,P (cxC X scope N' cl C s3 H3 fp pins)
abbrev GF (X:Cx)(scope:Scope)(N' :List Str)(E:XK)(P:Cx->Prop):Prop:=∀cl C s3 H3 fp pins xe,ZQ (CX1 X.prog X.w) (XE (cxC X scope N' cl C s3 H3 fp pins) xe) E->P (XE (cxC X scope N' cl C s3 H3 fp pins) xe)
structure GG (X:Cx) (scope:Scope) (N' :List Str) (k:Nat) (js:List Nat):Prop where
 len:N'.length=k+js.length
 cap:∀(i j:Nat),js[i]? =some j->∃x,N'[k+i]? =some x/\X.N[j]? =some x/\Vis X.env.scope x/\scope.names.lookup x=some .free/\(X.env.kindOf x=some .cell\/X.env.kindOf x=some .free)
theorem uI {E:XK}(hp:XO X E){tg iter elt:Expr}{ifs:List Expr}{scope:Scope}{pos pos' :Pos}{N' :List Str}{k:Nat}{js:List Nat}{wi:TI}{g:TG}{tt:TT}{te:TE}{use:Option (Value->Sem Unit)}(S:CSc X scope)(CP:GG X scope N' k js)(hc:X.calm=true)
  (hi:PI X tg iter wi) (hg:X3 X scope N' λXC=>PG XC tg g) (ht:X3 X scope N' λXC=>PIf XC ifs tt) (he:GF X scope N' E λXC=>PE XC elt te) {pins:List (Addr×Obj)} {σ:Sg} {H:Hp} {s:Shared} {Q:Value->Shared->Prop} {F:Addr->Hp->Prop} (I:L2.Inv X pins σ H s)
  (h:wi σ H λJ H1=>∀D,H1 D=none->∃W,(∃m,W 0 m [] (qV k js σ) (upd H1 D (.lst [])))/\qU J D g tt te (λ_ H' =>F D H') W)
  (hQ:∀D C H' s',L2.Inv X pins σ H' s' ->F D H' ->H' C=none->(X.s₀.heap.objs.size<=C)->C ≠ X.env.locals->(∀x c,X.env.cells.lookup x=some c->c ≠ C)->(∀p∈X.pn++pins,p.1 ≠ C)->(∃m,s'.heap.Ns C m)->compPost (model X.prog X.w) X.A X.xe use Q (.ref D) C (.ok .next) s')
  (hs:∀x,foldedSetIterable iter X.env x=pure x:=by intro _;rfl):
  wpAny (model X.prog X.w) X.A (comprehension (.ListComp elt [⟨tg,iter,ifs,0⟩] scope pos) scope X.env pos' (newList []) false (eval iter X.env) use) Q X.xe s:=by
 obtain⟨cl,ecl,hcl,hcf⟩:=Vx (scope:=scope) (env:=X.env) λx hx hf=>I.ok.has x.1 (S.fre x hx hf);refine wpAny_comprehension_free rfl hs ecl S.kind S.loc ?_;refine thn (hi pins s σ H _ I h) λv s1 h1=>thn h1 λitv s2 h2=> ?_;obtain⟨it,fp,tn,J,H2,e,I2,TJ,st2,f2,q2⟩:=h2;subst e;refine aZ ?_;have hD:H2 s2.heap.objs.size=none:=I2.hok.fresh (am _);have I3:L2.Inv X pins σ (upd H2 s2.heap.objs.size (.lst [])) { s2 with heap:=s2.heap.push { cls:= .type "list",data:= .seq ([]:List Value).toArray } }:=
  I2.laid (t' :=s2.toks) (λb u e=>aj _ e) (am _) ⟨bT _,[],_,.nil,ay _ rfl⟩
 obtain⟨W,⟨m0,w0⟩,turn⟩:=q2 s2.heap.objs.size hD;have f3:∀b∈fp,WV X pins (upd H2 s2.heap.objs.size (.lst [])) b:=λb hb=>by
  obtain⟨o,eo,_⟩:=TJ.obj _ _ st2 b hb;exact⟨by rw[zy (aH (ar eo))];exact(f2 b hb).1,(f2 b hb).2⟩
 have o3:∀b∈fp,∃o,(s2.heap.push { cls:= .type "list",data:= .seq ([]:List Value).toArray }).get? b=some o:=λb hb=>by
  obtain⟨o,eo,_⟩:=TJ.obj _ _ st2 b hb;exact⟨o,aj _ eo⟩
 refine wpAny_newFunctionEnv S.nocell (by intro y hy;simp at hy) (λh4 hns4 hsb4=> ?_) S.kind
 generalize hG:s2.heap.push { cls:= .type "list",data:= .seq ([]:List Value).toArray }=G3 at I3 o3 hns4 hsb4 ⊢;dsimp only at hns4 hsb4 ⊢;have s3e:∃s3:Shared,s3={ s2 with heap:=G3 }:=⟨_,rfl⟩;obtain⟨s3,es3⟩:=s3e;have hh3:s3.heap=s2.heap.push { cls:= .type "list",data:= .seq ([]:List Value).toArray }:=by rw[es3,hG]
 have hg3:G3=s3.heap:=by rw[es3]
 rw[← es3]at I3;have ht3:s2.toks=s3.toks:=by rw[es3]
 rw[hg3]at hns4 hsb4 o3;have k4:∀b o,s3.heap.get? b=some o->h4.get? b=some o:=λb o e=>hsb4.extBut b o (aH (ar e)) (aj _ e);have IC:=yD (N' :=N') (cl:=cl) (fp:=fp) (σ' :=qV k js σ) (tk:=s3.toks+([]:List (Str×Value)).length) I3 S hc hcl hcf f3 o3 hns4 k4 (by unfold qV;simp[CP.len]) (λi x v h1 h2=>by
  unfold qV at h2
  by_cases hik:i < k
  ·rw[bq (by simpa using hik),aF,if_pos hik]at h2
   cases h2
  ·have hk' :k<=i:=by omega
   rw[bo (by simpa using hk'),aI,aG]at h2
   cases ej:js[i - k]? with
   | none=>rw[ej]at h2;cases h2
   | some j=>
    rw[ej]at h2;obtain⟨y,e1,e2,e3,e4,e5⟩:=CP.cap (i - k) j ej;have:k+(i - k)=i:=by omega
    rw[this,h1]at e1;cases e1;refine⟨j,e2, ?_,e3,e4,e5⟩;have h2' :some ((σ[j]?).getD none)=some (some v):=h2;cases ez:σ[j]? with
    | none=>rw[ez]at h2';cases h2'
    | some z=>rw[ez]at h2';exact congrArg some (aR h2'))
 have TC:qC (cxC X scope N' cl s3.heap.objs.size s3 (upd H2 s2.heap.objs.size (.lst [])) fp pins).prog (cxC X scope N' cl s3.heap.objs.size s3 (upd H2 s2.heap.objs.size (.lst [])) fp pins).w (cxC X scope N' cl s3.heap.objs.size s3 (upd H2 s2.heap.objs.size (.lst [])) fp pins).K tg J fp it tn:=TJ;have t4:tn 0 h4:=TJ.keep _ _ _ st2 λb hb o e=>k4 b o (by rw[hh3];exact aj _ e)
 have fC:∀b∈fp,WV (cxC X scope N' cl s3.heap.objs.size s3 (upd H2 s2.heap.objs.size (.lst [])) fp pins) [] (upd H2 s2.heap.objs.size (.lst [])) b:=λb hb=>by
  obtain⟨q0,q1,q2,q3,q4,q5⟩:=f3 b hb;obtain⟨o,eo⟩:=o3 b hb;refine⟨q0,aH (ar eo),λhb' => ?_,.inl hb,λx c e=>q4 x c (hcl _ _ e),λp hp=> ?_⟩
  ·rcases ax.mp (I3.stkSub b hb') with z | z
   ·exact q1 z
   ·exact q2 z
  ·exact q5 p (by
    have:p∈(X.pn++pins)++[]:=hp;rwa[ci]at this)
 have fin:∀(s5:Shared) (σ5:Sg) (H5:Hp),L2.Inv (cxC X scope N' cl s3.heap.objs.size s3 (upd H2 s2.heap.objs.size (.lst [])) fp pins) [] σ5 H5 s5->F s2.heap.objs.size H5->compPost (model X.prog X.w) X.A X.xe use Q (.ref s2.heap.objs.size) s3.heap.objs.size (.ok .next) s5:=λs5 σ5 H5 I5 q5=>by
  have J5:L2.Inv X pins σ H5 s5:=I3.call' (ch:=fp) I5.os I5.base I5.hok I5.bare λb hb=>by
   obtain⟨q0,q1,q2,q3,q4,q5⟩:=f3 b hb;exact⟨q3,q1,q4,q5⟩
  refine hQ _ _ H5 s5 J5 q5 I5.free I3.sz (fo I3.lt) (λx c e z=> ?_) (λp hp z=> ?_) (let ⟨m,hm,_⟩:=I5.loc;⟨m,hm⟩)
  ·obtain⟨v',o,eo,_⟩:=I3.cell x c e;exact absurd (ar eo) (by rw[z];exact bR _)
  ·exact absurd (ar (I3.pin p hp).1) (by rw[z];exact bR _)
 have pass:ZQ (CX1 X.prog X.w) (XE (cxC X scope N' cl s3.heap.objs.size s3 (upd H2 s2.heap.objs.size (.lst [])) fp pins) (notedBy (model X.prog X.w) X.A (compEnvC scope cl s3.heap.objs.size X.env) λe s' =>compPost (model X.prog X.w) X.A X.xe use Q (.ref s2.heap.objs.size) s3.heap.objs.size (.error e) s')) E:=by
  intro pins1 σ1 H1 s1 e s' I1 c1;have J1:L2.Inv X pins σ H1 s1:=I3.call' (ch:=fp) I1.os I1.base I1.hok I1.bare λb hb=>by
   obtain⟨q0,q1,q2,q3,q4,q5⟩:=f3 b hb;exact⟨q3,q1,q4,q5⟩
  obtain⟨m1,hm1,_⟩:=I1.loc;refine thn (hp pins σ H1 s1 e s' s3.heap.objs.size m1 _ (compEnvC scope cl s3.heap.objs.size X.env) J1 hm1 I1.free I3.sz (λz=> ?_) rfl c1) λ_ s'' q=> ?_
  ·obtain⟨_,o,eo,_⟩:=I3.stack.mem z;exact absurd (ar eo) (bR _)
  ·cases use <;> exact q
 have loop:=yF (X:=XE (cxC X scope N' cl s3.heap.objs.size s3 (upd H2 s2.heap.objs.size (.lst [])) fp pins) (notedBy (model X.prog X.w) X.A (compEnvC scope cl s3.heap.objs.size X.env) λe s' =>compPost (model X.prog X.w) X.A X.xe use Q (.ref s2.heap.objs.size) s3.heap.objs.size (.error e) s')) (iter:=iter) (scope:=scope) (pos:=pos) (R:=compPost (model X.prog X.w) X.A X.xe use Q (.ref s2.heap.objs.size) s3.heap.objs.size) (λ_ _ z=>z) hc TC (GE rfl (hg _ _ _ _ _ _)) (ko rfl (ht _ _ _ _ _ _)) (he _ _ _ _ _ _ _ pass) W turn (λs5 σ5 H5 I5=>fin s5 σ5 H5 (yE I5)) w0 (uG IC) t4 fC;rw[es3]at loop;exact codeAny_compStart_list loop (TJ.self _ _ _ _ _ t4 loop)
end
def zI (g:T->En->R En)(ft:En->R Bool)(fe:En->R T):List T->En->R (List T)
 | [],_=> .ok []
 | t :: ts,ρ=>(g t ρ).bind λρ1=>(ft ρ1).bind λk=>if k=true then (fe ρ1).bind λv=>(zI g ft fe ts ρ1).bind λvs=> .ok (v :: vs) else zI g ft fe ts ρ1
def qr:Option Sl->Sl
 | some (.vl t)=> .vl t
 | _=> .un
def Jp (k:Nat)(js:List Nat)(ρ:En):En:=ag k .un++js.map λj=>qr ρ[j]?
def quiet {α:Type}:R α->R α
 | .ok a=> .ok a
 | _=> .bad
def zF (g:T->En->R En)(ft:En->R Bool)(fe:En->R T)(k:Nat)(js:List Nat)(ρ:En)(ts:List T):R (List T):=if ts.length<=bnd then quiet (zI g ft fe ts (Jp k js ρ)) else .bad
def zC (fi:En->R (List T))(g:T->En->R En)(ft:En->R Bool)(fe:En->R T)(k:Nat)(js:List Nat):En->R T:=λρ=>(fi ρ).bind λts=>(zF g ft fe k js ρ ts).bind λvs=> .ok (.lst vs)
def GOk (tG:TG)(g:T->En->R En):Prop:=∀Y B ρ σ H v x Q,SI Y B ρ σ H->Rep B v x->(match g x ρ with | .ok ρ' =>∀σ',SI Y B ρ' σ' H->Q σ' H | _=>False)->tG v σ H Q
theorem zA (i:Nat):GOk (W7 i) (zo i):=λY B ρ σ H v x Q I r q=>q _ (I.setV i r)
theorem jH (K:ai)(i j:Nat):GOk (gN K 2 (UQ (W7 i) (UQ (W7 j) gM))) (Zb i j):=λY B ρ σ H v t Q I r q=>by
 cases r with
 | @tup l xs ts h r=>
  cases r with
  | nil=>exact q.elim
  | cons r1 rr=>
   cases rr with
   | nil=>exact q.elim
   | cons r2 rr=>
    cases rr with
    | cons _ _=>exact q.elim
    | nil=>exact⟨l,_,rfl,SqT.of (I.sB _ _ h),rfl,_,_,rfl,_,_,rfl,rfl,q _ ((I.setV i r1).setV j r2)⟩
 | _=>exact q.elim
theorem SI.block {Y:Fx}{B:Hp}{ρ:En}{σ:Sg}{H H3:Hp}{D:Addr}(I:SI Y B ρ σ H)(k:Nat)(js:List Nat)(E:XK)(hD:H D=none)(o:HO):SI ⟨B,H,E,Y.cl⟩ B (Jp k js ρ) (qV k js σ) (upd H D o) where
 s0:=I.sB
 sH:=zw.new hD _
 sB:=I.sB.trans (zw.new hD _)
 old:=λ_ _ _=>rfl
 len:=by unfold Jp qV;simp
 vl:=λi t h=>by
  unfold Jp at h;unfold qV
  by_cases hik:i < k
  ·rw[bq (by simpa using hik),aF,if_pos hik]at h;cases h
  ·have hk' :k<=i:=by omega
   rw[bo (by simpa using hk'),aI,aG]at h ⊢
   cases ej:js[i - k]? with
   | none=>rw[ej]at h;cases h
   | some j=>
    rw[ej]at h;have h' :qr ρ[j]? = .vl t:=aR h;unfold qr at h';split at h'
    ·rename_i u e;cases h';obtain⟨v,e1,r⟩:=I.vl j _ e;exact⟨v,by show some ((σ[j]?).getD none)=_;rw[e1];rfl,r⟩
    ·cases h'
 ow:=λi ts h=>by
  exfalso;unfold Jp at h
  by_cases hik:i < k
  ·rw[bq (by simpa using hik),aF,if_pos hik]at h;cases h
  ·have hk' :k<=i:=by omega
   rw[bo (by simpa using hk'),aI,aG]at h
   cases ej:js[i - k]? with
   | none=>rw[ej]at h;cases h
   | some j=>
    rw[ej]at h;have h' :qr ρ[j]? = .ow ts:=aR h;unfold qr at h';split at h' <;> cases h'
 xc:=λi c h=>by
  exfalso;unfold Jp at h
  by_cases hik:i < k
  ·rw[bq (by simpa using hik),aF,if_pos hik]at h;cases h
  ·have hk' :k<=i:=by omega
   rw[bo (by simpa using hk'),aI,aG]at h
   cases ej:js[i - k]? with
   | none=>rw[ej]at h;cases h
   | some j=>
    rw[ej]at h;have h' :qr ρ[j]? = .xc c:=aR h;unfold qr at h';split at h' <;> cases h'
theorem SI.acc {Y:Fx}{B:Hp}{ρ:En}{σ:Sg}{H:Hp}{D:Addr}(I:SI Y B ρ σ H)(hb:B D=none)(h0:Y.H0 D=none)(ho:∀(i:Nat) (ts:List T),ρ[i]? =some (Sl.ow ts)->σ[i]? ≠ some (some (V.ref D)))(o:HO):SI Y B ρ σ (upd H D o) where
 s0:=I.s0
 sH:=λb u h=>by
  rw[zy (λz=>by subst z;rw[h0]at h;cases h)];exact I.sH b u h
 sB:=λb u h=>by
  rw[zy (λz=>by subst z;rw[hb]at h;cases h)];exact I.sB b u h
 old:=I.old
 len:=I.len
 vl:=I.vl
 ow:=λi ts h=>by
  obtain⟨a,xs,e,b0,h0',hh,r,d⟩:=I.ow i ts h;refine⟨a,xs,e,b0,h0', ?_,r,d⟩;rw[zy (λz=>ho i ts h (by rw[e,z]))];exact hh
 xc:=I.xc
def VA (ρ:En):Prop:=∀(i:Nat) (ts:List T),ρ[i]? ≠ some (Sl.ow ts)
theorem qW (k:Nat)(js:List Nat)(ρ:En):VA (Jp k js ρ):=λi ts h=>by
 unfold Jp at h
 by_cases hik:i < k
 ·rw[bq (by simpa using hik),aF,if_pos hik]at h;cases h
 ·have hk' :k<=i:=by omega
  rw[bo (by simpa using hk'),aI,aG]at h
  cases ej:js[i - k]? with
  | none=>rw[ej]at h;cases h
  | some j=>
   rw[ej]at h;have h' :qr ρ[j]? = .ow ts:=aR h;unfold qr at h';split at h' <;> cases h'
theorem wI {ρ:En}{i:Nat}{t:T}(h:VA ρ):VA (ρ.set i (.vl t)):=λj ts e=>by
 rcases zS e with ⟨_,z⟩ | ⟨_,z⟩
 ·cases z
 ·exact h j ts z
def GNo (g:T->En->R En):Prop:=(∀t ρ ρ',VA ρ->g t ρ= .ok ρ' ->VA ρ')/\∀t ρ c,g t ρ ≠ .ex c
theorem zB (i:Nat):GNo (zo i):=⟨λt ρ ρ' h e=>by
 cases e;exact wI h,λt ρ c e=>by cases e⟩
theorem jI (i j:Nat):GNo (Zb i j):=⟨λt ρ ρ' h e=>(by
 unfold Zb at e;split at e
 ·cases e;exact wI (wI h)
 ·cases e),λt ρ c e=>by unfold Zb at e;split at e <;> cases e⟩
section
variable {X:Cx}{Y:Fx}{tg iter elt:Expr}{ifs:List Expr}{scope:Scope}{pos pos' :Pos}{N' :List Str}{k:Nat}{js:List Nat}{fi:En->R (List T)}{tG:TG}{g:T->En->R En}{ft:En->R Bool}{fe:En->R T}
structure u5 (X:Cx) (Y:Fx) (ifs:List Expr) (f:En->R Bool):Prop where
 mk ::
 go:∀ρ,PIf X ifs (tS Y rE f ρ)
instance {X:Cx}{Y:Fx}{ifs:List Expr}{f:En->R Bool}:CoeFun (u5 X Y ifs f) λ_=>∀ρ,PIf X ifs (tS Y rE f ρ):=⟨u5.go⟩
theorem PIf.imp {X:Cx}{e:List Expr}{t t' :TT}(h:PIf X e t)(i:∀σ H Q,t' σ H Q->t σ H Q):PIf X e t' :=λpins s σ H Q I q=>h pins s σ H Q I (i σ H Q q)
def Z1:En->R Bool:=λ_=> .ok true
theorem kr {X:Cx}:u5 X Y [] Z1:= .mk λρ=>PIf.imp Vy λσ H Q ⟨B,I,q⟩=>ZP I q rfl
theorem ku {X:Cx}{c:Expr}(h:Wj X Y c ft):u5 X Y [c] ft:= .mk λρ=>Vz (h ρ)
def CEnd (r:R (List T))(P:List T->Prop)(Z:Nat->Prop):Prop:=match r with
 | .ok vs=>P vs
 | .ex c=>Z c
 | .bad=>False
theorem Uq {B1 H1:Hp}{σ:Sg}{ρ:En}{J:It}{ts:List T}{r:R (List T)}{D:Addr}{E0:XK}(hG:GOk tG g)(hN:GNo g)(I:SI Y B1 ρ σ H1)(rI' :rI B1 H1 J ts)(hl:ts.length<=bnd)(ev:zI g ft fe ts (Jp k js ρ)=r)(hD:H1 D=none){F:Hp->Prop}
  (hF:CEnd r (λvs=>∀H' xs B',zw H1 H' ->H' D=some (.lst xs)->zH B' xs vs->zw B' (zV B1 H1 H')->B' D=none->zw B1 B' ->F H') λc=>∀d H',zw H1 H' ->zw B1 H' ->E0 (Y.cl c) d H'):
  ∃W,(∃m,W 0 m [] (qV k js σ) (upd H1 D (.lst [])))/\qU J D tG (λσ H Q=>∃Y' ρ',Y'.cl=Y.cl/\tS Y' rE ft ρ' σ H Q) (λσ H Q=>∃Y' ρ',Y'.cl=Y.cl/\Y'.E=E0/\tS Y' rC fe ρ' σ H Q) (λ_ H' =>F H') W:=by
 refine⟨λi m ys σ' H' =>m=ts.length - i/\i<=ts.length/\ys.length<=i/\H' D=some (.lst ys)/\∃ρ' B' us,SI ⟨B1,H1,E0,Y.cl⟩ B' ρ' σ' H' /\VA ρ' /\zw B1 B' /\B' D=none/\zH B' ys us/\((zI g ft fe (ts.drop i) ρ').bind λws=> .ok (us++ws))=r,
  ⟨ts.length,by simp,bT _,bT _,zU,_,B1,[],I.block (H3:=H1) k js _ hD _,qW k js ρ,zw.refl _,I.sB.free hD,.nil,by rw[dZ,ev];cases r <;> rfl⟩, ?_⟩
 rintro i m ys σ' H' ⟨rfl,hi,hyl,hDl,ρ',B',us,I',no',s1',bD,r',ew⟩
 refine⟨hDl, ?_⟩;obtain⟨hgo,hyld,hstop⟩:=rI' B' H' s1' I'.sB;have tD:∀H2,zw H' H2->zV B' H' H2 D=none:=λH2 s=>by rw[Ze hDl];exact bD
 by_cases hlt:i < ts.length
 ·refine .inr ⟨hgo i hlt,λx H2 y=> ?_⟩;obtain⟨s2,r2⟩:=hyld i _ x H2 (ad hlt) y;rw[cg hlt]at ew;unfold zI at ew;have I2:=I'.grow s2;refine hG _ _ ρ' σ' H2 x _ _ I2 r2 ?_;cases eg:g ts[i] ρ' with
  | bad=>rw[eg]at ew;subst ew;exact hF
  | ex c=>exact(hN.2 _ _ _ eg).elim
  | ok ρ1=>
   rw[eg]at ew;have no1:VA ρ1:=hN.1 _ _ _ no' eg;intro σ1 J1;refine⟨⟨B1,H1,E0,Y.cl⟩,ρ1,rfl,_,J1, ?_⟩;have ew1:((ft ρ1).bind (λk=>if k=true then (fe ρ1).bind λv=>(zI g ft fe (ts.drop (i+1)) ρ1).bind λvs=> .ok (v :: vs) else zI g ft fe (ts.drop (i+1)) ρ1)).bind (λws=> .ok (us++ws))=r:=ew
   cases ef:ft ρ1 with
   | bad=>rw[ef]at ew1;subst ew1;exact hF
   | ex c=>
    rw[ef]at ew1;subst ew1;exact λd H' a b=>hF d H' a ((s1'.trans (zV.ge I'.sB s2)).trans b)
   | ok kk=>
    rw[ef]at ew1;intro b H3 s3 eb;have eb' :b=kk:=eb;subst eb';have ew2:(if b=true then (fe ρ1).bind λv=>(zI g ft fe (ts.drop (i+1)) ρ1).bind λvs=> .ok (v :: vs) else zI g ft fe (ts.drop (i+1)) ρ1).bind (λws=> .ok (us++ws))=r:=ew1
    have J2:=J1.grow s3;have hD3:H3 D=some (.lst ys):=s3 _ _ (s2 _ _ hDl);have bD3:zV (zV B' H' H2) H2 H3 D=none:=by rw[Ze (s2 _ _ hDl)];exact tD H2 s2
    have sB3:zw B' (zV (zV B' H' H2) H2 H3):=(zV.ge I'.sB s2).trans (zV.ge I2.sB s3);cases b with
    | false=>exact⟨ts.length - (i+1),by omega,rfl,hlt,by omega,hD3,ρ1,_,us,J2,no1,s1'.trans sB3,bD3,r'.mono sB3,ew2⟩
    | true=>
     refine⟨⟨B1,H1,E0,Y.cl⟩,ρ1,rfl,rfl,_,J2, ?_⟩;have ew3:((fe ρ1).bind (λv=>(zI g ft fe (ts.drop (i+1)) ρ1).bind λvs=> .ok (v :: vs))).bind (λws=> .ok (us++ws))=r:=ew2;cases ee:fe ρ1 with
     | bad=>rw[ee]at ew3;subst ew3;exact hF
     | ex c=>
      rw[ee]at ew3;subst ew3;exact λd H' a b=>hF d H' a ((s1'.trans sB3).trans b)
     | ok v=>
      rw[ee]at ew3;have ew4:((zI g ft fe (ts.drop (i+1)) ρ1).bind (λvs=> .ok (v :: vs))).bind (λws=> .ok (us++ws))=r:=ew3;have ew5:(zI g ft fe (ts.drop (i+1)) ρ1).bind (λws=> .ok ((us++[v])++ws))=r:=by
       rw[← ew4];cases zI g ft fe (ts.drop (i+1)) ρ1 with
       | ok ws=>show R.ok _=R.ok _;rw[bh];rfl
       | _=>rfl
      intro w H4 s4 rw4;have hD4:H4 D=some (.lst ys):=s4 _ _ hD3;have J3:=J2.grow s4;have bD4:zV (zV (zV B' H' H2) H2 H3) H3 H4 D=none:=by rw[Ze hD3];exact bD3
      have sB4:=sB3.trans (zV.ge J2.sB s4);refine⟨hD4,aE (c9 hyl hlt) (ZX hl),ts.length - (i+1),by omega,rfl,hlt,by rw[aA,aD];omega,zU,ρ1,_,us++[v], ?_,no1,s1'.trans sB4,bD4,(r'.mono sB4).append (.cons rw4 .nil),ew5⟩
      exact J3.acc bD4 hD (λj ts' e=>(no1 j ts' e).elim) _
 ·have e:i=ts.length:=by omega
  subst e;refine .inl ⟨hstop _ (am _), ?_⟩;rw[io]at ew;have ew' :R.ok (us++[])=r:=ew;rw[ci]at ew';subst ew';refine hF H' ys B' I'.sH hDl r' (λb o h=> ?_) bD s1';cases q:H1 b with
  | none=>rw[Zc q];exact I'.sB b o h
  | some u=>
   rw[Ze q];have z:B' b=B1 b:=I'.old b u q;rw[← z];exact h
theorem Wn {B1 H1:Hp}{σ:Sg}{ρ:En}{J:It}{ts vs:List T}{D:Addr}(hG:GOk tG g)(hN:GNo g)(I:SI Y B1 ρ σ H1)(rI' :rI B1 H1 J ts)(hl:ts.length<=bnd)(ev:zI g ft fe ts (Jp k js ρ)= .ok vs)(hD:H1 D=none){F:Hp->Prop}
  (hF:∀H' xs B',zw H1 H' ->H' D=some (.lst xs)->zH B' xs vs->zw B' (zV B1 H1 H')->B' D=none->zw B1 B' ->F H'):
  ∃W,(∃m,W 0 m [] (qV k js σ) (upd H1 D (.lst [])))/\qU J D tG (λσ H Q=>∃Y' ρ',Y'.cl=Y.cl/\tS Y' rE ft ρ' σ H Q) (λσ H Q=>∃Y' ρ',Y'.cl=Y.cl/\(Y'.E=λ_ _ _=>False)/\tS Y' rC fe ρ' σ H Q) (λ_ H' =>F H') W:=Uq hG hN I rI' hl ev hD hF
structure yG (X:Cx) (Y:Fx) (tg iter elt:Expr) (ifs:List Expr) (scope:Scope) (N' :List Str) (k:Nat) (js:List Nat) (fi:En->R (List T)) (tG:TG) (g:T->En->R En) (ft:En->R Bool) (fe:En->R T):Prop where
 sc:CSc X scope
 cp:GG X scope N' k js
 cm:X.calm=true
 it:yC X Y tg iter fi
 gt:X3 X scope N' λXC=>PG XC tg tG
 gk:GOk tG g
 gn:GNo g
 tt:∀Y',Y'.cl=Y.cl->X3 X scope N' λXC=>u5 XC Y' ifs ft
 el:∀Y',Y'.cl=Y.cl->GF X scope N' Y'.E λXC=>Snd XC Y' elt fe
 hs:∀x,foldedSetIterable iter X.env x=pure x
theorem Zf (C:yG X Y tg iter elt ifs scope N' k js fi tG g ft fe):Snd X Y (.ListComp elt [⟨tg,iter,ifs,0⟩] scope pos) (zC fi g ft fe k js):= .mk λρ=>by
 intro pins s σ H Q I ⟨B,J,q⟩;rw[eval_ListComp];refine uI (wl rfl) (use:=none) (Q:=EP X pins σ Q) (F:=λD H' =>Q (.ref D) H') (te:=λσ H Q=>∃Y' ρ',Y'.cl=Y.cl/\(Y'.E=λ_ _ _=>False)/\tS Y' rC fe ρ' σ H Q) (tt:=λσ H Q=>∃Y' ρ',Y'.cl=Y.cl/\tS Y' rE ft ρ' σ H Q) C.sc C.cp C.cm (C.it ρ) C.gt
  (λcl Cx' s3 H3 fp pins pins' s σ H Q I ⟨Y',ρ',ey,q⟩=>C.tt Y' ey cl Cx' s3 H3 fp pins ρ' pins' s σ H Q I q) (λcl Cx' s3 H3 fp pins xe hp pins' s σ H Q I ⟨Y',ρ',ey,eE,q⟩=>C.el Y' ey cl Cx' s3 H3 fp pins xe (eE ▸ hp) ρ' pins' s σ H Q I q) I ?_ ?_ C.hs
 ·refine step J q λts it' H1 _ s1 r1 J1 q1=> ?_;intro D hD;unfold zF at q1;split at q1
  ·rename_i hl;cases ev:zI g ft fe ts (Jp k js ρ) with
   | bad=>rw[ev]at q1;exact q1.elim
   | ex c=>rw[ev]at q1;exact q1.elim
   | ok vs=>
    rw[ev]at q1;refine Wn C.gk C.gn J1 r1 hl ev hD λH' xs B' s' e' r' l' b' sb' => ?_;refine(show Po Y rC _ H1 (.ok (.lst vs)) Q from q1) (.ref D) H' s' ?_;exact .lst (by rw[Zc hD];exact e') (r'.mono l')
  ·exact q1.elim
 ·intro D Cc H' s' I' q' hC h0 hL hcell hpin hns;obtain⟨m,hm⟩:=hns;refine⟨m,hm,λh' hsb=>⟨.ref D,H', ?_,rfl,q'⟩⟩;exact I'.turned (t' :=s'.toks) (λb o hb e=>hsb.extBut b o hb e) hC (cf hL).symm (.inr h0) hcell hpin
end
section
variable {X:Cx}{Y:Fx}{tg iter elt:Expr}{ifs:List Expr}{scope:Scope}{pos pos' :Pos}{N' :List Str}{k:Nat}{js:List Nat}{fi:En->R (List T)}{tG:TG}{g:T->En->R En}{ft:En->R Bool}{fe:En->R T}
theorem Jb {i:Nat}{x:Str}{pc p' :Pos}(C:yG X Y tg iter elt ifs scope N' k js fi tG g ft fe)(hN:X.N.Nodup)(hi:X.N[i]? =some x)(hx:L2.Loc X.env.scope x)
  (hsw:swapsWith (.ListComp elt [⟨tg,iter,ifs,0⟩] scope pc) (some (.Name x p')) pos.line X.env=pure true) (hf:X.fn x=true\/X.env.scope.names.lookup x=some .local:=by first | exact .inl rfl | exact .inr rfl | assumption):
  wH X Y (.Assign [.Name x p'] (.ListComp elt [⟨tg,iter,ifs,0⟩] scope pc) pos) (zx i (zC fi g ft fe k js)):= .mk λρ=>by
 intro pins s σ H D I ⟨B,J,q⟩;rw[exec_Assign_Name_used _ _ _ _ hsw];refine aa (wpAny_standAt (aa ?_));show wpAny _ X.A (do let _ ← comprehension (.ListComp elt [⟨tg,iter,ifs,0⟩] scope pc) scope X.env _ (newList []) false (eval iter X.env) (some (assign (.Name x p') X.env))) _ _ s
 refine aa (thn (uI (wl rfl) (use:=some (assign (.Name x p') X.env)) (Q:=λ_ s' =>SP X pins D .next s') (F:=λD' H' =>D.nx (σ.set i (some (.ref D'))) H') (te:=λσ H Q=>∃Y' ρ',Y'.cl=Y.cl/\(Y'.E=λ_ _ _=>False)/\tS Y' rC fe ρ' σ H Q) (tt:=λσ H Q=>∃Y' ρ',Y'.cl=Y.cl/\tS Y' rE ft ρ' σ H Q) C.sc C.cp C.cm (C.it ρ) C.gt
  (λcl Cx' s3 H3 fp pins pins' s σ H Q I ⟨Y',ρ',ey,q⟩=>C.tt Y' ey cl Cx' s3 H3 fp pins ρ' pins' s σ H Q I q) (λcl Cx' s3 H3 fp pins xe hp pins' s σ H Q I ⟨Y',ρ',ey,eE,q⟩=>C.el Y' ey cl Cx' s3 H3 fp pins xe (eE ▸ hp) ρ' pins' s σ H Q I q) I ?_ ?_ C.hs) λ_ s' hq=>ak (ak hq))
 ·have q' :PoS Y B (((fi ρ).s λts=>(zF g ft fe k js ρ ts).s λvs=> .nx (ρ.set i (.vl (.lst vs))))) D:=by
   unfold zx zC at q;revert q;cases fi ρ with
   | bad=>exact λq=>q
   | ex c=>exact λq=>q
   | ok ts=>
    intro q;have q2:PoS Y B (((zF g ft fe k js ρ ts).bind λvs=>R.ok (T.lst vs)).s λt=>RS.nx (List.set ρ i (Sl.vl t))) D:=q;show PoS Y B ((zF g ft fe k js ρ ts).s λvs=>RS.nx (List.set ρ i (Sl.vl (T.lst vs)))) D;revert q2;cases zF g ft fe k js ρ ts with
    | bad=>exact λq=>q
    | ex c=>exact λq=>q
    | ok vs=>exact λq=>q
  refine w9 J q' λts it' H1 _ s1 r1 J1 q1=> ?_;intro D' hD;unfold zF at q1;split at q1
  ·rename_i hl;cases ev:zI g ft fe ts (Jp k js ρ) with
   | bad=>rw[ev]at q1;exact q1.elim
   | ex c=>rw[ev]at q1;exact q1.elim
   | ok vs=>
    rw[ev]at q1;refine Wn C.gk C.gn J1 r1 hl ev hD λH' xs B' s' e' r' l' b' sb' => ?_;have rr:Rep (zV (zV B H H1) H1 H') (.ref D') (.lst vs):= .lst (by rw[Zc hD];exact e') (r'.mono l')
    exact q1 _ _ _ (zV.ge J1.sB s') ((J1.grow s').setV i rr)
  ·exact q1.elim
 ·intro D' Cc H' s' I' q' hC h0 hL hcell hpin hns;obtain⟨m,hm⟩:=hns;show wpAny _ X.A (assign (.Name x p') X.env (.ref D')) _ _ s';refine wpAny_assign_Name (W6 (v:= .ref D') I' hN hi hx rfl (λs'' I'' ⟨a,hsb,ha⟩=> ?_) hf);have hne:Cc ≠ a:=by
   rcases ha with rfl | ha
   ·exact hL
   ·exact(hcell x a ha).symm
  refine⟨m,hm.sameBut hsb hne,λh' hsb' =>⟨_,H', ?_,q'⟩⟩;exact I''.turned (t' :=s''.toks) (λb o hb e=>hsb'.extBut b o hb e) hC hL (.inr h0) hcell hpin
end
def Itc (x:Str):It:=⟨λi _=>i < x.cps.size,λi H v H' =>H' =H/\∃c,x.cps[i]? =some c/\v= .str ⟨#[c]⟩,λi _=>x.cps.size<=i⟩
theorem wo {P:Program}{w:World}{K:ai}{tg:Expr}{x:Str}{t:Tok}{ty:String}(it:Addr)(hty:ty="str_ascii_iterator"\/ty="str_iterator"):qC P w K tg (Itc x) [it] it (λi h=>h.IsStrIter it ty x t i):=by
 have W:∀A:Around,A.handled=none->Walks P w A it [it] [it] x.cps.size (SignAt x) (λi h=>h.IsStrIter it ty x t i):=λA hA=>by
  rcases hty with rfl | rfl
  ·exact Walks.strAscii hA it x t
  ·exact Walks.strWide hA it x t
 have hn:["enumerate","zip","dict_itemiterator","dict_reverseitemiterator","odict_iterator","itertools.zip_longest","itertools.pairwise"].contains ty=false:=by rcases hty with rfl | rfl <;> decide
 refine⟨by simp,λi h st b hb=> ?_,λi h h' st k=> ?_, ?_, ?_,λA i s Q E st h=> ?_⟩
 ·have e:b=it:=by simpa using hb
  subst e;obtain⟨o,e,c,d⟩:=st;exact⟨o,e,λv z=>by rw[d]at z;cases z⟩
 ·obtain⟨o,e,r⟩:=st;exact⟨o,k it (by simp) o e,r⟩
 ·intro X hP hw hK hc i pins s σ H E I hf st hg;subst hP hw hK;obtain⟨f0,f1,f2,f3,f4,f5⟩:=hf it (by simp)
  refine(W X.A (I.ok.hd hc)).item i s _ _ hg st λv h' tk hv st' kk=> ?_;obtain⟨c,u,hc',rfl⟩:=hv;have I1:L2.Inv X pins σ H { s with heap:=h',toks:=tk }:=I.turned (λb o hb e=>kk b o (by simpa using hb) e) f0 f1 f3 f4 f5
  obtain⟨o,e,cl,d⟩:=id st';exact⟨_,rfl,qD (s:={ s with heap:=h',toks:=tk }) e cl d hn ⟨.str ⟨#[c]⟩,H,I1,⟨u,rfl⟩,⟨rfl,c,hc',rfl⟩,st',λb hb=>(hf b hb).1⟩⟩
 ·intro X hP hw hK hc i pins s σ H E I hf st hg;subst hP hw hK;obtain⟨f0,f1,f2,f3,f4,f5⟩:=hf it (by simp)
  have hx:x.cps[i]? =none:=cG hg;rcases hty with rfl | rfl
  ·exact wpAny_pyNext_ascii_end (I.ok.hd hc) st hx λh' eb=>⟨rfl,I.turned (t' :=s.toks) (λb o hb e=>eb b o hb e) f0 f1 f3 f4 f5⟩
  ·exact wpAny_pyNext_wide_end (I.ok.hd hc) st hx λh' eb=>⟨rfl,I.turned (t' :=s.toks) (λb o hb e=>eb b o hb e) f0 f1 f3 f4 f5⟩
 ·rcases hty with rfl | rfl
  ·exact wpAny_pyIter_striter_ascii st h
  ·exact wpAny_pyIter_striter_wide st h
def ZM (x:Str):List T:=x.cps.toList.map λc=>T.str ⟨#[c]⟩
theorem qX {B1 H1:Hp}{x:Str}:rI B1 H1 (Itc x) (ZM x):=λB2 H2 s1 s2=>by
 have hl:(ZM x).length=x.cps.size:=by unfold ZM;simp
 refine⟨λi hi=>by rw[hl]at hi;exact hi,λi t v H3 e y=> ?_,λi hi=>by rw[hl]at hi;exact hi⟩
 obtain⟨rfl,c,hc,rfl⟩:=y;refine⟨zw.refl _, ?_⟩;unfold ZM at e;rw[aG]at e;have hc' :x.cps.toList[i]? =some c:=by simpa using hc
 rw[hc']at e;cases e;exact .str _
section
variable {X:Cx}{Y:Fx}{a b c d tg:Expr}{fa fb fc fd:En->R T}{pos p:Pos}
theorem kv {l:Expr}{tl:TE}(hl:PE X l tl):PI X tg l (λσ H R=>tl σ H λx H1=>(∃a,x= .ref a/\(((∃xs,SqL X.K H1 a xs)/\R (Itl X.K a) H1)\/((∃xs,SqT X.K H1 a xs)/\R (Itt X.K a) H1)))\/(∃z,x= .str z/\R (Itc z) H1)):=by
 intro pins s σ H R I h;refine thn (hl pins s σ H _ I h) λv s1 ⟨x,H1,I1,r1,q1⟩=> ?_;have ok:∀b∈[s1.heap.objs.size],WV X pins H1 b:=λb hb=>by
  have e:b=s1.heap.objs.size:=by simpa using hb
  subst e;exact I1.fpOk (am _) (I1.hok.fresh (am _))
 rcases q1 with ⟨a,e,q⟩ | ⟨z,e,q⟩
 ·subst e;obtain rfl:v=Value.ref a:=r1;rcases q with ⟨⟨xs,hq⟩,q⟩ | ⟨⟨xs,hq⟩,q⟩
  ·obtain⟨its,rv,p,hz⟩:=I1.list hq;exact wpAny_pyIter_list p.isList ⟨s1.heap.objs.size,[s1.heap.objs.size],_,_,H1,rfl,I1.kept (t' :=s1.toks) λb o e=>aj _ e,UR a _,⟨_,ay _ rfl,rfl,rfl⟩,ok,q⟩
  ·obtain⟨its,rv,p,hz⟩:=I1.tuple hq;exact wpAny_pyIter_tuple (show s1.heap.IsTuple a its.toArray from p) ⟨s1.heap.objs.size,[s1.heap.objs.size],_,_,H1,rfl,I1.kept (t' :=s1.toks) λb o e=>aj _ e,Uc a _,⟨_,ay _ rfl,rfl,rfl⟩,ok,q⟩
 ·subst e;obtain⟨t,rfl⟩:=r1;cases ha:z.cps.all (· < 128)
  ·exact wpAny_pyIter_wide ha ⟨s1.heap.objs.size,[s1.heap.objs.size],_,_,H1,rfl,I1.kept (t' :=s1.toks) λb o e=>aj _ e,wo _ (.inr rfl),⟨_,ay _ rfl,rfl,rfl⟩,ok,q⟩
  ·exact wpAny_pyIter_ascii ha ⟨s1.heap.objs.size,[s1.heap.objs.size],_,_,H1,rfl,I1.kept (t' :=s1.toks) λb o e=>aj _ e,wo _ (.inl rfl),⟨_,ay _ rfl,rfl,rfl⟩,ok,q⟩
def jJ:T->R (List T)
 | .lst xs=> .ok xs
 | .tup xs=> .ok xs
 | .str x=> .ok (ZM x)
 | _=> .bad
def Zm (fa:En->R T):En->R (List T):=λρ=>(fa ρ).bind jJ
theorem GH (ha:Snd X Y a fa):yC X Y tg a (Zm fa):= .mk λρ=>PI.imp (kv (ha ρ)) λσ H R ⟨B,I,q⟩=>step I q λt v H1 _ s1 r1 I1 q1=>by
 cases r1 with
 | @tup l xs ts h r=>
  exact .inl ⟨l,rfl,.inr ⟨⟨xs,SqT.of (I1.sB _ _ h)⟩,ZP I1 (show Po Y rI _ H1 (.ok ts) R from q1) (ki h r)⟩⟩
 | @lst l xs ts h r=>
  exact .inl ⟨l,rfl,.inl ⟨⟨xs,SqL.of (I1.sB _ _ h)⟩,ZP I1 (show Po Y rI _ H1 (.ok ts) R from q1) (kj h r)⟩⟩
 | str z=>exact .inr ⟨z,rfl,ZP I1 (show Po Y rI _ H1 (.ok (ZM z)) R from q1) qX⟩
 | _=>exact q1.elim
end
theorem Inv.laidT {X:Cx}{pins:List (Addr×Obj)}{σ:Sg}{H:Hp}{s:Shared}{h' :Heap}{tk:Nat}{ch:List Addr}{a:Addr}{xs:List V}(I:L2.Inv X pins σ H s)(hf:∀b∈ch,WV X pins H b)(k:∀b o,b ∉ ch->s.heap.get? b=some o->h'.get? b=some o)
  (th:∀b o,b∈ch->s.heap.get? b=some o->∃o',h'.get? b=some o') (ha:s.heap.objs.size<=a) (new:Zl X.prog X.w (upd H a (.tup xs)) h' a (.tup xs)):L2.Inv X pins σ (upd H a (.tup xs)) { s with heap:=h',toks:=tk }:=by
 have hn:H a=none:=I.hok.fresh ha;have nch:∀b u,H b=some u->b ∉ ch:=λb u e hb=>by rw[(hf b hb).1]at e;cases e
 refine I.call' (s' :={ s with heap:=h',toks:=tk }) (ch:=ch) rfl ⟨λb o e n _ hc=>k b o hc e,λb o e n _ hc=>⟨o.slots,k b o hc e⟩,λb o e n _=>by rw[zy (aH (aE (ar e) ha))];exact n,λb o e hc=>⟨o,k b o hc e⟩,
  λb ys e=>by rw[zy (zT e hn)];exact e,λb o u e=>by rw[zy (zT e hn)];exact e,λb ps e=>⟨#[],by rw[zy (zT e hn),e];simp⟩⟩ (λb u e=> ?_) I.bare λb hb=> ?_
 ·by_cases hb:b=a
  ·subst hb;rw[zU]at e;cases e;exact new
  ·rw[zy hb]at e;refine(I.hok b u e).stay (λc v hc q=> ?_) (λc q=>by rw[zy (zT q hn)];exact q) λc ys q=>by rw[zy (zT q hn)];exact q
   rcases hc with rfl | hc
   ·exact k c v (nch c u e) q
   ·exact k c v (nch c _ hc) q
 ·obtain⟨f0,f1,f2,f3,f4,f5⟩:=hf b hb;exact⟨f3,f1,f4,f5⟩
def Ite (K:ai)(l:Addr):It:=
 ⟨λi H=>∃xs x,SqL K H l xs/\xs[i]? =some x,λi H v H' =>∃p x,H p=none/\v= .ref p/\(∀xs,SqL K H l xs->xs[i]? =some x)/\H' =upd H p (.tup [.int i,x]),λi H=>∃xs,SqL K H l xs/\xs.length<=i⟩
theorem yH {P:Program}{w:World}{K:ai}{elts:List Expr}{kk:Nat}{pt:Pos}(e it l:Addr)(hei:e ≠ it)(hle:l ≠ e)(hli:l ≠ it):
  qC P w K (.Tuple elts kk pt) (Ite K l) [e,it] e (λi h=>(∃old,IsEnum h e it i old)/\h.IsListIter it l i) where
 mem:=by simp
 obj:=λi h st b hb=>by
  obtain⟨⟨old,he⟩,o,e1,c,d⟩:=st;rcases ax.mp hb with rfl | hb
  ·exact⟨_,he,λv z=>nomatch z⟩
  ·have z:b=it:=by simpa using hb
   subst z;exact⟨o,e1,λv z=>by rw[d]at z;cases z⟩
 keep:=λi h h' st k=>by
  obtain⟨⟨old,he⟩,hit⟩:=st;exact⟨⟨old,k e (by simp) _ he⟩,hit.at λo x=>k it (by simp) o x⟩
 item:=by
  intro X hP hw hK hc i pins s σ H E I hf st hg;subst hP hw hK;obtain⟨xs,x,hq,hx⟩:=hg;obtain⟨its,rv,p,hz⟩:=I.list hq;obtain⟨u,hu,ru⟩:=rv.get hx;obtain⟨⟨old,he⟩,hit⟩:=st;have hi:i < its.toArray.size:=by
   have:=(az.mp hu).1;simpa using this
  refine(ip (prog:=X.prog) (w:=X.w) (I.ok.hd hc) e it l hei hle hli its.toArray).item i s _ _ hi ⟨⟨old,he⟩,hit,p.isList⟩ λT vals h' tk hP hT hTup hM hk=> ?_;obtain⟨t,y,hy,rfl⟩:=hP;have hyu:y=u:=by
   have:its[i]? =some y:=by simpa using hy
   rw[hu]at this;exact(aR this).symm
  subst hyu;refine⟨.ref T,rfl, ?_⟩;refine(ip (prog:=X.prog) (w:=X.w) (I.ok.hd hc) e it l hei hle hli its.toArray).go elts kk pt i T _ _ _ hM λh2 hst2 hk2=> ?_;have hTn:H T=none:=I.hok.fresh hT;have hTne:∀b∈[e,it],b ≠ T:=λb hb z=>by
   obtain⟨_,_,_,h3,h4⟩:=hM;rcases ax.mp hb with rfl | hb
   ·exact h3 z.symm
   ·have:b=it:=by simpa using hb
    subst this;exact h4 z.symm
  have wP:IsTup h2 T #[.int i t,y]:=by
   obtain⟨o,eo,r⟩:=hTup;exact⟨o,hk2 T o (λhb=>hTne T hb rfl) eo,r⟩
  refine⟨.ref T,upd H T (.tup [.int i,x]),Inv.laidT (s:=s) (h' :=h2) (ch:=[e,it]) (tk:=tk) I hf (λb o hb e=>hk2 b o hb (hk b o hb e)) (λb o hb _=> ?_) hT ⟨by rw[bS];show 2<=16777216;decide,[.int i t,y],.cons ⟨t,rfl⟩ (.cons ru .nil),wP,.inl ⟨_,_,rfl⟩⟩,rfl,⟨T,x,hTn,rfl,λys hy=>by rw[I.list_inj hy hq];exact hx,rfl⟩,⟨hst2.1,hst2.2.1⟩,λb hb=> ?_⟩
  ·obtain⟨⟨old2,he2⟩,⟨o2,eo2,_⟩,_⟩:=hst2;rcases ax.mp hb with rfl | hb
   ·exact⟨_,he2⟩
   ·have:b=it:=by simpa using hb
    subst this;exact⟨o2,eo2⟩
  ·rw[zy (hTne b hb)];exact(hf b hb).1
 done:=by
  intro X hP hw hK hc i pins s σ H E I hf st hg;subst hP hw hK;obtain⟨xs,hq,hx⟩:=hg;obtain⟨its,rv,p,hz⟩:=I.list hq;obtain⟨⟨old,he⟩,hit⟩:=st;have hl:=rv.length;refine wpAny_pyNext_enum_end (I.ok.hd hc) he hit p.isList (cG (by simp;omega)) λh' hk=>⟨rfl, ?_⟩
  obtain⟨f0,f1,f2,f3,f4,f5⟩:=hf it (by simp)
  exact I.turned (t' :=s.toks) (λb o hb e=>hk b o hb e) f0 f1 f3 f4 f5
 self:=λ_ _ _ _ _ st h=>let ⟨⟨_,he⟩,_⟩:=st;wpAny_pyIter_enum he h
def wa (xs:List T):List T:=(xs.zipIdx).map λp=>T.tup [.int (p.2:Nat),p.1]
theorem yI {xs:List T}{i:Nat}{t:T}(h:(wa xs)[i]? =some t):∃x,xs[i]? =some x/\t= .tup [.int (i:Nat),x]:=by
 unfold wa at h;rw[aG,List.getElem?_zipIdx]at h;cases e:xs[i]? with
 | none=>rw[e]at h;cases h
 | some x=>rw[e]at h;cases h;exact⟨x,rfl,by simp⟩
theorem Wo (xs:List T):(wa xs).length=xs.length:=by unfold wa;simp
theorem VB {K:ai}{B1 H1:Hp}{a:Addr}{xs:List V}{ts:List T}(h:B1 a=some (.lst xs))(r:zH B1 xs ts):rI B1 H1 (Ite K a) (wa ts):=λB2 H2 s1 s2=>by
 have h2:=s2 _ _ (s1 _ _ h);rw[Wo];refine⟨λi hi=> ?_,λi t x H3 e y=> ?_,λi hi=>⟨xs,SqL.of h2,by rw[r.length];exact hi⟩⟩
 ·obtain⟨v,e,_⟩:=r.get (ad hi);exact⟨xs,v,SqL.of h2,e⟩
 ·obtain⟨p,v,hp,rfl,y,rfl⟩:=y;obtain⟨t',et,rfl⟩:=yI e;obtain⟨v',e1,r1⟩:=r.get et;have:=y xs (SqL.of h2);rw[e1]at this;cases this;refine⟨zw.new hp _,.tup (j9 hp _) (.cons (.int _) (.cons ?_ .nil))⟩;exact(r1.mono s1).mono (zV.ge s2 (zw.new hp _))
section
variable {X:Cx}{Y:Fx}{a:Expr}{fa:En->R T}{pos p pt:Pos}{elts:List Expr}{kk:Nat}
theorem VC {ta:TA}(hg:Gl X "enumerate")(hm:X.mg "enumerate"=none)(ha:PA X [a] ta)(hs:St1 X a:=by exact st1 rfl):
  PI X (.Tuple elts kk pt) (.Call (.Name "enumerate" p) [a] [] pos) (λσ H R=>ta σ H λvs H1=>∃l xs,vs=[.ref l]/\H1 l=some (.lst xs)/\R (Ite X.K l) H1):=by
 intro pins s σ H R I h;refine Call_ (Jz I hg hm PyProof.Rows.Boot.«enumerate» (bK (thn (ha pos pins s σ H _ I h) λus s1 ⟨vs,H1,I1,r1,q1⟩=> ?_) hs rfl));obtain⟨l,xs,e,hl,q⟩:=q1;subst e;obtain⟨u,rfl,ru⟩:=j7 r1;obtain rfl:u=Value.ref l:=ru;obtain⟨_,its,n,rv,eo⟩:=(show Zl X.prog X.w H1 s1.heap l (.lst xs) from I1.hok l _ hl);have hlt:l < s1.heap.objs.size:=ar eo;refine call_enumerate_1 eo λh' he hit hsz hk=>wpAny_pyIter_enum he ?_;have f:∀b∈[s1.heap.objs.size+1,s1.heap.objs.size],WV X pins H1 b:=λb hb=>by
  rcases ax.mp hb with rfl | hb
  ·exact I1.fpOk (iz _) (I1.hok.fresh (iz _))
  ·have z:b=s1.heap.objs.size:=by simpa using hb
   subst z;exact I1.fpOk (am _) (I1.hok.fresh (am _))
 exact⟨s1.heap.objs.size+1,[s1.heap.objs.size+1,s1.heap.objs.size],_,_,H1,rfl,I1.kept (t' :=s1.toks) hk,yH _ _ l (Nat.succ_ne_self _) (aH (eN hlt)) (aH hlt),⟨⟨_,he⟩,hit⟩,f,q⟩
def VD (fa:En->R T):En->R (List T):=λρ=>(fa ρ).bind λt=>match t with
 | .lst xs=> .ok (wa xs)
 | _=> .bad
theorem kw (hg:Gl X "enumerate")(hm:X.mg "enumerate"=none)(ha:Snd X Y a fa)(hs:St1 X a:=by exact st1 rfl):yC X Y (.Tuple elts kk pt) (.Call (.Name "enumerate" p) [a] [] pos) (VD fa):= .mk λρ=>
 PI.imp (VC hg hm (zu (ha ρ) Za hs) hs) λσ H R ⟨B,I,q⟩=>step I q λt v H1 _ s1 r1 I1 q1=>by
  cases r1 with
  | @lst l xs ts h r=>exact⟨l,xs,rfl,I1.sB _ _ h,ZP I1 (show Po Y rI _ H1 (.ok (wa ts)) R from q1) (VB h r)⟩
  | _=>exact q1.elim
def UK:List T->Option (List Str)
 | []=>some []
 | .str x :: r=>match UK r with | some ys=>some (x :: ys) | none=>none
 | _ :: _=>none
def kx (sep:Str):T->R T
 | .lst ts=>match UK ts with
  | some ys=>if (ys.map (·.length)).sum+ys.length*sep.length<=16777216 then .ok (.str (Txt.join sep ys)) else .bad
  | none=> .bad
 | _=> .bad
theorem wJ {H:Hp}:∀{xs:List V} {ts:List T} {its:List Value} {ys:List Str},zH H xs ts->Vals xs its->UK ts=some ys->StrsAre its ys
 | _,_,_,ys,.nil,.nil,h=>by
  have h' :some []=some ys:=h;cases h';exact .nil
 | _,_,_,ys,.cons (t:=t) r rs,.cons (b:=u) rv vs,h=>by
  cases r with
  | str x=>
   unfold UK at h;split at h
   ·rename_i zs e;cases h;obtain⟨tk,rfl⟩:=rv;exact .cons x tk (wJ rs vs e)
   ·cases h
  | _=>cases h
theorem VE:MtR X "str.join" (λx xs H Q=>∃z l zs ts ys,x= .str z/\xs=[.ref l]/\H l=some (.lst zs)/\zH H zs ts/\UK ts=some ys/\(ys.map (·.length)).sum+ys.length*z.length<=16777216/\Q (.str (Txt.join z ys)) H):=by
 intro pins s σ H x xs v us Q I rx rv h;obtain⟨z,l,zs,ts,ys,rfl,rfl,hl,r,e,hb,q⟩:=h;obtain⟨t,rfl⟩:=rx;obtain⟨u,rfl,ru⟩:=j7 rv;obtain rfl:u=Value.ref l:=ru;obtain⟨its,rv,p,_⟩:=zZ I (.inl hl) r;exact join_list p (by simpa using wJ r rv e) hb λt' k=>⟨.str _,H,I.tok k,⟨t',rfl⟩,q⟩
theorem ky {z:Str}{kc:Nat}{pz pa:Pos}(ha:jw X Y a fa)(hb:attributeBase (.Constant (.str z) kc pz) "join" X.env (eval (.Constant (.str z) kc pz) X.env)=eval (.Constant (.str z) kc pz) X.env:=by rfl)(hs:St1 X a:=by exact st1 rfl)
  (hz:(pa.endLine == p.line)=true:=by rfl):Snd X Y (.Call (.Attribute (.Constant (.str z) kc pz) "join" pa) [a] [] p) (ap1 (kx z) fa):= .mk λρ=>by
 have e1:(((((backTo p (starEach [a] X.env)).all λx=> !x.fst) && (backToKw p (keywordEach [] X.env)).all λx=>x.fst.isSome) && decide (([a].length+([]:List Keyword).length+if ([]:List Keyword).isEmpty=true then 0 else 1) < 30))=true):=by rw[hs];rfl
 refine PE.imp (yc PySem.F.plainAttrs_str PySem.F.slot_str_join PySem.F.type_str_join VE QU (zu (ha ρ) Za hs) hb e1 hz hs rfl) λσ H Q ⟨B,I,q⟩=> ?_;refine⟨rfl,step I q λt v H1 _ s1 r1 I1 q1=> ?_⟩;cases r1 with
 | @lst l xs ts h r=>
  have q1:Po Y rC _ H1 (match UK ts with | some ys=>if (ys.map (·.length)).sum+ys.length*z.length<=16777216 then .ok (.str (Txt.join z ys)) else .bad | none=> .bad) Q:=q1
  split at q1
  ·rename_i ys e;split at q1
   ·rename_i hl;exact⟨z,l,xs,ts,ys,rfl,rfl,h,r,e,hl,po0 I1.sB q1 rfl (.str _)⟩
   ·exact q1.elim
  ·exact q1.elim
 | _=>exact q1.elim
end
def dd:List Str->List Str->List Str
 | acc,[]=>acc
 | acc,x :: r=>dd (if x∈acc then acc else acc++[x]) r
section
variable {prog:Program}{w:World}{A:Around}{R:Result->Shared->Prop}{I:Addr}{fp wr:List Addr}{n:Nat}{P:Nat->Value->Prop}{St:Nat->Heap->Prop}
theorem ji {h h' :Heap}{S:Addr}{f g:Str->Bool}{m k:Nat}(x:h.SetOf (strKind prog w) S f m)(e:∀o,h.get? S=some o->h'.get? S=some o)(ef:f=g)(em:m=k):h'.SetOf (strKind prog w) S g k:=by
 subst ef em;obtain⟨o,es,ep,t,ho,r⟩:=x;exact⟨o,es,ep,t,e o ho,r⟩
theorem qY (W:Walks prog w A.in1 I fp wr n P St)(S:Addr)(hSf:S ∉ fp)(val:Nat->Str)(hval:∀i v,P i v->∃t,v=Value.str (val i) t)(hb:n+1 < scanBound):
  ∀(k i:Nat) (acc:List Str) (s:Shared),n - i=k->i<=n->acc.length<=i->St i s.heap->s.heap.SetOf (strKind prog w) S (λx=>decide (x∈acc)) acc.length->
   (∀h' tk,(∀b o,b ∉ S :: wr->s.heap.get? b=some o->h'.get? b=some o)->h'.SetOf (strKind prog w) S (λx=>decide (x∈dd acc ((dI i k).map val))) (dd acc ((dI i k).map val)).length->
    R (.ok (.ret .none)) { s with heap:=h',toks:=tk })->codeAny (model prog w) A (.builtin "set.update.loop" ⟨[.ref S,.ref I],[]⟩) R s:=by
 intro k
 induction k with
 | zero=>
  intro i acc s hk hi hal hst hS hR;obtain rfl:i=n:=by omega
  refine codeAny_builtin e_ ?_;rw[fM dj _];refine aa (m:=pyNext (.ref I)) (W.done s _ _ hst λh' tk hk' =>ak ?_);exact hR h' tk (λb o hb e=>hk' b o (λz=>hb (ae _ z)) e) (ji hS (λo e=>hk' S o (λz=>hSf (W.sub _ z)) e) rfl rfl)
 | succ k ih=>
  intro i acc s hk hi hal hst hS hR;refine codeAny_builtin e_ ?_;rw[fM dj _];refine aa (m:=pyNext (.ref I)) (W.item i s _ _ (by omega) hst λv h1 tk1 hP hst1 hk1=> ?_)
  obtain⟨t,rfl⟩:=hval i v hP;have hS1:=ji hS (λo e=>hk1 S o (λz=>hSf (W.sub _ z)) e) rfl rfl;refine aa (m:=holding [Value.str (val i) t] (setAdd S (.str (val i) t))) (b_ ?_);unfold setAdd;have isk:(strKind prog w).is (val i) (.str (val i) t)=true:=strKind_is _ _ _ _;refine b_ (aa ((strKind prog w).pyHash isk ?_));refine wpAny_setAddHashed_of (knd:=strKind prog w) (s:={ s with heap:=h1,toks:=tk1+1 }) isk rfl hS1 (by omega) λh2 hsb hS2=> ?_
  have e2:(if decide (val i∈acc)=true then acc.length else acc.length+1)=(if val i∈acc then acc else acc++[val i]).length:=by
   by_cases hm:val i∈acc
   ·simp[hm]
   ·simp[hm]
  have e1:(λx=>decide (x∈acc) || decide (x=val i))=(λx=>decide (x∈(if val i∈acc then acc else acc++[val i]))):=by
   funext x
   by_cases hm:val i∈acc
   ·simp only[if_pos hm]
    by_cases hx:x=val i
    ·subst hx;simp[hm]
    ·simp[hx]
   ·simp[hm,Bool.decide_or]
  have hS3:=ji (h' :=h2) hS2 (λo e=>e) e1 e2;refine ak ⟨plainId_quiet dj _,ih (i+1) _ _ (by omega) (by omega) ?_ (W.frame _ h1 _ hst1 λb hb o e=> ?_) hS3 λh3 tk3 hk3 hS4=> ?_⟩
  ·split
   ·omega
   ·rw[aA,aD];omega
  ·exact(hsb.2 b (λz:b=S=>hSf (z ▸ hb))).trans e
  ·rw[List.range'_succ,aB]at hR;refine hR h3 tk3 (λb o hb e=>hk3 b o hb ?_) hS4;exact(hsb.2 b (λz:b=S=>hb (z ▸ ah))).trans (hk1 b o (λz=>hb (ae _ z)) e)
end
section
variable {prog:Program}{w:World}{A:Around}{E:Value->Shared->Prop}{s:Shared}
set_option maxRecDepth 100000 in
set_option maxHeartbeats 3200000 in
theorem yJ {l:Addr}{its:List Value}{ys:List Str}{Q:Value->Shared->Prop}(hh:A.handled=none)(hl:s.heap.IsList l its.toArray)(hi:StrsAre its ys)(hb:its.length+1 < scanBound)
  (h:∀(h' :Heap) (tk:Nat),h'.SetOf (strKind prog w) s.heap.objs.size (λx=>decide (x∈dd [] ys)) (dd [] ys).length->(∀b o,b < s.heap.objs.size->s.heap.get? b=some o->h'.get? b=some o)->
   Q (.ref s.heap.objs.size) { s with heap:=h',toks:=tk }):wpAny (model prog w) A (call (.type "set") [.ref l]) Q E s:=by
 have getv:∀{its:List Value} {ys:List Str},StrsAre its ys->its.length=ys.length/\∀(i:Nat) (v:Value),its[i]? =some v->∃t,v=Value.str (ys.getD i ⟨#[]⟩) t:=λ{its ys} hi=>by
  induction hi with
  | nil=>exact⟨rfl,λi v e=>by simp at e⟩
  | cons y t _ ih=>
   refine⟨by simp[ih.1],λi v e=> ?_⟩
   cases i with
   | zero=>exact⟨t,by simpa using e.symm⟩
   | succ i=>exact ih.2 i v (by simpa using e)
 obtain⟨hlen,hget⟩:=getv hi;have hys:(dI 0 its.length).map (λi=>ys.getD i ⟨#[]⟩)=ys:=by
  rw[hlen];refine List.ext_getElem? λi=> ?_;rw[aG]
  by_cases hi' :i < ys.length
  ·rw[List.getElem?_range' hi',ad hi'];simp[ad hi']
  ·rw[bP (by simp;omega),bP (by omega)]
   rfl
 obtain⟨c,tl,hmro⟩:=cH.mro;have hmade:=cH.made;have hsub:=cH.sub;have h1:=cH.notType;have h2:=cH.canCreate;have hct:=F.typeCall_set_1 (.ref l);refine wpAny_call (codeAny_of_tree (show wpAny _ _ (callAny (.type "set") _) _ _ _ from ?_));refine ak ⟨hV _ (by decide+kernel),codeAny_builtin F.entry_type_call ?_⟩
 rw[Around.under_plain (weight_type_call_type "set" [.ref l] []) rfl]
 repeat any_goals (first | assumption | wp_step)
 refine codeAny_mono (code_set_new_1 (.ref l) (E:=E) (Q₁:=λobj s₁=>∃led:Bool,obj= .ref s.heap.objs.size/\s₁={ s with heap:=s.heap.push { cls:= .type "set",dict:=none,data:= .set #[] 0 (.fresh 0 0 led) } }) λled=>⟨led,rfl,rfl⟩) λr s₁ hr=> ?_;cases r with
 | error e=>exact hr
 | ok fl=>
  cases fl with
  | ret obj=>
   obtain⟨led,rfl,rfl⟩:=hr;generalize hG:s.heap.push { cls:= .type "set",dict:=none,data:= .set #[] 0 (.fresh 0 0 led) }=G;have hS:G.get? s.heap.objs.size=some { cls:= .type "set",dict:=none,data:= .set #[] 0 (.fresh 0 0 led) }:=by rw[← hG];exact ay _ rfl
   have hGs:G.objs.size=s.heap.objs.size+1:=by rw[← hG,dy]
   have hGk:∀b o,s.heap.get? b=some o->G.get? b=some o:=λb o e=>by rw[← hG];exact aj _ e
   have hT:Shared.TypeIs { s with heap:=G } (.ref s.heap.objs.size) "set":=⟨_,hS,rfl⟩;have hli:=cH.init.lookup;have hbi:=cH.init.bind (.ref s.heap.objs.size)
   repeat any_goals (first | assumption | wp_step)
   refine codeAny_mono (codeAny_call_builtin (R:=wants (λr s₂=>r= .none/\∃h' tk,s₂={ s with heap:=h',toks:=tk }/\h'.SetOf (strKind prog w) s.heap.objs.size (λx=>decide (x∈dd [] ys)) (dd [] ys).length/\
     (∀b o,b < s.heap.objs.size->s.heap.get? b=some o->h'.get? b=some o)) E) cH.init.plain F.entry_set_init (check_set_init_1 hT ?_)) λr₂ s₂ hr₂=> ?_
   ·obtain⟨⟨ocls,odict,odata,oslots⟩,hol,hcl,nl,hdl⟩:=hl;simp only at hcl hdl;subst hcl;subst hdl;have hol' :=hGk _ _ hol;have hsls:=F.sub_list_set;have hslf:=F.sub_list_frozenset;have hne:(Value.type "list" == Value.type "dict")=false:=by decide
    have hl1:G.IsList l its.toArray:=⟨_,hol',rfl,nl,rfl⟩;have hlS:l < s.heap.objs.size:=ar hol;unfold Builtin.«set.__init__» noKeywords Builtin.Frozenset.updateFrom;generalize hPI:pyIter=PI
    wp_walk
    subst hPI;refine wpAny_pyIter_list hl1 (aa (wpAny_runValue ?_));have hSf:s.heap.objs.size ∉ [G.objs.size,l]:=by
     rw[hGs];intro z;rcases ax.mp z with z | z
     ·exact absurd z (aH (Nat.lt_succ_self _))
     ·exact absurd (aT.mp z) (fo hlS)
    refine qY (Walks.list (A:=A.in1.in1.in1) (by simp[hh]) G.objs.size l (by rw[hGs];exact aH (eN hlS)) its.toArray) s.heap.objs.size hSf (λi=>ys.getD i ⟨#[]⟩) (λi v e=>hget i v (by simpa using e)) (by simpa using hb) its.length 0 [] _ (by simp) (bT _) (am _)
     ⟨⟨_,ay _ rfl,rfl,rfl⟩,hl1.push _⟩ ?_ ?_
    ·have hget' :(G.push { cls:= .type "list_iterator",data:= .fields #[.ref l,.int 0 0] }).get? s.heap.objs.size=some { cls:= .type "set",dict:=none,data:= .set #[] 0 (.fresh 0 0 led) }:=aj _ hS;exact ji ((PyProof.Rows.setObjOf_fresh (knd:=strKind prog w) led).setOf hget' (by unfold scanBound;omega)) (λo e=>e) (by funext x;simp) rfl
    ·intro h' tk' hm hS';rw[hys]at hS';refine ak (show wpAny _ _ (ret Value.none) _ _ _ from ak ⟨rfl,h',tk',rfl,hS',λb o hb e=> ?_⟩);refine hm b o (λz=> ?_) (aj _ (hGk b o e));rcases ax.mp z with z | z
     ·exact absurd z (aH hb)
     ·have z' :b=G.objs.size:=aT.mp z;rw[hGs]at z';exact absurd z' (aH (eN hb))
   ·cases r₂ with
    | error e=>exact hr₂
    | ok fl₂=>
     cases fl₂ with
     | ret r=>
      obtain⟨rfl,h',tk,rfl,hS',hk'⟩:=hr₂
      repeat any_goals (first | assumption | wp_step)
      exact h _ _ hS' hk'
     | _=>exact hr₂.elim
  | _=>exact hr.elim
end
section
variable {X:Cx}{Y:Fx}{a b:Expr}{fa fb:En->R T}{pos pos' p p' :Pos}
theorem yK (hh:X.A.handled=none):ZB X (.type "set") (λvs H Q=>∃l xs ts ys,vs=[.ref l]/\H l=some (.lst xs)/\zH H xs ts/\UK ts=some ys/\ts.length+1 < 4096/\
  ∀q,H q=none->Q (.ref q) (upd H q (.ext λh=>h.SetOf (strKind X.prog X.w) q (λx=>decide (x∈dd [] ys)) (dd [] ys).length))):=by
 intro pins s σ H vs us Q I rv h;obtain⟨l,xs,ts,ys,rfl,hl,r,ey,hb,q⟩:=h;obtain⟨u,rfl,ru⟩:=j7 rv;obtain rfl:u=Value.ref l:=ru;obtain⟨its,rv,pl,hln,_⟩:=zZ I (.inl hl) r;refine yJ hh pl (wJ r rv ey) (by unfold scanBound;omega) λh' tk hS hk=> ?_
 refine⟨.ref s.heap.objs.size,_,I.laid (t' :=tk) (λb u e=>hk b u (ar e) e) (am _) ?_,rfl,q _ (I.hok.fresh (am _))⟩;obtain⟨o,es,ep,t,ho,rr⟩:=id hS;exact⟨hS,⟨o,ho⟩,λh1 h2 ⟨o1,es1,ep1,t1,ho1,rr1⟩ e=>⟨o1,es1,ep1,t1,e _ ho1,rr1⟩⟩
theorem yL:ZB X (.builtin "len") (λvs H Q=>∃q φ f n,vs=[.ref q]/\H q=some (.ext φ)/\(∀h:Heap,φ h->h.SetOf (strKind X.prog X.w) q f n)/\Q (.int n) H):=by
 intro pins s σ H vs us Q I rv h;obtain⟨l,φ,f,n,rfl,hl,hφ,q⟩:=h;obtain⟨u,rfl,ru⟩:=j7 rv;obtain rfl:u=Value.ref l:=ru;obtain⟨h1,_,_⟩:=(show Zl X.prog X.w H s.heap l (.ext φ) from I.hok l _ hl);obtain⟨o,es,ep,t,ho,hex,hd,_,_,hb,hf,hn⟩:=hφ _ h1;refine call_len_set ho hex hd hf ?_ ⟨.int es.size,H,I.tok _,⟨_,rfl⟩,by rw[hn];exact q⟩
 have:es.size < 4096:=hb;omega
def qZ:T->R T
 | .lst ts=>match UK ts with
  | some ys=>if ts.length+1 < 4096 then .ok (.int (dd [] ys).length) else .bad
  | none=> .bad
 | _=> .bad
theorem kz (hh:X.A.handled=none)(gl:Gl X "len")(mg:X.mg "len"=none)(gl' :Gl X "set")(mg' :X.mg "set"=none)(ha:jw X Y a fa)(hs:St1 X a:=by exact st1 rfl)(hs' :St1 X (.Call (.Name "set" p') [a] [] pos'):=by exact st1 rfl):
  Snd X Y (.Call (.Name "len" p) [.Call (.Name "set" p') [a] [] pos'] [] pos) (ap1 qZ fa):= .mk λρ=>
 PE.imp (ZR yL gl mg PySem.boot_len (zu (jD (yK hh) gl' mg' PyProof.Rows.Boot.«set» (zu (ha ρ) Za hs) (by decide) (by decide) hs rfl) Za hs') (by decide) (by decide) hs' rfl) λσ H Q ⟨B,I,q⟩=>
  step I q λt v H1 _ s1 r1 I1 q1=>by
   cases r1 with
   | @lst l xs ts h r=>
    have q1:Po Y rC _ H1 (match UK ts with | some ys=>if ts.length+1 < 4096 then .ok (.int (dd [] ys).length) else .bad | none=> .bad) Q:=q1
    split at q1
    ·rename_i ys e;split at q1
     ·rename_i hl;refine⟨l,xs,ts,ys,rfl,h,r,e,hl,λz hz=>⟨z,_,_,_,rfl,zU,λh hh=>hh, ?_⟩⟩;exact q1 _ _ (zw.new hz _) (.int _)
     ·exact q1.elim
    ·exact q1.elim
   | _=>exact q1.elim
def uJ (i j:Nat)(ga:En->R (List T)):En->RS:=λρ=>(ga ρ).s λts=>match ts with
 | [x,y]=> .nx ((ρ.set i (.vl x)).set j (.vl y))
 | _=> .bad
theorem GI {i j:Nat}{x y:Str}{ga:En->R (List T)}{px py pt pt2:Pos}{kt k2:Nat}(hc:X.calm=true)(hN:X.N.Nodup)(hi:X.N[i]? =some x)(hj:X.N[j]? =some y)(hij:i ≠ j)(hx:X.env.scope.names.lookup x=some .local)(hy:X.env.scope.names.lookup y=some .local)
  (ha:Wk X Y [a,b] ga) (hs:swappedStores [.Tuple [.Name x px,.Name y py] kt pt] (.Tuple [a,b] k2 pt2) X.env=pure (some [x,y])) (hw:swapsWithSole [.Tuple [.Name x px,.Name y py] kt pt] (.Tuple [a,b] k2 pt2) pos.line X.env=pure false:=by rfl):
  wH X Y (.Assign [.Tuple [.Name x px,.Name y py] kt pt] (.Tuple [a,b] k2 pt2) pos) (uJ i j ga):= .mk λρ=>
 PS.imp (Xp hc hN hi hj hij hx hy (ha ρ) hs hw) λD σ H ⟨B,I,q⟩=>w9 I q λts vs H1 _ s1 r1 I1 q1=>by
  cases r1 with
  | nil=>exact q1.elim
  | cons r rr=>
   cases rr with
   | nil=>exact q1.elim
   | cons r' rr=>
    cases rr with
    | cons _ _=>exact q1.elim
    | nil=>exact⟨_,_,rfl,q1 _ _ _ (zw.refl _) ((I1.setV i r).setV j r')⟩
end
theorem kA {X:Cx}{E:XK}:ZQ CX0 X E:=λ_ _ _ _ _ _ _ h=>h.elim
section
variable {X:Cx}{Y:Fx}{a b:Expr}{fa fb:En->R T}{pos pos' p p' :Pos}
theorem VF {cl:Nat->Value}{k j n:Nat}{f:Addr}{fd:FuncData}{ps:List Str}{g:List T->R T}{x:Str}{es:List Expr}{ga:En->R (List T)}(hy:Y.cl=cl)(F:Zh X.prog X.w X.K X.mg X.base CX0 j f fd ps (spP cl n g))(hr:jv k X.A)(hj:j<=k)(gl:Gl X x)
  (mg:X.mg x=some (.ref f)) (kp:bL X.K (.ref f)=true) (bd:L2.Binds X.K fd ps []) (ha:Wk X Y (a :: es) ga) (hd:(x == ("__debug__":Str))=false:=by decide)
  (hs:starEach (a :: es) X.env=(false,eval a X.env) :: starEach es X.env:=by exact zN rfl) (hz:((backTo pos (starEach es X.env)).any λx=>x.fst)=false:=by exact Zy rfl):Snd X Y (.Call (.Name x p) (a :: es) [] pos) (za n g ga):=by
 subst hy;exact vd F (hr.mono hj) gl mg kp bd kA ha hd hs hz
theorem VG {x:Str}{i:Int}{u:Value}(gl:Gl X x)(mg:X.mg x=some u)(hu:∃t,u=Value.int i t)(hd:(x == ("__debug__":Str))=false:=by decide):Snd X Y (.Name x pos) (cE (.int i)):= .mk λρ=>
 PE.imp (JA (v:= .int i) gl mg hu hd) λσ H Q ⟨B,I,q⟩=>ZP I q (.int i)
end
def GJ (scope sc0:Scope):Bool:=(scope.kind == .function) && scope.names.all (λx=>x.2 != .cell) && scope.names.all (λx=>x.2 != .local || scope.names.lookup x.1 == some .local) &&
 scope.names.all (λx=>x.2 != .free || sc0.names.lookup x.1 == some .cell || sc0.names.lookup x.1 == some .free)
theorem kB {X:Cx}{scope:Scope}(sc0:Scope)(h0:X.env.scope=sc0)(h:GJ scope sc0=true):CSc X scope:=by
 unfold GJ at h;simp only[af,aJ]at h;obtain⟨⟨⟨h1,h2⟩,h3⟩,h4⟩:=h;refine⟨eq_of_beq h1,λx hx=>by simpa using h2 x hx,λx hx hl=> ?_,λx hx hf=> ?_⟩
 ·have:=h3 x hx;rw[hl]at this;simpa using this
 ·have:=h4 x hx;rw[hf]at this;show X.env.scope.names.lookup x.1=_\/X.env.scope.names.lookup x.1=_;rw[h0];simpa using this
def GK (N N' :List Str)(scope sc0:Scope)(k:Nat)(js:List Nat):Bool:=(N'.length == k+js.length) && (aC js.length).all λi=>match js[i]? with
 | none=>true
 | some j=>match N'[k+i]?,N[j]? with
  | some x,some y=>(x == y) && (sc0.names.lookup x == some .cell || sc0.names.lookup x == some .free) && (scope.names.lookup x == some .free)
  | _,_=>false
theorem VH {X:Cx}{scope:Scope}{N' :List Str}{k:Nat}{js:List Nat}(N:List Str)(sc0:Scope)(hN:X.N=N)(h0:X.env.scope=sc0)(h:GK N N' scope sc0 k js=true):GG X scope N' k js:=by
 unfold GK at h;simp only[af,aJ]at h;obtain⟨h1,h2⟩:=h;refine⟨eq_of_beq h1,λi j e=> ?_⟩;have hi:i < js.length:=(az.mp e).1;have q:=h2 i (ba.mpr hi);rw[e]at q;dsimp only at q;split at q
 ·rename_i x y e1 e2;simp only[af,dL,beq_iff_eq]at q;obtain⟨⟨rfl,q2⟩,q3⟩:=q;refine⟨x,e1,by rw[hN];exact e2, ?_,q3, ?_⟩
  ·unfold Vis;rw[h0];exact .inr q2
  ·show X.env.scope.names.lookup x=_\/X.env.scope.names.lookup x=_;rw[h0];exact q2
 ·cases q
theorem zP {X:Cx}{Y:Fx}{tg iter elt:Expr}{ifs:List Expr}{scope:Scope}{k:Nat}{js:List Nat}{fi:En->R (List T)}{tG:TG}{g:T->En->R En}{ft:En->R Bool}{fe:En->R T}(N' :List Str)(N:List Str)(sc0:Scope)(hN:X.N=N)(h0:X.env.scope=sc0)
  (h:(GJ scope sc0 && GK N N' scope sc0 k js)=true) (cm:X.calm=true) (it:yC X Y tg iter fi) (gt:X3 X scope N' λXC=>PG XC tg tG) (gk:GOk tG g) (gn:GNo g) (tt:∀Y',Y'.cl=Y.cl->X3 X scope N' λXC=>u5 XC Y' ifs ft)
  (el:∀Y',Y'.cl=Y.cl->GF X scope N' Y'.E λXC=>Snd XC Y' elt fe) (hs:∀x,foldedSetIterable iter X.env x=pure x:=by intro _;rfl):yG X Y tg iter elt ifs scope N' k js fi tG g ft fe:=by
 rw[af]at h;exact⟨kB sc0 h0 h.1,VH N sc0 hN h0 h.2,cm,it,gt,gk,gn,tt,el,hs⟩
end PV
namespace PV
open PySem PySem.Spec PyProof.Rows L2 PySem.W
section
variable {X:Cx}{Y:Fx}{a b:Expr}{fa fb:En->R T}{pos pos' p p' :Pos}
theorem VI {cl:Nat->Value}{k j n:Nat}{f:Addr}{fd:FuncData}{ps:List Str}{g:List T->R T}{x:Str}{es:List Expr}{ga:En->R (List T)}(hy:Y.cl=cl)(hp:ZQ (CX1 X.prog X.w) X Y.E)(F:Zh X.prog X.w X.K X.mg X.base (CX1 X.prog X.w) j f fd ps (spP cl n g))(hr:jv k X.A)(hj:j<=k)(gl:Gl X x)
  (mg:X.mg x=some (.ref f)) (kp:bL X.K (.ref f)=true) (bd:L2.Binds X.K fd ps []) (ha:Wk X Y (a :: es) ga) (hd:(x == ("__debug__":Str))=false:=by decide)
  (hs:starEach (a :: es) X.env=(false,eval a X.env) :: starEach es X.env:=by exact zN rfl) (hz:((backTo pos (starEach es X.env)).any λx=>x.fst)=false:=by exact Zy rfl):Snd X Y (.Call (.Name x p) (a :: es) [] pos) (za n g ga):=by
 subst hy;exact vd F (hr.mono hj) gl mg kp bd hp ha hd hs hz
end
def vj (c:Nat):En->RS:=λ_=> .ex c
section
variable {P:Program}{w:World}{K:ai}{mg:Str->Option Value}{base:Heap}{N:List Str}{qual:Str}{scope:Scope}{f:Addr}{cd:Value}{A:Around}{outer:List Env}{s:Shared}{H:Hp}{E:XK}{Y:Fx}
theorem VJ {x m:Str}{C:Addr}{bm bmN:List Value}{Bn Bb newId nid initId inN:String}{np cpos pos ap:Pos}{j c:Nat}(O:OwnCls x C bm newId mg base)(Fn:ExcBaseFacts Bn newId inN bmN)(hBn:bm.contains (.type Bn)=true)(FB:ExcBaseFacts Bb nid initId bm)
  (hY:Y.E=E) (hc:Y.cl c= .ref C) (hg:Gl (w4 (CX1 P w) P w K mg base N qual scope f cd A outer s H E) x) (hd:(x == ("__debug__":Str))=false:=by decide):
  wH (w4 (CX1 P w) P w K mg base N qual scope f cd A outer s H E) Y (.Raise (some (.Call (.Name x np) [.Constant (.str m) j ap] [] cpos)) none pos) (vj c):= .mk λρ=>by
 subst hY;refine PS.imp (yg O Fn hBn FB hg ((QZ XR XS:Wk (w4 (CX1 P w) P w K mg base N qual scope f cd A outer s H Y.E) Y [.Constant (.str m) j ap] _) ρ) (zN rfl) hd) λD σ H1 ⟨B,I,q⟩=>⟨B,I,λvs H2 s2 r2=> ?_⟩;have q:XP Y B c:=q;refine⟨?_, ?_⟩
 ·rw[r2.length];exact(by decide:1<=sizeLine)
 ·have:=q none H2 (I.sH.trans s2) (I.sB.trans s2);rw[hc]at this;exact this
theorem Fun.okX {x qual:Str}{st:Stmt}{f:Addr}{fd:FuncData}{N ps:List Str}{k:Nat}{sp:Sp}(F:Fun K x qual st f fd)(S:zh N ps (zd st))(len:∀vs H Q E,sp vs H Q E->vs.length=ps.length)
  (hbody:∀(cdv:Value) (A:Around) (outer:List Env) (s:Shared) (H:Hp) (vs:List V) (Q:VK) (E:XK),jv k (A.deeper (envOfC qual (zd st) s.heap.objs.size f cdv))->sp vs H Q E->
   ∃t,PSs (w4 (CX1 P w) P w K mg base N qual (zd st) f cdv A outer s H E) (Zw st) t/\t { nx:=λ_ H' =>Q .non H',rt:=Q } (start N vs) H):Zh P w K mg base (CX1 P w) (k+1) f fd ps sp:=by
 obtain⟨oc,od,kV,doc,pm,an,cdv,ct,osl,rfl,lk,hcd⟩:=F.ex;exact Xz lk hcd S len λA outer s H vs Q E hr hsp=>hbody cdv A outer s H vs Q E hr hsp
theorem uK {cl:Nat->Value}{x qual:Str}{st:Stmt}{f:Addr}{fd:FuncData}{N ps:List Str}{k n:Nat}{fb:En->RS}{g:List T->R T}(F:Fun K x qual st f fd)(S:zh N ps (zd st))(hn:n=ps.length)
  (hb:∀(cdv:Value) (A:Around) (outer:List Env) (s:Shared) (H:Hp) (E:XK) (Y:Fx),Y.cl=cl->Y.E=E->jv k (A.deeper (envOfC qual (zd st) s.heap.objs.size f cdv))->
   uF (w4 (CX1 P w) P w K mg base N qual (zd st) f cdv A outer s H E) Y (Zw st) fb)
  (hg:∀ts,ts.length=n->g ts=zg (fb (en0 N.length ts))):Zh P w K mg base (CX1 P w) (k+1) f fd ps (spP cl n g):=by
 subst hn;refine Fun.okX F S spP.len λcdv A outer s H vs Q E hr ⟨B,ts,hl,sB,r,q⟩=> ?_;refine⟨_,hb cdv A outer s H E ⟨B,H,E,cl⟩ rfl rfl hr (en0 N.length ts),B,SI.start (Y:=⟨B,H,E,cl⟩) sB r, ?_⟩;rw[hg ts hl]at q;revert q;cases fb (en0 N.length ts) with
 | rt t=>exact λq v H' s r=>q v H' s r
 | rf t=>exact λq a xs H' B' s0 n e r _ l=>q (.ref a) H' s0 (.lst (by rw[Zc n];exact e) (r.mono l))
 | nx ρ=>exact λq σ' H' B' s' I' =>q _ H' I'.sH .non
 | bk ρ=>exact λq=>q.elim
 | ct ρ=>exact λq=>q.elim
 | ex c=>exact λq=>q
 | bad=>exact λq=>q
end
def VL (k:Nat)(ok:Nat->Bool)(fb:En->RS):En->RS:=λρ=>match fb ρ with
 | .ex c=>if ok c=true then .nx ((ag ρ.length Sl.un).set k (.xc c)) else .bad
 | r=>r
theorem SI.wish {Y:Fx}{B:Hp}{ρ:En}{σ:Sg}{H:Hp}(I:SI Y B ρ σ H)(E:XK):SI { Y with E:=E } B ρ σ H:=⟨I.s0,I.sH,I.sB,I.old,I.len,I.vl,I.ow,I.xc⟩
theorem SI.unwish {Y:Fx}{B:Hp}{ρ:En}{σ:Sg}{H:Hp}{E:XK}(I:SI { Y with E:=E } B ρ σ H):SI Y B ρ σ H:=⟨I.s0,I.sH,I.sB,I.old,I.len,I.vl,I.ow,I.xc⟩
theorem SI.caught {Y:Fx}{B:Hp}{σ:Sg}{H' :Hp}{ea:Addr}{c k m:Nat}(s0:zw Y.B0 Y.H0)(old:∀b o,Y.H0 b=some o->B b=Y.B0 b)(hH:zw Y.H0 H')(hB:zw B H')(he:H' ea=none)(hl:m=σ.length)(hk:σ[k]? =some (some (V.ref ea))):
  ∃B',zw B B' /\SI Y B' ((ag m Sl.un).set k (.xc c)) σ (upd H' ea (.ext (u0 (Y.cl c) ea))):=by
 have up:zw H' (upd H' ea (.ext (u0 (Y.cl c) ea))):=zw.new he _;have h0:Y.H0 ea=none:=hH.free he;refine⟨zV Y.B0 Y.H0 (upd H' ea (.ext (u0 (Y.cl c) ea))),λb o e=> ?_,⟨s0,hH.trans up,λb o e=> ?_,λb o e=>by rw[Ze e],by rw[bj,aI,hl],λi t e=> ?_,λi ts e=> ?_,λi d e=> ?_⟩⟩
 ·cases q:Y.H0 b with
  | none=>rw[Zc q];exact up b o (hB b o e)
  | some u=>rw[Ze q,← old b u q];exact e
 ·cases q:Y.H0 b with
  | none=>rw[Zc q]at e;exact e
  | some u=>rw[Ze q]at e;exact up b o (hH b o (s0 b o e))
 ·rcases zS e with ⟨_,z⟩ | ⟨_,z⟩
  ·cases z
  ·rw[aF]at z;split at z <;> cases z
 ·rcases zS e with ⟨_,z⟩ | ⟨_,z⟩
  ·cases z
  ·rw[aF]at z;split at z <;> cases z
 ·rcases zS e with ⟨rfl,z⟩ | ⟨_,z⟩
  ·cases z;exact⟨ea,hk,by rw[Zc h0,zU]⟩
  ·rw[aF]at z;split at z <;> cases z
theorem GL {X:Cx}{Y:Fx}{fb:En->RS}{body:List Stmt}{c n y:Str}{C:Addr}{cp np yp hp apos pos:Pos}{i k:Nat}{ok:Nat->Bool}
  (hX:X.stack=X.env :: X.outer) (hf:X.env.frame=some X.env.locals) (hN:X.N.Nodup)
  (hi:X.N[i]? =some n) (hl:X.env.scope.names.lookup n=some .local) (hk:X.N[k]? =some y) (hy:X.env.scope.names.lookup y=some .local) (hik:i ≠ k)
  (hg:Gl X c) (hm:X.mg c=some (.ref C)) (hok:∀c,ok c=true->exmOne X.K (Y.cl c) (.ref C)=some true)
  (hb:∀(E' :XK) (pn:List (Addr×Obj)) (xe:Value->Shared->Prop),ZQ (CX1 X.prog X.w) (X.try' pn xe) E' ->uF (X.try' pn xe) { Y with E:=E' } body fb)
  (hs:swapsWith (.Name n np) (some (.Name y yp)) apos.line X.env=pure false:=by rfl)
  (hdc:(c == ("__debug__":Str))=false:=by decide) (hdn:(n == ("__debug__":Str))=false:=by decide) (hcd:(n == ("__classdict__":Str))=false:=by decide):
  wH X Y (.Try body [.ExceptHandler (some (.Name c cp)) (some n) [.Assign [.Name y yp] (.Name n np) apos] hp] [] [] pos) (VL k ok fb):= .mk λρ=>by
 refine PS.imp (Vd (tb:=λE' =>tSS { Y with E:=E' } fb ρ) hX hf hN hi hl hk hy hg hm (λE' pn xe p=>hb E' pn xe p ρ) hs hdc hdn hcd) λD σ H ⟨B,I,q⟩=> ?_;refine⟨λcls _ H' =>zw Y.H0 H' /\zw B H' /\∃c,cls=Y.cl c/\ok c=true/\PoS Y B (.nx ((ag ρ.length Sl.un).set k (.xc c))) D,λcls d H' ea σ' ⟨s1,s2,c,e1,e2,q1⟩=> ?_,B,I.wish _, ?_⟩
 ·subst e1;refine⟨hok c e2,λhe hl' hX' => ?_⟩;have hkl:k < σ'.length:=by rw[hl',hX'];exact(az.mp hk).1
  have hlen:ρ.length=((((σ'.set i (some (V.ref ea))).set k (some (V.ref ea))).set i none):Sg).length:=by
   rw[bj,bj,bj,hl',I.len]
  obtain⟨B',b1,b2⟩:=SI.caught (c:=c) (σ:=((σ'.set i (some (V.ref ea))).set k (some (V.ref ea))).set i none) (k:=k) I.s0 I.old s1 s2 he hlen (by
   rw[aM hik,bg (by rw[bj];exact hkl)])
  exact q1 _ _ B' b1 b2
 ·unfold VL at q;cases e:fb ρ with
  | nx ρ' =>rw[e]at q;exact λσ' H' B' s' I' =>q σ' H' B' s' I'.unwish
  | rt t=>rw[e]at q;exact q
  | rf t=>rw[e]at q;exact q
  | bk ρ' =>rw[e]at q;exact λσ' H' B' s' I' =>q σ' H' B' s' I'.unwish
  | ct ρ' =>rw[e]at q;exact λσ' H' B' s' I' =>q σ' H' B' s' I'.unwish
  | bad=>rw[e]at q;exact q
  | ex c=>
   rw[e]at q;dsimp only at q;split at q
   ·rename_i hc;exact λd H' s1 s2=>⟨s1,s2,c,rfl,hc,q⟩
   ·exact q.elim
end PV
namespace PySem.W
open PySem PySem.Calls PyProof.Rows PySem.Spec Builtin Builtin.ObjectAttr Builtin.Getset_descriptor
section
variable {prog:Program}{w:World}{A:Around}{E:Value->Shared->Prop}{s:Shared}{K:Frag}{x C:Addr}
theorem Wp {tp:Value}{R:Result->Shared->Prop}(X:K.In s.heap)(L0:Looks (model prog w) s.heap (typeOf (.ref x)) (.ref C))(hm:mroIn K C (.type "object")=some true)
  (h:R (.ok (.ret (.ref C))) s):codeAny (model prog w) A (.call (.builtin "getset_descriptor.__get__") ⟨[.builtin "object.__class__",.ref x,tp],[]⟩) R s:=by
 obtain⟨hh,g,dr,t,os⟩:=s;have L1:=looks_mroIn (M:=model prog w) X hm;refine codeAny_call_builtin KF.slot_gs.plain KF.entry_gs (KF.slot_gs.check _ _ _ _ _ _ _ _ KF.type_class (KF.args_gs _ _ _) ?_);unfold Builtin.«getset_descriptor.__get__» descrGet;rw[dga_obj];refine aa (ak ?_);unfold descrGetter descrCheckInstance descrNameAndClass isInstance;simp only[KF.owner_class]
 repeat lk
 refine⟨hV _ (by decide+kernel),codeAny_builtin KF.entry_class ?_⟩
 unfold Builtin.«object.__class__» shownTypeOf
 repeat lk
 exact h
theorem VM {M:Model}{h:Heap}(X:K.In h)(ha:findIn K (.ref C) "__class__"=some (some (.builtin "object.__class__")))(hn:specialIn K (.builtin "object.__class__") "__get__"=some (some (.builtin "getset_descriptor.__get__")))
  (htk:takesIn K (.builtin "object.__class__")=some true):Looks M h (find (.ref x) (.ref C) "__class__") (.bind (.builtin "getset_descriptor.__get__") (.builtin "object.__class__")):=by
 have L1:=looks_findIn (M:=M) X ha;have L2:Looks M h (getOf (some (.builtin "object.__class__"))) (some (.builtin "getset_descriptor.__get__")):=looks_specialIn X hn;have L3:=looks_takesIn (M:=M) X htk;refine L1.andThen (L2.andThen ?_);exact(show Looks M h (dataDescriptor? (some (.builtin "object.__class__")) (some (.builtin "getset_descriptor.__get__"))) (some (.builtin "getset_descriptor.__get__",.builtin "object.__class__")) from L3.andThen .now).andThen (Looks.tag .now)
theorem Q0 {M:Model}{nameV:Value}{Q:Unit->Shared->Prop}(L0:Looks M s.heap (typeOf (.ref x)) (.ref C))(L1:Looks M s.heap (isSubtype (.ref C) (.type "BaseException")) true)(hq:Q () s):wpAny M A (checkBuiltinCall "BaseException.__getattribute__" ⟨[.ref x,nameV],[]⟩) Q E s:=by
 have hk:builtinKind "BaseException.__getattribute__"=some .slot:=by decide+kernel
 have hsplit:splitId "BaseException.__getattribute__"=some ("BaseException","__getattribute__"):=by decide+kernel
 have ha:=PySem.F.args_bexc_ga (.ref x) nameV;obtain⟨hh,g,d,t,os⟩:=s;simp only[checkBuiltinCall,hk,hsplit];refine aa ?_;unfold isInstance
 repeat (first | lk | wp_step)
 exact hq
end
end PySem.W
namespace PySem.W
open PySem PySem.Calls PyProof.Rows PySem.Spec Builtin Builtin.ObjectAttr Builtin.Getset_descriptor
section
variable {prog:Program}{w:World}{A:Around}{E:Value->Shared->Prop}{s:Shared}{K:Frag}{x C:Addr}
structure XCls (K:Frag) (C:Addr):Prop where
 ga:findIn K (.ref C) "__getattribute__"=some (some (.builtin "BaseException.__getattribute__"))
 gt:findIn K (.ref C) "__getattr__"=some none
 ca:findIn K (.ref C) "__class__"=some (some (.builtin "object.__class__"))
 sp:specialIn K (.builtin "object.__class__") "__get__"=some (some (.builtin "getset_descriptor.__get__"))
 tk:takesIn K (.builtin "object.__class__")=some true
 ob:mroIn K C (.type "object")=some true
 be:mroIn K C (.type "BaseException")=some true
 cl:(clsIn K C).isSome=true
theorem Q1 {tk:Tok}{Q:Fin->Shared->Prop}(X:K.In s.heap)(c:XCls K C)(L0:Looks (model prog w) s.heap (typeOf (.ref x)) (.ref C))(hq:Q (.done (.ret (.ref C))) s):
  wpAny (model prog w) A (Builtin.«object.__getattribute__» ⟨[.ref x,.str "__class__" tk],[]⟩) Q E s:=by
 obtain⟨hh,g,d,t,os⟩:=s;have L1:=VM (M:=model prog w) (x:=x) X c.ca c.sp c.tk;refine aa (ak (aa (ak (aa (L0.at (aa (L1.at ?_)))))));show wpAny _ _ (bindTo _ _ _ _) _ _ _;unfold bindTo;refine aa (wpAny_call (Wp X L0 c.ob ?_));exact ak hq
end
end PySem.W
namespace PySem.W
open PySem PySem.Calls PyProof.Rows PySem.Spec Builtin Builtin.ObjectAttr Builtin.Getset_descriptor
section
variable {prog:Program}{w:World}{A:Around}{E:Value->Shared->Prop}{s:Shared}{K:Frag}{x C:Addr}
theorem Q2 {Q:Option Value->Shared->Prop}(X:K.In s.heap)(c:XCls K C)(L0:Looks (model prog w) s.heap (typeOf (.ref x)) (.ref C))(h:Q (some (.ref C)) { s with toks:=s.toks+1 }):wpAny (model prog w) A (getAttr? (.ref x) "__class__") Q E s:=by
 obtain⟨hh,g,d,t,os⟩:=s;have L1:=looks_findIn (M:=model prog w) X c.ga;have L2:=looks_findIn (M:=model prog w) X c.gt;have L3:=looks_mroIn (M:=model prog w) X c.be;have fb:=f7.ga.bind (.ref x);unfold getAttr? getAttrBy? getAttrBy;refine aa (wpAny_mkText (aa (wpAny_attempt (b_ (aa (L0.at (aa (L1.at ?_))))))));dsimp only;have hx2:(Value.builtin "BaseException.__getattribute__" == Value.builtin "object.__getattribute__")=false:=by decide+kernel
 rw[if_neg (by rw[hx2];simp)]
 unfold getAttrByItsOwn hookBefore;refine aa ?_;rw[if_pos (by rfl)]
 refine L2.at ?_;refine aa (wpAny_attempt (b_ ?_));unfold callGetattribute;rw[if_neg (by simp)]
 unfold boundAndCalled;rw[fb];refine aa (ak ?_);refine wpAny_call (codeAny_call_builtin f7.ga.plain PySem.F.entry_bexc_ga (Q0 (s:=⟨hh,g,d,t+1,os⟩) L0 L3 (Q1 (s:=⟨hh,g,d,t+1,os⟩) X c L0 ?_)));exact handed_on rfl (ak h)
theorem VN (c:XCls K C):KitX K (.ref x) (.ref C) (λh=>∃o,h.get? x=some o/\o.cls= .ref C) where
 ty:=λM h _ ⟨o,h1,h2⟩=>h2 ▸ (Looks.ld h1).andThen .now
 it:=λ_ _ X _=>by
  obtain⟨cdD,hcD⟩:=cV.mp c.cl;unfold clsIn at hcD;split at hcD
  ·rename_i c' d' cd' sl' ho;intro A' Q' E' s' k q;unfold isType loadHead;exact aa (wpAny_loadPart (k _ _ (X _ _ ho)) (ak q))
  ·cases hcD
 ne:=λh tp dd its n sl X htp=>by
  obtain⟨cdD,hcD⟩:=cV.mp c.cl;refine bE.mpr λq=> ?_;have e:C=tp:=Value.ref.inj (beq_iff_eq.mp q);subst e;unfold clsIn at hcD;split at hcD
  ·rename_i c' d' cd' sl' ho;have z:=(X _ _ ho).symm.trans htp;cases z
  ·cases hcD
 ca:=λ{prog w A E Q s} X ⟨o,h1,h2⟩ k=>Q2 X c (h2 ▸ (Looks.ld h1).andThen .now) k
end
end PySem.W
namespace PV
open PySem PySem.Spec PyProof.Rows L2 PySem.W
section
variable {X:Cx}{Y:Fx}{a b:Expr}{fa fb:En->R T}{pos pos' p p' :Pos}
def JF (i:Nat)(ok tab:Nat->Bool):En->R T:=λρ=>match ρ[i]? with
 | some (.xc c)=>if ok c=true then .ok (.bl (tab c)) else .bad
 | _=> .bad
theorem Wq:ZB X (.builtin "isinstance") (λxs H Q=>∃a C v b,xs=[.ref a,v]/\H a=some (.ext (u0 (.ref C) a))/\XCls X.K C/\(∀u,RelV v u->kitOne X.K (.ref C) u=some b)/\Q (.bl b) H):=by
 intro pins s σ H xs us Q I rv h;obtain⟨a,C,v,b,rfl,e,c,hk,q⟩:=h;obtain⟨u,w,rfl,ru,rw'⟩:=Ug rv;obtain rfl:u=Value.ref a:=ru;obtain⟨hx,_,_⟩:=(show Zl X.prog X.w H s.heap a (.ext (u0 (.ref C) a)) from I.hok a _ e);exact kia_one (VN c) I.kIn hx (hk w rw') (λz=>nomatch z) λtk=>⟨.bl _,H,I.tok tk,rfl,q⟩
structure XK1 (K:Frag) (cl:Nat->Value) (ok:Nat->Bool):Prop where
 at_:∀c,ok c=true->∃C,cl c= .ref C/\XCls K C
theorem jR {i:Nat}{ok tab:Nat->Bool}{y cn:Str}{C:Addr}{yp cp:Pos}(hK:XK1 X.K Y.cl ok)(ht:∀c,ok c=true->kitOne X.K (Y.cl c) (.ref C)=some (tab c))(gl:Gl X "isinstance")(mg:X.mg "isinstance"=none)(hv:PE X (.Name y yp) (UN i))(gl' :Gl X cn)(mg' :X.mg cn=some (.ref C))
  (hd:(cn == ("__debug__":Str))=false:=by decide):Snd X Y (.Call (.Name "isinstance" p) [.Name y yp,.Name cn cp] [] pos) (JF i ok tab):= .mk λρ=>
 PE.imp (ZR Wq gl mg PyProof.Rows.Boot.«isinstance» (zu hv (zu (JA (v:= .ref C) gl' mg' rfl hd) Za (st1 rfl)) (st2 rfl rfl)) (by decide) (by decide) (by rw[st2 rfl rfl,st1 rfl]) (Zy rfl)) λσ H Q ⟨B,I,q⟩=>by
  unfold JF at q;split at q
  ·rename_i c e;split at q
   ·rename_i hc;obtain⟨a,e1,r⟩:=I.xc i c e;obtain⟨Cc,e2,xc⟩:=hK.at_ c hc;have ht' :=ht c hc;rw[e2]at r ht';exact⟨_,e1,a,Cc,_,_,rfl,I.sB a _ r,xc,λu ru=>by obtain rfl:u=Value.ref C:=ru;exact ht',ZP I q (.bl _)⟩
   ·exact q.elim
  ·exact q.elim
theorem VO {i:Nat}{ok tab:Nat->Bool}{y:Str}{n:String}{yp cp:Pos}(hK:XK1 X.K Y.cl ok)(ht:∀c,ok c=true->kitOne X.K (Y.cl c) (.type n)=some (tab c))(gl:Gl X "isinstance")(mg:X.mg "isinstance"=none)(hv:PE X (.Name y yp) (UN i))(gl' :Gl X (aO n))(mg' :X.mg (aO n)=none)
  (bt:bootBuiltins (aO n)=some (.type n)) (hn:aO n ≠ "__name__":=by decide) (hd:(aO n == ("__debug__":Str))=false:=by decide):Snd X Y (.Call (.Name "isinstance" p) [.Name y yp,.Name (aO n) cp] [] pos) (JF i ok tab):= .mk λρ=>
 PE.imp (ZR Wq gl mg PyProof.Rows.Boot.«isinstance» (zu hv (zu (UO (v:= .ty n) gl' mg' bt rfl hn hd) Za (st1 rfl)) (st2 rfl rfl)) (by decide) (by decide) (by rw[st2 rfl rfl,st1 rfl]) (Zy rfl)) λσ H Q ⟨B,I,q⟩=>by
  unfold JF at q;split at q
  ·rename_i c e;split at q
   ·rename_i hc;obtain⟨a,e1,r⟩:=I.xc i c e;obtain⟨Cc,e2,xc⟩:=hK.at_ c hc;have ht' :=ht c hc;rw[e2]at r ht';exact⟨_,e1,a,Cc,_,_,rfl,I.sB a _ r,xc,λu ru=>by obtain rfl:u=Value.type n:=ru;exact ht',ZP I q (.bl _)⟩
   ·exact q.elim
  ·exact q.elim
def kC (i:Nat):En->R Bool:=λρ=>match ρ[i]? with
 | some (.xc _)=> .ok false
 | some (.vl t)=>Jl t .non
 | _=> .bad
theorem kD:OpR X (compareOp .Is) (λx y H Q=>y= .non/\((∃a,x= .ref a/\Q (.bl false) H)\/∃t b,Rep H x t/\Jl t .non= .ok b/\Q (.bl b) H)):=by
 intro pins s σ H x y v u Q I rx ry h;obtain⟨rfl,h⟩:=h;rcases h with ⟨a,rfl,q⟩ | ⟨t,b,r,e,q⟩
 ·obtain rfl:u=Value.none:=ry;obtain rfl:v=Value.ref a:=rx;exact wpAny_is_plain rfl ⟨.bl false,H,I,rfl,q⟩
 ·exact vc pins s σ H x .non v u Q I rx ry ⟨t,.non,b,r,.non,e,q⟩
theorem kE {i:Nat}{y:Str}{yp:Pos}{j:Nat}(hv:PE X (.Name y yp) (UN i)):Wj X Y (.Compare (.Name y yp) [.Is] [.Constant .none j p'] pos) (kC i):= .mk λρ=>
 PT.imp (UW kD hv QT (by rfl)) λσ H Q ⟨B,I,q⟩=>by
  unfold kC at q;split at q
  ·rename_i c e;obtain⟨a,e1,r⟩:=I.xc i c e;exact⟨_,e1,rfl,.inl ⟨a,rfl,false,rfl,ZP I q rfl⟩⟩
  ·rename_i t e;obtain⟨v,e1,r⟩:=I.vl i t e;refine⟨v,e1,rfl,.inr ?_⟩;cases ek:Jl t .non with
   | bad=>rw[ek]at q;exact q.elim
   | ex c=>exact absurd ek (qO _ _ _)
   | ok b=>rw[ek]at q;exact⟨t,b,r.mono I.sB,ek,b,rfl,ZP I q rfl⟩
  ·exact q.elim
def spC (cl:Nat->Value)(gx:Nat->R T):Sp:=λvs H Q E=>∃B a c,vs=[V.ref a]/\zw B H/\B a=some (.ext (u0 (cl c) a))/\Po ⟨B,H,E,cl⟩ rC B H (gx c) Q
def VP (i:Nat)(gx:Nat->R T):En->R T:=λρ=>match ρ[i]? with
 | some (.xc c)=>gx c
 | _=> .bad
theorem VQ {cl:Nat->Value}{k j i:Nat}{f:Addr}{fd:FuncData}{q:Str}{gx:Nat->R T}{x y:Str}{yp:Pos}(hy:Y.cl=cl)(F:Zh X.prog X.w X.K X.mg X.base CX0 j f fd [q] (spC cl gx))(hr:jv k X.A)(hj:j<=k)(gl:Gl X x)
  (mg:X.mg x=some (.ref f)) (kp:bL X.K (.ref f)=true) (bd:L2.Binds X.K fd [q] []) (hv:PE X (.Name y yp) (UN i)) (hd:(x == ("__debug__":Str))=false:=by decide):Snd X Y (.Call (.Name x p) [.Name y yp] [] pos) (VP i gx):= .mk λρ=>
 PE.imp (y8 F (hr.mono hj) gl mg kp bd .nil (kA (E:=Y.E)) (zu hv Za (st1 rfl)) hd (st1 rfl) rfl) λσ H Q ⟨B,I,q⟩=>by
  subst hy;unfold VP at q;split at q
  ·rename_i c e;obtain⟨a,e1,r⟩:=I.xc i c e;refine⟨_,e1,B,a,c,rfl,I.sB,r, ?_⟩;revert q;cases gx c with
   | bad=>exact λq=>q
   | ex c=>exact λq d H' s sB=>q d H' (I.sH.trans s) sB
   | ok t=>exact λq=>q
  ·exact q.elim
end
section
variable {P:Program}{w:World}{K:ai}{mg:Str->Option Value}{base:Heap}
def enC (n c:Nat):En:= .xc c :: ag (n - 1) .un
theorem SI.startC {Y:Fx}{N:List Str}{a:Addr}{c:Nat}(s:zw Y.B0 Y.H0)(hN:1<=N.length)(r:Y.B0 a=some (.ext (u0 (Y.cl c) a))):SI Y Y.B0 (enC N.length c) (L2.start N [V.ref a]) Y.H0 where
 s0:=s
 sH:=zw.refl _
 sB:=s
 old:=λ_ _ _=>rfl
 len:=by unfold enC L2.start;simp
 vl:=λi t h=>by
  unfold enC at h;cases i with
  | zero=>cases h
  | succ i=>rw[dk,aF]at h;split at h <;> cases h
 ow:=λi t h=>by
  unfold enC at h;cases i with
  | zero=>cases h
  | succ i=>rw[dk,aF]at h;split at h <;> cases h
 xc:=λi d h=>by
  unfold enC at h;cases i with
  | zero=>
   cases h;exact⟨a,by unfold L2.start;rfl,r⟩
  | succ i=>rw[dk,aF]at h;split at h <;> cases h
theorem kF {cl:Nat->Value}{x qual q:Str}{st:Stmt}{f:Addr}{fd:FuncData}{N:List Str}{k:Nat}{fb:En->RS}{gx:Nat->R T}(F:Fun K x qual st f fd)(S:zh N [q] (zd st))(hN:1<=N.length)
  (hb:∀(cdv:Value) (A:Around) (outer:List Env) (s:Shared) (H:Hp) (E:XK) (Y:Fx),Y.cl=cl->jv k (A.deeper (envOfC qual (zd st) s.heap.objs.size f cdv))->
   uF (w4 CX0 P w K mg base N qual (zd st) f cdv A outer s H E).nox Y (Zw st) fb)
  (hg:∀c,gx c=zg (fb (enC N.length c))):Zh P w K mg base CX0 (k+1) f fd [q] (spC cl gx):=by
 refine F.ok S (λvs H Q E ⟨_,_,_,e,_⟩=>by rw[e];rfl) λcdv A outer s H vs Q E hr ⟨B,a,c,e,sB,r,q⟩=> ?_
 subst e;refine⟨_,hb cdv A outer s H E ⟨B,H,E,cl⟩ rfl hr (enC N.length c),B,SI.startC (Y:=⟨B,H,E,cl⟩) sB hN r, ?_⟩;rw[hg c]at q;revert q;cases fb (enC N.length c) with
 | rt t=>exact λq v H' s r=>q v H' s r
 | rf t=>exact λq a xs H' B' s0 n e r _ l=>q (.ref a) H' s0 (.lst (by rw[Zc n];exact e) (r.mono l))
 | nx ρ=>exact λq σ' H' B' _ I=>q .non H' I.sH .non
 | ex c=>exact λq=>q
 | bk ρ=>exact λq=>q.elim
 | ct ρ=>exact λq=>q.elim
 | bad=>exact λq=>q
end
end PV
namespace PySem.ZG
open PySem PySem.Spec PySem.Builtin.SmallTypes
structure u6 (i:Addr) (fp:List Addr) (v:Nat->Option Value) (St:Nat->Heap->Prop):Prop where
 mem:i∈fp
 item:∀{prog:Program} {w:World} {A:Around} {E:Value->Shared->Prop} {s:Shared} {Q:Value->Shared->Prop} {k:Nat} {x:Value},St k s.heap->v k=some x->(∀h',St (k+1) h' ->cP i s.heap h' ->Q x { s with heap:=h' })->wpAny (model prog w) A (nextOf (.ref i)) Q E s
 stop:∀{prog:Program} {w:World} {A:Around} {E:Value->Shared->Prop} {s:Shared} {Q:Value->Shared->Prop} {k:Nat},A.handled=none->St k s.heap->v k=none->(∀h' e,iA i s.heap h' ->(∃o,h'.get? e=some o/\o.cls= .type "StopIteration")->E (.ref e) { s with heap:=h' })->wpAny (model prog w) A (nextOf (.ref i)) Q E s
 keep:∀{k:Nat} {h h' :Heap},St k h->(∀b∈fp,∀o,h.get? b=some o->h'.get? b=some o)->St k h'
 there:∀{k:Nat} {h:Heap},St k h->∀b∈fp,∃o,h.get? b=some o
theorem u6.but {i:Addr}{fp:List Addr}{v:Nat->Option Value}{St:Nat->Heap->Prop}(N:u6 i fp v St){k:Nat}{h h' :Heap}{b:Addr}(x:St k h)(e:iA b h h')(n:b ∉ fp):St k h' :=
 N.keep x λc hc o q=>e c o (λz=>n (z ▸ hc)) q
theorem VR {i l:Addr}(hil:l ≠ i)(xs:Array Value):u6 i [i,l] (λk=>xs[k]?) (λk h=>h.IsListIter i l k/\h.IsList l xs) where
 mem:= .head _
 item:=λst hx h=>wpAny_nextOf_list_item st.1 st.2 hx λh' a b=>h h' ⟨a,st.2.extBut b.extBut hil⟩ b
 stop:=λhh st hx h=>wpAny_nextOf_list_end hh st.1 st.2 hx h
 keep:=λst k=>⟨st.1.at λo e=>k i (.head _) o e,st.2.at λo e=>k l (.tail _ (.head _)) o e⟩
 there:=λst b hb=>by
  obtain⟨⟨o,e,_⟩,o2,e2,_⟩:=st;rcases ax.mp hb with z | hb
  ·exact⟨o,z ▸ e⟩
  ·exact⟨o2,(aT.mp hb) ▸ e2⟩
end PySem.ZG
namespace PySem.ZG
open PySem PySem.Spec PySem.Builtin.SmallTypes
section
variable {prog:Program}{w:World}{A:Around}{E:Value->Shared->Prop}{s:Shared}{it l:Addr}{k:Nat}{xs:Array Value}{Q:Value->Shared->Prop}
theorem uL (hit:s.heap.IsTupleIter it l k)(h:wpAny (model prog w) A.in1 (Builtin.«tuple_iterator.__next__» ⟨[.ref it],[]⟩) (λfin s' =>∃v,fin= .done (.ret v)/\Q v s') E s):wpAny (model prog w) A (nextOf (.ref it)) Q E s:=by
 unfold nextOf;exact aa (bI (name:=aO "__next__") hit.typeIs dz (c7 dz hit.typeIs PySem.F.entry_tuple_iterator_next
  (bQ h (λfin s' ⟨v,e,q⟩=>⟨v,e,ak q⟩) λ_ _ z=>z) (PySem.F.args_tuple_iterator_next_1 _)))
theorem Q3 (hit:s.heap.IsTupleIter it l k)(ht:s.heap.IsTuple l xs){x:Value}(hx:xs[k]? =some x)(h:∀h',h'.IsTupleIter it l (k+1)->cP it s.heap h' ->Q x { s with heap:=h' }):wpAny (model prog w) A (nextOf (.ref it)) Q E s:=by
 refine uL hit ?_;obtain⟨o,ho,hc,hd⟩:=id hit;obtain⟨ol,hol,_,nl,hdl⟩:=ht;refine aa (m:=field (.ref it) 0) (bp ho hd (x:= .ref l) rfl ?_);rw[if_neg (show ¬((Value.ref l == Value.none)=true) by exact ao)]
 refine aa (m:=field (.ref it) 1) (bp ho hd (x:= .int k 0) rfl (aa (m:=seqItems? (.ref l)) (cb hol hdl ?_)));simp only[aV,hx];have g:=Heap.get?_update_self (Obj.mapFields (·.setIfInBounds 1 (rawInt (k+1:Nat)))) ho (Obj.isFreed_of_fields (hW hd _));refine aa (wpAny_setField ho hd (by simp) (ak ⟨x,rfl,h _ ⟨_,g,(Obj.cls_mapFields ..).trans hc, ?_⟩ (fR ..)⟩))
 rw[hW hd];simp[rawInt]
theorem Q4 (hh:A.handled=none)(hit:s.heap.IsTupleIter it l k)(ht:s.heap.IsTuple l xs)(hx:xs[k]? =none)
  (h:∀h' e,iA it s.heap h' ->(∃o,h'.get? e=some o/\o.cls= .type "StopIteration")->E (.ref e) { s with heap:=h' }):wpAny (model prog w) A (nextOf (.ref it)) Q E s:=by
 refine uL hit ?_;obtain⟨o,ho,hc,hd⟩:=id hit;obtain⟨ol,hol,_,nl,hdl⟩:=ht;refine aa (m:=field (.ref it) 0) (bp ho hd (x:= .ref l) rfl ?_);rw[if_neg (show ¬((Value.ref l == Value.none)=true) by exact ao)]
 refine aa (m:=field (.ref it) 1) (bp ho hd (x:= .int k 0) rfl (aa (m:=seqItems? (.ref l)) (cb hol hdl ?_)));simp only[aV,hx];refine aa (wpAny_rule (aa (wpAny_setField ho hd (by simp) (aa (m:=newExc (.type "StopIteration") []) ?_))))
 simp only[newExc,newTuple];refine aa (aZ (aa (m:=firstArgMember _ _) (wpAny_of_eq (a:=Value.none) (by first | rfl | (simp only[firstArgMember];rfl)) (aZ ?_ (by size_fits)))) (by size_fits))
 simp only[raiseNew];refine aa (wpAny_handled ?_);rw[show A.in1.handled=none from hh];exact aa (ak (wpAny_throw (h _ _ (((fR ..).extBut.push _).push _) ⟨_,ay _ rfl,rfl⟩)))
end
theorem kG {i l:Addr}(hil:l ≠ i)(xs:Array Value):u6 i [i,l] (λk=>xs[k]?) (λk h=>h.IsTupleIter i l k/\h.IsTuple l xs) where
 mem:= .head _
 item:=λst hx h=>Q3 st.1 st.2 hx λh' a b=>h h' ⟨a,st.2.extBut b.extBut hil⟩ b
 stop:=λhh st hx h=>Q4 hh st.1 st.2 hx h
 keep:=λst k=>by
  obtain⟨⟨o,e,r⟩,o2,e2,r2⟩:=st;exact⟨⟨o,k i (.head _) o e,r⟩,o2,k l (.tail _ (.head _)) o2 e2,r2⟩
 there:=λst b hb=>by
  obtain⟨⟨o,e,_⟩,o2,e2,_⟩:=st;rcases ax.mp hb with z | hb
  ·exact⟨o,z ▸ e⟩
  ·exact⟨o2,(aT.mp hb) ▸ e2⟩
end PySem.ZG
namespace PySem.ZG
open PySem PySem.Spec PySem.Builtin.SmallTypes
structure Ap (z TI TO i1 i2:Addr) (fp1 fp2:List Addr):Prop where
 Iz:TI ≠ z
 Oz:TO ≠ z
 IO:TI ≠ TO
 I1:TI ≠ i1
 I2:TI ≠ i2
 z1:z ∉ fp1
 z2:z ∉ fp2
 O1:TO ∉ fp1
 O2:TO ∉ fp2
 a:i1 ∉ fp2
 b:i2 ∉ fp1
section
variable {prog:Program}{w:World}{A:Around}{E:Value->Shared->Prop}{s:Shared}{z TI TO i1 i2:Addr}{fp1 fp2:List Addr}{v1 v2:Nat->Option Value}{S1 S2:Nat->Heap->Prop}{k:Nat}{x y a b:Value}
theorem Ap.ne1 (D:Ap z TI TO i1 i2 fp1 fp2)(N1:u6 i1 fp1 v1 S1):i1 ≠ z/\i1 ≠ TO:=⟨λe=>D.z1 (e ▸ N1.mem),λe=>D.O1 (e ▸ N1.mem)⟩
theorem Ap.ne2 (D:Ap z TI TO i1 i2 fp1 fp2)(N2:u6 i2 fp2 v2 S2):i2 ≠ z/\i2 ≠ TO:=⟨λe=>D.z2 (e ▸ N2.mem),λe=>D.O2 (e ▸ N2.mem)⟩
theorem VS {Q:Value->Shared->Prop}(N1:u6 i1 fp1 v1 S1)(N2:u6 i2 fp2 v2 S2)(D:Ap z TI TO i1 i2 fp1 fp2)(hz:IsZip s.heap z TI TO .none)(hTI:IsPair s.heap TI (.ref i1) (.ref i2))(hTO:IsPair s.heap TO a b)(p1:S1 k s.heap)(p2:S2 k s.heap)(hx:v1 k=some x)(hy:v2 k=some y)
  (hQ:∀h',IsZip h' z TI TO (rawInt s.heap.objs.size)->IsPair h' TO x y->S1 (k+1) h' ->S2 (k+1) h' ->IsPair h' s.heap.objs.size x y->
   (∀c o,c ≠ z->c ≠ TO->c ≠ i1->c ≠ i2->s.heap.get? c=some o->h'.get? c=some o)->Q (.ref s.heap.objs.size) { s with heap:=h' }):
  wpAny (model prog w) A (Builtin.«zip.__next__» ⟨[.ref z],[]⟩) (λfin s' =>∃v,fin= .done (.ret v)/\Q v s') E s:=by
 refine aa (m:=field (.ref z) 2) (bp hz rfl (x:= .bool false) rfl (aa (m:=field (.ref z) 3) (bp hz rfl (x:= .ref TI) rfl (aa (cb hTI rfl ?_)))));refine aa (m:=ownedTupleIsFree (.ref z)) ?_;unfold ownedTupleIsFree;refine aa (bp hz rfl (x:= .none) rfl (ak ?_));simp only[if_true];refine aa (wpAny_rule (aa (bp hz rfl (x:= .ref TO) rfl (aa (cc hz (by simp) λg1 z1 e1=> ?_)))))
 replace z1:IsZip g1 z TI TO .ellipsis:=z1
 refine aa ?_;simp only[iq,iH,dJ,List.forIn_nil];refine aa (aa (wpAny_onRaise (aa (m:=nextOf (.ref i1)) (N1.item (N1.but p1 e1.extBut D.z1) hx λg2 q1 e2=>ak ?_))));have t2:IsPair g2 TO a b:=e2.extBut _ _ (D.ne1 N1).2.symm (e1.extBut _ _ D.Oz hTO);refine aa (cb t2 rfl (aa (wpAny_updateSeq_pair t2 λg3 t3 e3=> ?_)))
 replace t3:IsPair g3 TO x b:=t3
 refine aa (wpAny_letGo (ak ?_));refine aa (aa (wpAny_onRaise (aa (m:=nextOf (.ref i2)) (N2.item (N2.but (N2.but (N2.but p2 e1.extBut D.z2) e2.extBut D.a) e3.extBut D.O2) hy λg4 q2 e4=>ak ?_))));have t4:IsPair g4 TO x b:=e4.extBut _ _ (D.ne2 N2).2.symm t3;refine aa (cb t4 rfl (aa (wpAny_updateSeq_pair t4 λg5 t5 e5=> ?_)))
 replace t5:IsPair g5 TO x y:=t5
 refine aa (wpAny_letGo (ak (ak ?_)));refine aa (cb t5 rfl (aa (wpAny_newTuple ?_)));have sz:g5.objs.size=s.heap.objs.size:=by rw[e5.1,e4.1,e3.1,e2.1,e1.1]
 have z5:IsZip g5 z TI TO .ellipsis:=e5.extBut _ _ D.Oz.symm (e4.extBut _ _ (D.ne2 N2).1.symm (e3.extBut _ _ D.Oz.symm (e2.extBut _ _ (D.ne1 N1).1.symm z1)));have k5:∀c o,c ≠ z->c ≠ TO->c ≠ i1->c ≠ i2->s.heap.get? c=some o->g5.get? c=some o:=λc o c1 c2 c3 c4 e=>
  e5.extBut _ _ c2 (e4.extBut _ _ c4 (e3.extBut _ _ c2 (e2.extBut _ _ c3 (e1.extBut _ _ c1 e))))
 have r1:S1 (k+1) g5:=N1.but (N1.but (N1.but q1 e3.extBut D.O1) e4.extBut D.b) e5.extBut D.O1;have r2:S2 (k+1) g5:=N2.but q2 e5.extBut D.O2;refine aa (m:=ownedTupleHandOut (.ref z) (.ref g5.objs.size)) ?_;unfold ownedTupleHandOut;have z6:IsZip (g5.push { cls:= .type "tuple",data:= .seq #[x,y] }) z TI TO .ellipsis:=aj _ z5;refine aa (cc z6 (by simp) λg7 z7 e7=> ?_)
 replace z7:IsZip g7 z TI TO (rawInt g5.objs.size):=z7
 refine cc z7 (by simp) λg8 z8 e8=> ?_
 replace z8:IsZip g8 z TI TO (rawInt g5.objs.size):=z8
 have up:∀c o,c ≠ z->g5.get? c=some o->g8.get? c=some o:=λc o c1 e=>e8.extBut _ _ c1 (e7.extBut _ _ c1 (aj _ e));have hn:g5.objs.size ≠ z:=fo (ar z5);have t8:IsPair g8 g5.objs.size x y:=e8.extBut _ _ hn (e7.extBut _ _ hn (ay _ rfl));rw[sz]at z8 t8;refine ak ⟨_,rfl, ?_⟩;show Q (.ref g5.objs.size) _;rw[sz];exact hQ g8 z8 (up _ _ D.Oz t5) (N1.keep r1 λc hc o e=>up c o (λq=>D.z1 (q ▸ hc)) e) (N2.keep r2 λc hc o e=>up c o (λq=>D.z2 (q ▸ hc)) e) t8 λc o c1 c2 c3 c4 e=>up c o c1 (k5 c o c1 c2 c3 c4 e)
theorem VT {Q:Fin->Shared->Prop}(hh:A.handled=none)(N1:u6 i1 fp1 v1 S1)(N2:u6 i2 fp2 v2 S2)(D:Ap z TI TO i1 i2 fp1 fp2)(hz:IsZip s.heap z TI TO .none)(hTI:IsPair s.heap TI (.ref i1) (.ref i2))(hTO:IsPair s.heap TO a b)(p1:S1 k s.heap)(p2:S2 k s.heap)(hend:v1 k=none\/v2 k=none)
  (hE:∀h' e,(∀c o,c ≠ z->c ≠ TO->c ≠ i1->c ≠ i2->s.heap.get? c=some o->h'.get? c=some o)->(∃o,h'.get? e=some o/\o.cls= .type "StopIteration")->E (.ref e) { s with heap:=h' }):
  wpAny (model prog w) A (Builtin.«zip.__next__» ⟨[.ref z],[]⟩) Q E s:=by
 refine aa (m:=field (.ref z) 2) (bp hz rfl (x:= .bool false) rfl (aa (m:=field (.ref z) 3) (bp hz rfl (x:= .ref TI) rfl (aa (cb hTI rfl ?_)))));refine aa (m:=ownedTupleIsFree (.ref z)) ?_;unfold ownedTupleIsFree;refine aa (bp hz rfl (x:= .none) rfl (ak ?_));simp only[if_true];refine aa (wpAny_rule (aa (bp hz rfl (x:= .ref TO) rfl (aa (cc hz (by simp) λg1 z1 e1=> ?_)))))
 replace z1:IsZip g1 z TI TO .ellipsis:=z1
 refine aa ?_;simp only[iq,iH,dJ,List.forIn_nil];have off:∀{g:Heap} {e:Addr} {oe:Obj},IsZip g z TI TO .ellipsis->g.get? e=some oe->oe.cls= .type "StopIteration"->e ≠ z:=λhg he hc q=>by
  subst q;rw[hg]at he;cases he;simp at hc
 cases hx:v1 k with
 | none=>
  refine aa (aa (wpAny_onRaise (aa (m:=nextOf (.ref i1)) (N1.stop hh (N1.but p1 e1.extBut D.z1) hx λg2 e e2 he=> ?_))));obtain⟨oe,ho,hc⟩:=he;have z2:IsZip g2 z TI TO .ellipsis:=e2 _ _ (D.ne1 N1).1.symm z1;exact cc z2 (by simp) λg3 _ e3=>hE g3 e (λc o c1 _ c3 _ q=>e3.extBut _ _ c1 (e2 _ _ c3 (e1.extBut _ _ c1 q))) ⟨oe,e3.extBut _ _ (off z2 ho hc) ho,hc⟩
 | some x=>
  have hy:v2 k=none:=by
   rcases hend with q | q
   ·rw[hx]at q;cases q
   ·exact q
  refine aa (aa (wpAny_onRaise (aa (m:=nextOf (.ref i1)) (N1.item (N1.but p1 e1.extBut D.z1) hx λg2 q1 e2=>ak ?_))));have t2:IsPair g2 TO a b:=e2.extBut _ _ (D.ne1 N1).2.symm (e1.extBut _ _ D.Oz hTO);refine aa (cb t2 rfl (aa (wpAny_updateSeq_pair t2 λg3 t3 e3=>aa (wpAny_letGo (ak ?_)))));refine aa (aa (wpAny_onRaise (aa (m:=nextOf (.ref i2)) (N2.stop hh (N2.but (N2.but (N2.but p2 e1.extBut D.z2) e2.extBut D.a) e3.extBut D.O2) hy λg4 e e4 he=> ?_))));obtain⟨oe,ho,hc⟩:=he;have z4:IsZip g4 z TI TO .ellipsis:=e4 _ _ (D.ne2 N2).1.symm (e3.extBut _ _ D.Oz.symm (e2.extBut _ _ (D.ne1 N1).1.symm z1));exact cc z4 (by simp) λg5 _ e5=>hE g5 e (λc o c1 c2 c3 c4 q=>e5.extBut _ _ c1 (e4 _ _ c4 (e3.extBut _ _ c2 (e2.extBut _ _ c3 (e1.extBut _ _ c1 q))))) ⟨oe,e5.extBut _ _ (off z4 ho hc) ho,hc⟩
theorem VU {Q:Option Value->Shared->Prop}(N1:u6 i1 fp1 v1 S1)(N2:u6 i2 fp2 v2 S2)(D:Ap z TI TO i1 i2 fp1 fp2)(hz:IsZip s.heap z TI TO .none)(hTI:IsPair s.heap TI (.ref i1) (.ref i2))(hTO:IsPair s.heap TO a b)(p1:S1 k s.heap)(p2:S2 k s.heap)(hx:v1 k=some x)(hy:v2 k=some y)
  (hQ:∀h',IsZip h' z TI TO (rawInt s.heap.objs.size)->IsPair h' TO x y->S1 (k+1) h' ->S2 (k+1) h' ->IsPair h' s.heap.objs.size x y->
   (∀c o,c ≠ z->c ≠ TO->c ≠ i1->c ≠ i2->s.heap.get? c=some o->h'.get? c=some o)->Q (some (.ref s.heap.objs.size)) { s with heap:=h' }):wpAny (model prog w) A (pyNext (.ref z)) Q E s:=by
 have ty:s.TypeIs (.ref z) "zip":=⟨_,hz,rfl⟩;unfold pyNext;exact aa (wpAny_attempt (bI (name:=aO "__next__") ty cJ (c7 cJ ty fx
  (VS N1 N2 D hz hTI hTO p1 p2 hx hy λh' a1 a2 a3 a4 a5 a6=>ak (hQ h' a1 a2 a3 a4 a5 a6)) (f8 _))))
theorem VV {Q:Option Value->Shared->Prop}(hh:A.handled=none)(N1:u6 i1 fp1 v1 S1)(N2:u6 i2 fp2 v2 S2)(D:Ap z TI TO i1 i2 fp1 fp2)(hz:IsZip s.heap z TI TO .none)(hTI:IsPair s.heap TI (.ref i1) (.ref i2))(hTO:IsPair s.heap TO a b)(p1:S1 k s.heap)(p2:S2 k s.heap)(hend:v1 k=none\/v2 k=none)
  (hQ:∀h',(∀c o,c ≠ z->c ≠ TO->c ≠ i1->c ≠ i2->s.heap.get? c=some o->h'.get? c=some o)->Q none { s with heap:=h' }):wpAny (model prog w) A (pyNext (.ref z)) Q E s:=by
 have ty:s.TypeIs (.ref z) "zip":=⟨_,hz,rfl⟩;unfold pyNext;refine aa (wpAny_attempt (bI (name:=aO "__next__") ty cJ (c7 cJ ty fx
  (VT hh N1 N2 D hz hTI hTO p1 p2 hend λh' e kp he=> ?_) (f8 _))))
 obtain⟨o,ho,hc⟩:=he;exact aa (wpAny_isInstance (T:="StopIteration") (b:=true) ⟨o,ho,hc⟩ isSubtype_stop (ak (hQ _ kp)))
end
end PySem.ZG
namespace PySem.ZG
open PySem PySem.Spec PySem.Builtin.SmallTypes
structure VW (l:Addr) (o:Obj) (P:Heap->Prop):Prop where
 go:∀{prog:Program} {w:World} {A:Around} {E:Value->Shared->Prop} {s:Shared} {Q:Value->Shared->Prop},P s.heap->Q (.ref s.heap.objs.size) { s with heap:=s.heap.push o }->wpAny (model prog w) A (pyIter (.ref l)) Q E s
 push:∀{h:Heap} (o' :Obj),P h->P (h.push o')
 fresh:o.isFreed=false
abbrev oL (l:Addr):Obj:={ cls:= .type "list_iterator",data:= .fields #[.ref l,.int 0 0] }
abbrev oT (l:Addr):Obj:={ cls:= .type "tuple_iterator",data:= .fields #[.ref l,.int 0 0] }
theorem VX (l:Addr)(xs:Array Value):VW l (oL l) (λh=>h.IsList l xs):=⟨λp q=>wpAny_pyIter_list p q,λo p=>Heap.IsList.push p o,rfl⟩
theorem kH (l:Addr)(xs:Array Value):VW l (oT l) (λh=>h.IsTuple l xs):=⟨λp q=>wpAny_pyIter_tuple p q,λo p=>Heap.IsTuple.push p o,rfl⟩
abbrev zh2 (h:Heap)(o1 o2:Obj):Heap:=(h.push o1).push o2
abbrev zh3 (h:Heap)(o1 o2:Obj):Heap:=(zh2 h o1 o2).push { cls:= .type "tuple",data:= .seq #[.ref h.objs.size,.ref (h.push o1).objs.size] }
abbrev zh4 (h:Heap)(o1 o2:Obj):Heap:=(zh3 h o1 o2).push { cls:= .type "tuple",data:= .seq #[.none,.none] }
abbrev zh5 (h:Heap)(o1 o2:Obj):Heap:=(zh4 h o1 o2).push { cls:= .type "zip",data:= .fields #[.none,.bool false,.bool false,.ref (zh2 h o1 o2).objs.size,.ref (zh3 h o1 o2).objs.size] }
theorem kI {l1 l2:Addr}{o1 o2:Obj}{P1 P2:Heap->Prop}(J1:VW l1 o1 P1)(J2:VW l2 o2 P2):
  Meets (Builtin.«zip.__new__» ⟨[.type "zip",.ref l1,.ref l2],[]⟩) (λ_ R s=>P1 s.heap/\P2 s.heap/\R (.ok (.ret (.ref (zh4 s.heap o1 o2).objs.size))) { s with heap:=zh5 s.heap o1 o2 }):=
 .of_wp λprog w A R s h=>by
  obtain⟨hp,g,d,tk,os⟩:=s;obtain⟨q1,q2,h⟩:=h;have hsub:=sub_zip;have c1:P1 (Shared.heap ⟨hp,g,d,tk,os⟩):=q1;have c2:P2 (Shared.heap ⟨hp.push o1,g,d,tk,os⟩):=J2.push o1 q2
  wp_walk using J1.go c1,J2.go c2
  exact⟨_,rfl,h⟩
end PySem.ZG
namespace PySem.ZG
open PySem PySem.Spec PySem.Builtin.SmallTypes
theorem VY {prog:Program}{w:World}{A:Around}{E:Value->Shared->Prop}{s:Shared}{l1 l2:Addr}{o1 o2:Obj}{P1 P2:Heap->Prop}{Q:Value->Shared->Prop}(J1:VW l1 o1 P1)(J2:VW l2 o2 P2)(q1:P1 s.heap)(q2:P2 s.heap)
  (h:∀h' n,n=s.heap.objs.size->IsZip h' (n+4) (n+2) (n+3) .none->IsPair h' (n+2) (.ref n) (.ref (n+1))->IsPair h' (n+3) .none .none->h'.get? n=some o1->h'.get? (n+1)=some o2->
   (∀c o,s.heap.get? c=some o->h'.get? c=some o)->Q (.ref (n+4)) { s with heap:=h' }):wpAny (model prog w) A (call (.type "zip") [.ref l1,.ref l2]) Q E s:=by
 refine callType_new PySem.F.called_zip (by decide) (PySem.F.typeCall_zip_2 _ _) (PySem.F.newCall_zip_2 _ _) (λobj=>PySem.F.args_object_init_3 obj _ _) PySem.F.entry_zip_new (kI J1 J2) ⟨q1,q2, ?_⟩
 have n1:(s.heap.push o1).objs.size=s.heap.objs.size+1:=dy ..;have n2:(zh2 s.heap o1 o2).objs.size=s.heap.objs.size+2:=by rw[dy,n1]
 have n3:(zh3 s.heap o1 o2).objs.size=s.heap.objs.size+3:=by rw[dy,n2]
 have n4:(zh4 s.heap o1 o2).objs.size=s.heap.objs.size+4:=by rw[dy,n3]
 have up:∀{h:Heap} {c:Addr} {o:Obj} (o' :Obj),h.get? c=some o->(h.push o').get? c=some o:=λo' e=>aj o' e;have e5:(zh5 s.heap o1 o2).get? (zh4 s.heap o1 o2).objs.size=some _:=ay _ rfl;have e4:(zh5 s.heap o1 o2).get? (zh3 s.heap o1 o2).objs.size=some _:=up _ (ay _ rfl);have e3:(zh5 s.heap o1 o2).get? (zh2 s.heap o1 o2).objs.size=some _:=up _ (up _ (ay _ rfl));have e2:(zh5 s.heap o1 o2).get? (s.heap.push o1).objs.size=some _:=up _ (up _ (up _ (ay _ J2.fresh)));have e1:(zh5 s.heap o1 o2).get? s.heap.objs.size=some _:=up _ (up _ (up _ (up _ (ay _ J1.fresh))));show _/\_;rw[n2,n3,n4]at e5;rw[n1,n2]at e3;rw[n3]at e4;rw[n1]at e2;rw[n4];exact⟨⟨_,e5,rfl⟩,h _ _ rfl e5 e3 e4 e1 e2 λc o q=>up _ (up _ (up _ (up _ (up _ q))))⟩
end PySem.ZG
namespace PV
open PySem PySem.Spec PyProof.Rows L2 PySem.ZG
inductive SK where
 | l | t
def SK.it:SK->Heap->Addr->Addr->Nat->Prop
 | .l=>λh i l k=>h.IsListIter i l k
 | .t=>λh i l k=>h.IsTupleIter i l k
def SK.has:SK->Heap->Addr->Array Value->Prop
 | .l=>λh l xs=>h.IsList l xs
 | .t=>λh l xs=>h.IsTuple l xs
def SK.sq (K:ai):SK->Hp->Addr->List V->Prop
 | .l=>λH a xs=>SqL K H a xs
 | .t=>λH a xs=>SqT K H a xs
def SK.tr:SK->List V->HO
 | .l=> .lst
 | .t=> .tup
def SK.ob:SK->Addr->Obj
 | .l=>oL
 | .t=>oT
theorem SK.nx (k:SK){i l:Addr}(h:l ≠ i)(xs:Array Value):u6 i [i,l] (λn=>xs[n]?) (λn hp=>k.it hp i l n/\k.has hp l xs):=by
 cases k with
 | l=>exact VR h xs
 | t=>exact kG h xs
theorem SK.of (k:SK)(l:Addr)(xs:Array Value):VW l (k.ob l) (λh=>k.has h l xs):=by
 cases k with
 | l=>exact VX l xs
 | t=>exact kH l xs
theorem SK.start (k:SK){h:Heap}{i l:Addr}(e:h.get? i=some (k.ob l)):k.it h i l 0:=by
 cases k with
 | l=>exact⟨_,e,rfl,rfl⟩
 | t=>exact⟨_,e,rfl,rfl⟩
theorem SK.obj {k:SK}{h:Heap}{i l:Addr}{n:Nat}(x:k.it h i l n):∃o,h.get? i=some o/\∀v,o.data ≠ .cell v:=by
 cases k with
 | l=>obtain⟨o,e,_,d⟩:=x;exact⟨o,e,λv z=>by rw[d]at z;cases z⟩
 | t=>obtain⟨o,e,_,d⟩:=x;exact⟨o,e,λv z=>by rw[d]at z;cases z⟩
theorem SK.at_ {k:SK}{h h' :Heap}{i l:Addr}{n:Nat}(x:k.it h i l n)(q:∀o,h.get? i=some o->h'.get? i=some o):k.it h' i l n:=by
 cases k with
 | l=>obtain⟨o,e,r⟩:=x;exact⟨o,q o e,r⟩
 | t=>obtain⟨o,e,r⟩:=x;exact⟨o,q o e,r⟩
theorem SK.sqOf {K:ai}(k:SK){H:Hp}{a:Addr}{xs:List V}(e:H a=some (k.tr xs)):k.sq K H a xs:=by
 cases k with
 | l=>exact SqL.of e
 | t=>exact SqT.of e
theorem Inv.seq {X:Cx}{pins:List (Addr×Obj)}{σ:Sg}{H:Hp}{s:Shared}(I:L2.Inv X pins σ H s)(k:SK){a:Addr}{xs:List V}(h:k.sq X.K H a xs):∃its:List Value,Vals xs its/\k.has s.heap a its.toArray/\∃o,s.heap.get? a=some o:=by
 cases k with
 | l=>
  obtain⟨its,r,p,_⟩:=I.list h;obtain⟨o,_,e,_⟩:=id p;exact⟨its,r,p.isList,o,e⟩
 | t=>
  obtain⟨its,r,p,_⟩:=I.tuple h;obtain⟨o,e,_⟩:=id p;exact⟨its,r,p,o,e⟩
def Itz (K:ai)(k1 k2:SK)(l1 l2:Addr):It:=
 ⟨λi H=>∃xs ys x y,k1.sq K H l1 xs/\k2.sq K H l2 ys/\xs[i]? =some x/\ys[i]? =some y,λi H v H' =>∃p x y,H p=none/\v= .ref p/\(∀xs,k1.sq K H l1 xs->xs[i]? =some x)/\(∀ys,k2.sq K H l2 ys->ys[i]? =some y)/\H' =upd H p (.tup [x,y]),
  λi H=>∃xs ys,k1.sq K H l1 xs/\k2.sq K H l2 ys/\(xs.length<=i\/ys.length<=i)⟩
theorem Inv.seq_inj {X:Cx}{pins:List (Addr×Obj)}{σ:Sg}{H:Hp}{s:Shared}(I:L2.Inv X pins σ H s)(k:SK){a:Addr}{xs ys:List V}(h:k.sq X.K H a xs)(h' :k.sq X.K H a ys):xs=ys:=by
 cases k with
 | l=>exact I.list_inj h h'
 | t=>exact I.tuple_inj h h'
theorem nN {a b:Nat}(h:a ≠ b): @Ne Addr a b:=h
theorem nM {a b c:Nat}(h:a ≠ b)(h' :a ≠ c):¬ @Membership.mem Addr (List Addr) _ [b,c] a:=λq=>by
 rcases ax.mp q with z | z
 ·exact h z
 ·exact h' (aT.mp z)
theorem Q5 {P:Program}{w:World}{K:ai}{elts:List Expr}{kk:Nat}{pt:Pos}(k1 k2:SK){n l1 l2:Nat}(h1:l1 < n)(h2:l2 < n):
  qC P w K (.Tuple elts kk pt) (Itz K k1 k2 l1 l2) [n+4,n+2,n+3,n,n+1] (n+4)
   (λi h=>IsZip h (n+4) (n+2) (n+3) .none/\IsPair h (n+2) (.ref n) (.ref (n+1))/\(∃a b,IsPair h (n+3) a b)/\k1.it h n l1 i/\k2.it h (n+1) l2 i):=by
 have D:Ap (n+4) (n+2) (n+3) n (n+1) [n,l1] [n+1,l2]:=by
  refine⟨nN (by omega),nN (by omega),nN (by omega),nN (by omega),nN (by omega),nM (by omega) (by omega),nM (by omega) (by omega),nM (by omega) (by omega),nM (by omega) (by omega),nM (by omega) (by omega),nM (by omega) (by omega)⟩
 refine⟨by simp,λi h st b hb=> ?_,λi h h' st k=> ?_, ?_, ?_, ?_⟩
 ·obtain⟨hz,hI,⟨a,c,hO⟩,p1,p2⟩:=st;simp only[ax,aY,or_false]at hb;rcases hb with rfl | rfl | rfl | rfl | rfl
  ·exact⟨_,hz,λv z=>nomatch z⟩
  ·exact⟨_,hI,λv z=>nomatch z⟩
  ·exact⟨_,hO,λv z=>nomatch z⟩
  ·exact SK.obj p1
  ·exact SK.obj p2
 ·obtain⟨hz,hI,⟨a,c,hO⟩,p1,p2⟩:=st;exact⟨k _ (by simp) _ hz,k _ (by simp) _ hI,⟨a,c,k _ (by simp) _ hO⟩,SK.at_ p1 λo e=>k n (by simp) o e,SK.at_ p2 λo e=>k (n+1) (by simp) o e⟩
 ·intro X hP hw hK hc i pins s σ H E I hf st hg;subst hP hw hK;obtain⟨xs,ys,x,y,s1,s2,hx,hy⟩:=hg;obtain⟨hz,hI,⟨a,c,hO⟩,p1,p2⟩:=st;obtain⟨its1,r1,b1,_⟩:=Inv.seq I k1 s1;obtain⟨its2,r2,b2,_⟩:=Inv.seq I k2 s2;obtain⟨u,hu,ru⟩:=r1.get hx;obtain⟨v,hv,rv⟩:=r2.get hy;refine VU (k1.nx (aH h1) its1.toArray) (k2.nx (i:=n+1) (nN (by omega)) its2.toArray) D hz hI hO ⟨p1,b1⟩ ⟨p2,b2⟩ (x:=u) (y:=v) (by simpa using hu) (by simpa using hv) λg a1 a2 a3 a4 a5 kp=>⟨_,rfl, ?_⟩
  refine wpAny_letOwnedTupleGo_zip a1 λg2 z2 e2=> ?_;have hlt:n+4 < s.heap.objs.size:=ar hz;have ne:∀b:Nat,b<=n+4->s.heap.objs.size ≠ b:=λb hb=>by
   have hlt:n+4 < s.heap.objs.size:=hlt;omega
  have kp2:∀b o,b ∉ [n+4,n+2,n+3,n,n+1]->s.heap.get? b=some o->g2.get? b=some o:=λb o hb e=>by
   simp only[ax,aY,or_false,not_or]at hb;exact e2.extBut _ _ hb.1 (kp b o hb.1 hb.2.2.1 hb.2.2.2.1 hb.2.2.2.2 e)
  have g2P:IsPair g2 s.heap.objs.size u v:=e2.extBut _ _ (ne _ (am _)) a5;have g2I:IsPair g2 (n+2) (.ref n) (.ref (n+1)):=e2.extBut _ _ D.Iz (kp _ _ D.Iz D.IO D.I1 D.I2 hI);have g2O:IsPair g2 (n+3) u v:=e2.extBut _ _ D.Oz a2;have q1:k1.it g2 n l1 (i+1):=SK.at_ a3.1 λo e=>e2.extBut _ _ (nN (by omega)) e
  have q2:k2.it g2 (n+1) l2 (i+1):=SK.at_ a4.1 λo e=>e2.extBut _ _ (nN (by omega)) e
  have hfr:H s.heap.objs.size=none:=I.hok.fresh (am _);refine⟨.ref s.heap.objs.size,upd H s.heap.objs.size (.tup [x,y]),Inv.laidT (s:=s) (h' :=g2) (ch:=[n+4,n+2,n+3,n,n+1]) (tk:=s.toks) I hf kp2 (λb o hb _=> ?_) (am _)
   ⟨by rw[bS];show 2<=16777216;decide,[u,v],.cons ru (.cons rv .nil),⟨_,g2P,rfl,_,rfl⟩,.inr ⟨_,g2P,rfl⟩⟩,rfl,⟨_,x,y,hfr,rfl,λzs hq=>by rw[← Inv.seq_inj I k1 s1 hq];exact hx,λzs hq=>by rw[← Inv.seq_inj I k2 s2 hq];exact hy,rfl⟩,⟨z2,g2I,⟨u,v,g2O⟩,q1,q2⟩,λb hb=> ?_⟩
  ·simp only[ax,aY,or_false]at hb;rcases hb with rfl | rfl | rfl | rfl | rfl
   ·exact⟨_,z2⟩
   ·exact⟨_,g2I⟩
   ·exact⟨_,g2O⟩
   ·obtain⟨o',e',_⟩:=SK.obj q1;exact⟨o',e'⟩
   ·obtain⟨o',e',_⟩:=SK.obj q2;exact⟨o',e'⟩
  ·have hb2:(b:Nat)<=n+4:=by
    have hb:b=n+4\/b=n+2\/b=n+3\/b=n\/b=n+1:=by simpa using hb
    rcases hb with rfl | rfl | rfl | rfl | rfl
    ·exact am _
    ·exact dN (by decide) n
    ·exact dN (by decide) n
    ·exact cQ _ _
    ·exact dN (by decide) n
   rw[zy λz=>ne b hb2 z.symm];exact(hf b hb).1
 ·intro X hP hw hK hc i pins s σ H E I hf st hg;subst hP hw hK;obtain⟨xs,ys,s1,s2,hend⟩:=hg;obtain⟨hz,hI,⟨a,c,hO⟩,p1,p2⟩:=st;obtain⟨its1,r1,b1,_⟩:=Inv.seq I k1 s1;obtain⟨its2,r2,b2,_⟩:=Inv.seq I k2 s2;have l1' :=r1.length;have l2' :=r2.length;refine VV (I.ok.hd hc) (k1.nx (aH h1) its1.toArray) (k2.nx (i:=n+1) (nN (by omega)) its2.toArray) D hz hI hO ⟨p1,b1⟩ ⟨p2,b2⟩ (k:=i) ?_ λg kp=>⟨rfl, ?_⟩
  ·rcases hend with q | q
   ·exact .inl (cG (by rw[av,← l1'];exact q))
   ·exact .inr (cG (by rw[av,← l2'];exact q))
  ·have kp2:∀b o,b ∉ [n+4,n+3,n,n+1]->s.heap.get? b=some o->g.get? b=some o:=λb o hb e=>by
    simp only[ax,aY,or_false,not_or]at hb;exact kp b o hb.1 hb.2.1 hb.2.2.1 hb.2.2.2 e
   have nch:∀b u,H b=some u->b ∉ [n+4,n+3,n,n+1]:=λb u e hb=>by
    have hb' :b∈[n+4,n+2,n+3,n,n+1]:=by
     simp only[ax,aY,or_false]at hb ⊢;rcases hb with q | q | q | q
     ·exact .inl q
     ·exact .inr (.inr (.inl q))
     ·exact .inr (.inr (.inr (.inl q)))
     ·exact .inr (.inr (.inr (.inr q)))
    rw[(hf b hb').1]at e;cases e
   refine I.call' (s' :={ s with heap:=g }) (ch:=[n+4,n+3,n,n+1]) rfl ⟨λb o e _ _ hc=>kp2 b o hc e,λb o e _ _ hc=>⟨o.slots,kp2 b o hc e⟩,λb o e q _=>q,λb o e hc=>⟨o,kp2 b o hc e⟩,λb ys e=>e,λb o u e=>e,λb ps e=>⟨#[],by rw[e];simp⟩⟩ (λb u e=> ?_) I.bare λb hb=> ?_
   ·refine(I.hok b u e).stay (λc v hc q=>kp2 c v ?_ q) (λ_ q=>q) λ_ _ q=>q;rcases hc with rfl | hc
    ·exact nch c u e
    ·exact nch c _ hc
   ·have hb' :b∈[n+4,n+2,n+3,n,n+1]:=by
     simp only[ax,aY,or_false]at hb ⊢;rcases hb with q | q | q | q
     ·exact .inl q
     ·exact .inr (.inr (.inl q))
     ·exact .inr (.inr (.inr (.inl q)))
     ·exact .inr (.inr (.inr (.inr q)))
    obtain⟨f0,f1,f2,f3,f4,f5⟩:=hf b hb';exact⟨f3,f1,f4,f5⟩
 ·intro A i s Q E st h;exact wpAny_pyIter_zip st.1 h
def vk (xs ys:List T):List T:=(xs.zip ys).map λp=>T.tup [p.1,p.2]
theorem Q6 {xs ys:List T}{i:Nat}{t:T}(h:(vk xs ys)[i]? =some t):∃x y,xs[i]? =some x/\ys[i]? =some y/\t= .tup [x,y]:=by
 unfold vk at h;rw[aG]at h;cases e:(xs.zip ys)[i]? with
 | none=>rw[e]at h;cases h
 | some p=>
  rw[e]at h;cases h;have:=eH.mp e;exact⟨p.1,p.2,this.1,this.2,rfl⟩
theorem u7 (xs ys:List T):(vk xs ys).length=min xs.length ys.length:=by unfold vk;simp
theorem kJ {K:ai}{B1 H1:Hp}{k1 k2:SK}{a b:Addr}{xs ys:List V}{ts us:List T}(ha:B1 a=some (k1.tr xs))(hb:B1 b=some (k2.tr ys))(ra:zH B1 xs ts)(rb:zH B1 ys us):rI B1 H1 (Itz K k1 k2 a b) (vk ts us):=λB2 H2 s1 s2=>by
 have a2:=k1.sqOf (K:=K) (s2 _ _ (s1 _ _ ha));have b2:=k2.sqOf (K:=K) (s2 _ _ (s1 _ _ hb));rw[u7];refine⟨λi hi=> ?_,λi t x H3 e y=> ?_,λi hi=>⟨xs,ys,a2,b2, ?_⟩⟩
 ·obtain⟨v,e1,_⟩:=ra.get (ad (show i < ts.length by omega))
  obtain⟨u,e2,_⟩:=rb.get (ad (show i < us.length by omega))
  exact⟨xs,ys,v,u,a2,b2,e1,e2⟩
 ·obtain⟨p,v,u,hp,rfl,y1,y2,rfl⟩:=y;obtain⟨t1,t2,et,eu,rfl⟩:=Q6 e;obtain⟨v',e1,r1⟩:=ra.get et;obtain⟨u',e2,r2⟩:=rb.get eu;have q1:=y1 xs a2;have q2:=y2 ys b2;rw[e1]at q1;cases q1;rw[e2]at q2;cases q2;have up:=zV.ge s2 (zw.new hp (.tup [v,u]));exact⟨zw.new hp _,.tup (j9 hp _) (.cons ((r1.mono s1).mono up) (.cons ((r2.mono s1).mono up) .nil))⟩
 ·rw[ra.length,rb.length];omega
section
variable {X:Cx}{Y:Fx}{a b:Expr}{fa fb:En->R T}{pos p pt:Pos}{elts:List Expr}{kk:Nat}
theorem kK {ta:TA}(hg:Gl X "zip")(hm:X.mg "zip"=none)(ha:PA X [a,b] ta)(hs:starEach [a,b] X.env=[(false,eval a X.env),(false,eval b X.env)])(hs2:starEach [b] X.env=[(false,eval b X.env)]):
  PI X (.Tuple elts kk pt) (.Call (.Name "zip" p) [a,b] [] pos) (λσ H R=>ta σ H λvs H1=>∃k1 k2 l1 l2 xs ys,vs=[.ref l1,.ref l2]/\H1 l1=some (SK.tr k1 xs)/\H1 l2=some (SK.tr k2 ys)/\R (Itz X.K k1 k2 l1 l2) H1):=by
 intro pins s σ H R I h;refine Call_ (Jz I hg hm PyProof.Rows.Boot.«zip» (bK (thn (ha pos pins s σ H _ I h) λus s1 ⟨vs,H1,I1,r1,q1⟩=> ?_) (by rw[hs,hs2]) (by rw[hs2];rfl)))
 obtain⟨k1,k2,l1,l2,xs,ys,e,h1,h2,q⟩:=q1;subst e;obtain⟨u,v,rfl,ru,rv⟩:=Ug r1;obtain rfl:u=Value.ref l1:=ru;obtain rfl:v=Value.ref l2:=rv;obtain⟨its1,_,b1,o1,e1⟩:=Inv.seq I1 k1 (k1.sqOf h1);obtain⟨its2,_,b2,o2,e2⟩:=Inv.seq I1 k2 (k2.sqOf h2);refine VY (k1.of l1 its1.toArray) (k2.of l2 its2.toArray) b1 b2 λg n hn z1 z2 z3 z4 z5 kp=>wpAny_pyIter_zip z1 ?_;subst hn;have f:∀b∈[s1.heap.objs.size+4,s1.heap.objs.size+2,s1.heap.objs.size+3,s1.heap.objs.size,s1.heap.objs.size+1],WV X pins H1 b:=λb hb=>by
  have hb' :s1.heap.objs.size<=b:=by
   simp only[ax,aY,or_false]at hb;rcases hb with rfl | rfl | rfl | rfl | rfl
   ·exact cQ _ _
   ·exact cQ _ _
   ·exact cQ _ _
   ·exact am _
   ·exact cQ _ _
  exact I1.fpOk hb' (I1.hok.fresh hb')
 exact⟨s1.heap.objs.size+4,_,_,_,H1,rfl,I1.kept (t' :=s1.toks) kp,Q5 k1 k2 (ar e1) (ar e2),⟨z1,z2,⟨_,_,z3⟩,SK.start k1 z4,SK.start k2 z5⟩,f,q⟩
def JG:T->R (List T)
 | .lst xs=> .ok xs
 | .tup xs=> .ok xs
 | _=> .bad
def kL (fa fb:En->R T):En->R (List T):=λρ=>(fa ρ).bind λt=>(fb ρ).bind λu=>(JG t).bind λxs=>(JG u).bind λys=> .ok (vk xs ys)
theorem yM {B:Hp}{v:V}{t:T}{xs:List T}(r:Rep B v t)(e:JG t= .ok xs):∃(k:SK) (a:Addr) (vs:List V),v= .ref a/\B a=some (k.tr vs)/\zH B vs xs:=by
 cases r with
 | lst h r=>cases e;exact⟨.l,_,_,rfl,h,r⟩
 | tup h r=>cases e;exact⟨.t,_,_,rfl,h,r⟩
 | _=>cases e
theorem uM (t:T)(c:Nat):JG t ≠ .ex c:=by cases t <;> exact λz=>nomatch z
theorem GM (hg:Gl X "zip")(hm:X.mg "zip"=none)(ha:Snd X Y a fa)(hb:Snd X Y b fb)(hs:starEach [a,b] X.env=[(false,eval a X.env),(false,eval b X.env)]:=by exact st2 rfl rfl)(hs2:starEach [b] X.env=[(false,eval b X.env)]:=by exact st1 rfl):
  yC X Y (.Tuple elts kk pt) (.Call (.Name "zip" p) [a,b] [] pos) (kL fa fb):= .mk λρ=>
 PI.imp (kK hg hm (zu (ha ρ) (zu (hb ρ) Za hs2) (by rw[hs,hs2])) hs hs2) λσ H R ⟨B,I,q⟩=>step I q λt v H1 _ s1 r1 I1 q1=>step I1 q1 λu v' H2 _ s2 r2 I2 q2=>by
  cases e1:JG t with
  | bad=>rw[e1]at q2;exact q2.elim
  | ex c=>exact absurd e1 (uM _ _)
  | ok xs=>
   rw[e1]at q2;cases e2:JG u with
   | bad=>rw[e2]at q2;exact q2.elim
   | ex c=>exact absurd e2 (uM _ _)
   | ok ys=>
    rw[e2]at q2;obtain⟨k1,a1,vs1,rfl,h1,w1⟩:=yM (r1.mono (zV.ge I1.sB s2)) e1;obtain⟨k2,a2,vs2,rfl,h2,w2⟩:=yM r2 e2;exact⟨k1,k2,a1,a2,vs1,vs2,rfl,I2.sB _ _ h1,I2.sB _ _ h2,ZP I2 (show Po Y rI _ H2 (.ok (vk xs ys)) R from q2) (kJ h1 h2 w1 w2)⟩
end
end PV
namespace PV
open PySem PySem.Spec PyProof.Rows L2
section
variable {X:Cx}{Y:Fx}{a b:Expr}{fa fb:En->R T}{pos p p' pos' :Pos}
def W4:T->R T
 | .bl b=> .ok (.int (b2 b))
 | .int i=> .ok (.int i)
 | _=> .bad
theorem GN (v:V)(t:T)(B H:Hp)(Q:VK)(r:Rep B v t)(sB:zw B H)(q:Po Y rC B H (W4 t) Q):
  (∃i,[v]=[V.int i]/\Q (.int i) H)\/∃k,[v]=[V.bl k]/\Q (.int (if k then 1 else 0)) H:=by
 cases r with
 | int i=>exact .inl ⟨i,rfl,po0 sB q rfl (.int i)⟩
 | bl k=>exact .inr ⟨k,rfl,po0 sB q rfl (by cases k <;> exact .int _)⟩
 | _=>exact q.elim
theorem kM (gl:Gl X "int")(mg:X.mg "int"=none)(ha:Snd X Y a fa)(hs:St1 X a:=by exact st1 rfl):Snd X Y (.Call (.Name "int" p) [a] [] pos) (ap1 W4 fa):=
 yu UZ GN gl mg (PyProof.Rows.Boot.«int») ha hs
theorem yN:ZB X (.type "range") (λxs H Q=>∃i j,xs=[.int i,.int j]/\∀r,H r=none->Q (.ref r) (upd H r (.rng i j))):=by
 intro pins s σ H xs us Q I r h;obtain⟨i,j,rfl,q⟩:=h;obtain⟨u,v,rfl,ru,rv⟩:=Ug r;obtain⟨t,rfl⟩:=ru;obtain⟨t',rfl⟩:=rv;exact call_range_2 ⟨.ref s.heap.objs.size,_,I.laid (t' :=s.toks+1) (λb o e=>aj _ e) (am _) (show Zl X.prog X.w _ _ _ (.rng i j) from ⟨_,_,_,ay _ rfl⟩),rfl,q _ (I.hok.fresh (am _))⟩
def qt (lo:Int)(n:Nat):List V:=(aC n).map λ(i:Nat)=>V.int (lo+(i:Int))
theorem wK (hh:X.A.handled=none):ZB X (.type "list") (λxs H Q=>∃r lo hi,xs=[.ref r]/\H r=some (.rng lo hi)/\(-1000000 < lo/\lo < 1000000/\ -1000000 < hi/\hi < 1000000)/\∀l,H l=none->Q (.ref l) (upd H l (.lst (qt lo (hi - lo).toNat)))):=by
 intro pins s σ H xs us Q I rv h;obtain⟨r,lo,hi,rfl,e,⟨c1,c2,c3,c4⟩,q⟩:=h;obtain⟨u,rfl,ru⟩:=j7 rv;obtain rfl:u=Value.ref r:=ru;obtain⟨t,v,v',eo⟩:=(show Zl X.prog X.w H s.heap r (.rng lo hi) from I.hok r _ e);have hn:eW lo hi 1=((hi - lo).toNat:Int):=by rw[rangeSize_one];split <;> omega
 refine call_list_range (n:=(hi - lo).toNat) hh eo (small_one (by omega) (by omega) (by omega) (by omega)) hn (by omega) λh' tk acc c kp eo' hacc=> ?_
 have hv:Vals (qt lo (hi - lo).toNat) acc.toList:=by
  have key:∀(n:Nat) (lo:Int) (vs:List Value),vs.length=n->(∀(j:Nat) (v:Value),vs[j]? =some v->∃t,v=Value.int (lo+(j:Int)) t)->Vals (qt lo n) vs:=by
   intro n
   induction n with
   | zero=>
    intro lo vs hl _;rw[List.eq_nil_of_length_eq_zero hl];exact .nil
   | succ n ih=>
    intro lo vs hl hv;cases vs with
    | nil=>cases hl
    | cons v vs=>
     have e:qt lo (n+1)=V.int (lo+0) :: qt (lo+1) n:=by
      unfold qt;rw[cF,aB,aQ];refine congrArg _ (bN λj _=> ?_);show V.int (lo+((j+1:Nat):Int))=V.int (lo+1+(j:Int));congr 1;omega
     rw[e];refine .cons (hv 0 v rfl) (ih (lo+1) vs (by simpa using hl) λj x hx=> ?_)
     obtain⟨t,z⟩:=hv (j+1) x (by simpa using hx)
     exact⟨t,by rw[z];congr 1;omega⟩
  refine key _ lo acc.toList (by simpa using hacc.1) λj v hj=> ?_
  obtain⟨t,z⟩:=hacc.2 j v (by simpa using hj)
  exact⟨t,by rw[z];congr 1;omega⟩
 have hz:(qt lo (hi - lo).toNat).length<=sizeLine:=by
  rw[bS];unfold qt;rw[ac,a_];omega
 exact⟨.ref s.heap.objs.size,_,I.laid (t' :=tk) kp (am _) (show Zl X.prog X.w _ h' _ (.lst _) from ⟨hz,acc.toList,c,hv,by simpa using eo'⟩),rfl,q _ (I.hok.fresh (am _))⟩
def KU (fi:En->R (List T)):En->R T:=λρ=>(fi ρ).bind λts=> .ok (.lst ts)
theorem yO {B:Hp}(lo:Int)(n:Nat):zH B (qt lo n) (rng lo n):=by
 unfold qt rng
 induction aC n with
 | nil=>exact .nil
 | cons i is ih=>exact .cons (.int _) ih
theorem VZ (hh:X.A.handled=none)(gl:Gl X "list")(mg:X.mg "list"=none)(gl' :Gl X "range")(mg' :X.mg "range"=none)(ha:Snd X Y a fa)(hb:Snd X Y b fb)
  (hs:starEach [a,b] X.env=[(false,eval a X.env),(false,eval b X.env)]:=by exact st2 rfl rfl) (hs2:St1 X b:=by exact st1 rfl):Snd X Y (.Call (.Name "list" p) [.Call (.Name "range" p') [a,b] [] pos'] [] pos) (KU (Jm fa fb)):= .mk λρ=>
 PE.imp (jD (wK hh) gl mg PyProof.Rows.Boot.«list» (zu (jD yN gl' mg' boot_range (zu (ha ρ) (zu (hb ρ) Za hs2) (by rw[hs,hs2])) (by decide) (by decide) (by rw[hs,hs2]) (by rw[hs2];rfl)) Za (st1 rfl)) (by decide) (by decide) (st1 rfl) rfl) λσ H Q ⟨B,I,q⟩=>by
  have q:Po Y rC B H ((fa ρ).bind λt=>(fb ρ).bind λt' =>(match t,t' with | .int i,.int j=>if -1000000 < i/\i < 1000000/\ -1000000 < j/\j < 1000000 then R.ok (rng i (j - i).toNat) else .bad | _,_=> .bad).bind λts=> .ok (.lst ts)) Q:=by
   revert q;unfold KU Jm;cases fa ρ with
   | ok t=>cases fb ρ <;> exact λq=>q
   | ex c=>exact λq=>q
   | bad=>exact λq=>q
  refine step I q λt v H1 _ s1 r1 I1 q1=>step I1 q1 λt' v' H2 _ s2 r2 I2 q2=> ?_;cases r1 with
  | int i=>
   cases r2 with
   | int j=>
    by_cases c: -1000000 < i/\i < 1000000/\ -1000000 < j/\j < 1000000
    ·dsimp only at q2;rw[if_pos c]at q2;refine⟨i,j,rfl,λr hr=>⟨r,i,j,rfl,zU,c,λl hl=> ?_⟩⟩;have hlr:l ≠ r:=λz=>by rw[z,zU]at hl;cases hl
     have hl2:H2 l=none:=by rw[zy hlr]at hl;exact hl
     refine q2 _ _ (zw.new hr _ |>.trans (zw.new hl _)) (.lst ?_ (yO _ _))
     rw[Zc hl2,zU]
    ·dsimp only at q2;rw[if_neg c]at q2;exact q2.elim
   | _=>exact q2.elim
  | _=>cases r2 <;> exact q2.elim
def mvS (i j:Nat):En->RS:=λρ=>match ρ[j]? with
 | some (.ow ts)=> .nx ((ρ.set j (.vl (.lst ts))).set i (.vl (.lst ts)))
 | _=> .bad
theorem SI.give {Y:Fx}{B:Hp}{ρ:En}{σ:Sg}{H:Hp}(I:SI Y B ρ σ H){j:Nat}{ts:List T}(hj:ρ[j]? =some (.ow ts)):∃(a:Addr) (B' :Hp),σ[j]? =some (some (V.ref a))/\zw B B' /\Rep B' (.ref a) (.lst ts)/\SI Y B' (ρ.set j (.vl (.lst ts))) σ H:=by
 obtain⟨a,xs,e,b0,h0,hh,rr,d⟩:=I.ow j ts hj;have s1:zw B (upd B a (.lst xs)):=zw.new b0 _;have rp:Rep (upd B a (.lst xs)) (.ref a) (.lst ts):= .lst zU (rr.mono s1);refine⟨a,_,e,s1,rp,⟨I.s0,I.sH,λb o q=> ?_,λb o q=> ?_,by rw[bj];exact I.len,λk t q=> ?_,λk us q=> ?_,λk c q=> ?_⟩⟩
 ·by_cases hb:b=a
  ·subst hb;rw[zU]at q;cases q;exact hh
  ·rw[zy hb]at q;exact I.sB b o q
 ·rw[zy λz=>by rw[z,h0]at q;cases q];exact I.old b o q
 ·rcases zS q with ⟨rfl,z⟩ | ⟨_,z⟩
  ·cases z;exact⟨_,e,rp⟩
  ·obtain⟨v,e1,r⟩:=I.vl k t z;exact⟨v,e1,r.mono s1⟩
 ·rcases zS q with ⟨rfl,z⟩ | ⟨hk,z⟩
  ·cases z
  ·obtain⟨a',xs',e',b0',h0',hh',rr',d'⟩:=I.ow k us z;have hne:a' ≠ a:=λw=>by subst w;exact d k us hk z e'
   refine⟨a',xs',e',by rw[zy hne];exact b0',h0',hh',rr'.mono s1,λm ws hm hw=> ?_⟩
   rcases zS hw with ⟨rfl,w⟩ | ⟨_,w⟩
   ·cases w
   ·exact d' m ws hm w
 ·rcases zS q with ⟨rfl,z⟩ | ⟨_,z⟩
  ·cases z
  ·obtain⟨a',e',r⟩:=I.xc k c z;exact⟨a',e',s1 _ _ r⟩
theorem s_mv {i j:Nat}{x y:Str}{yp:Pos}(hv:PE X (.Name y yp) (UN j))(hN:X.N.Nodup)(hi:X.N[i]? =some x)(hx:L2.Loc X.env.scope x)(hs:swapsWith (.Name y yp) (some (.Name x p')) pos.line X.env=pure false:=by rfl)
  (hf:X.fn x=true\/X.env.scope.names.lookup x=some .local:=by first | exact .inl rfl | exact .inr rfl | assumption):wH X Y (.Assign [.Name x p'] (.Name y yp) pos) (mvS i j):= .mk λρ=>
 PS.imp (uz hN hi hx hv hs hf) λD σ H ⟨B,I,q⟩=>by
  unfold mvS at q;split at q
  ·rename_i ts e;obtain⟨a,B',e1,s1,r,J⟩:=I.give e;exact⟨_,e1,q _ _ B' s1 (J.setV i r)⟩
  ·exact q.elim
end
def eqs (y:T):List T->Option (List Bool)
 | []=>some []
 | t :: ts=>match eqF 30 t y with
  | none=>none
  | some b=>match eqs y ts with
   | none=>none
   | some bs=>some (b :: bs)
def GO (y:T)(ts:List T):R T:=match eqs y ts with
 | some bs=> .ok (.int (bs.count true))
 | none=> .bad
def GP (y:T)(ts:List T):R T:=match eqs y ts with
 | some bs=>if true∈bs then .ok (.int (bs.idxOf true)) else .bad
 | none=> .bad
def KW (g:T->List T->R T)(fa fb:En->R T):En->R T:=λρ=>(fa ρ).bind λt=>match t with
 | .lst ts=>(fb ρ).bind λu=>g u ts
 | _=> .bad
theorem yP {H:Hp}{y:T}{e:Value->Bool}(he:∀(v:V) (t:T) (u:Value) (b:Bool),RelV v u->Rep H v t->eqF 30 t y=some b->e u=b):∀{xs:List V} {ts:List T} {its:List Value} {bs:List Bool},
  Vals xs its->zH H xs ts->eqs y ts=some bs->its.map e=bs/\∀u∈its,∃v t k,RelV v u/\Rep H v t/\eqF 30 t y=some k
 | _,_,_,_,.nil,.nil,h=>by
  cases h;exact⟨rfl,λu hu=>by simp at hu⟩
 | _,_,_,_,.cons rv vs,.cons r rs,h=>by
  rename_i v u vals us t ts;unfold eqs at h;cases q:eqF 30 t y with
  | none=>rw[q]at h;cases h
  | some k=>
   rw[q]at h;cases q' :eqs y ts with
   | none=>rw[q']at h;cases h
   | some k' =>
    rw[q']at h;cases h;obtain⟨h1,h2⟩:=yP he vs rs q';refine⟨by rw[aB,h1,he v t u k rv r q],λw hw=> ?_⟩
    rcases ax.mp hw with z | hw
    ·exact⟨v,t,k,z ▸ rv,r,q⟩
    ·exact h2 w hw
section
variable {X:Cx}{Y:Fx}{a b:Expr}{fa fb:En->R T}{pos p p' pos' :Pos}
theorem yQ {e:Value->Bool}:∀its:List Value,List.countP e its=(its.map e).count true
 | []=>rfl
 | u :: us=>by
  rw[List.countP_cons,aB,List.count_cons,yQ us];cases e u <;> rfl
theorem Q7 (hu:X.A.units+64 < cLine):MtR X "list.count" (λx xs H Q=>∃l ys ts v t bs,x= .ref l/\xs=[v]/\H l=some (.lst ys)/\zH H ys ts/\Rep H v t/\eqs t ts=some bs/\Q (.int (bs.count true)) H):=by
 intro pins s σ H x xs v0 us Q I rx rv h;obtain⟨l,ys,ts,v,t,bs,rfl,rfl,hl,r,rt,e,q⟩:=h;obtain rfl:v0=Value.ref l:=rx;obtain⟨u,rfl,ru⟩:=j7 rv;obtain⟨hz,its,n,ri,eo⟩:=(show Zl X.prog X.w H s.heap l (.lst ys) from I.hok l _ hl);obtain⟨f,hf⟩:=u3 (H:=H) λz=>eqF 30 z t;obtain⟨h2,h3⟩:=yP hf ri r e;refine cD f9 ⟨_,eo,rfl⟩ PySem.F.entry_list_count (PySem.F.args_list_count_2 _ _) (SeqAt.list_countAt l its.toArray n none #[] u f) ⟨eo,λw hw=> ?_, ?_⟩
 ·obtain⟨v',t',k,rv',rr,ee⟩:=h3 w (by simpa using hw)
  rw[hf v' t' w k rv' rr ee];exact(yk I 30 X.A.in1 (by rw[jF];omega) t' t k v' v w u ee rr rt rv' ru).1
 ·rw[show its.toArray.toList=its from rfl,yQ,h2];exact⟨.int _,H,I.tok _,⟨_,rfl⟩,q⟩
theorem Q8 (hu:X.A.units+64 < cLine):MtR X "list.index" (λx xs H Q=>∃l ys ts v t bs,x= .ref l/\xs=[v]/\H l=some (.lst ys)/\zH H ys ts/\Rep H v t/\eqs t ts=some bs/\true∈bs/\Q (.int (bs.idxOf true)) H):=by
 intro pins s σ H x xs v0 us Q I rx rv h;obtain⟨l,ys,ts,v,t,bs,rfl,rfl,hl,r,rt,e,hm,q⟩:=h;obtain rfl:v0=Value.ref l:=rx;obtain⟨u,rfl,ru⟩:=j7 rv;obtain⟨hz,its,n,ri,eo⟩:=(show Zl X.prog X.w H s.heap l (.lst ys) from I.hok l _ hl);obtain⟨f,hf⟩:=u3 (H:=H) λz=>eqF 30 z t;obtain⟨h2,h3⟩:=yP hf ri r e;have hj:bs.idxOf true < bs.length:=List.idxOf_lt_length_iff.mpr hm;have hlen:bs.length=its.length:=by rw[← h2,ac]
 have hri:=ri.length;rw[bS]at hz;have hat:∀m (hm:m < its.length),f its[m]=bs[m]'(by rw[hlen];exact hm):=λm hm=>by
  have:(its.map f)[m]'(by rw[ac];exact hm)=bs[m]'(by rw[hlen];exact hm):=by simp only[h2]
  rw[← this,List.getElem_map]
 refine cD fg ⟨_,eo,rfl⟩ PySem.F.entry_list_index (PySem.F.args_list_index_2 _ _) (SeqAt.list_indexAt l its.toArray n none #[] u f (bs.idxOf true) (by rw[av,← hlen];exact hj) (by omega) ?_ ?_) ⟨eo,λw hw=> ?_, ?_⟩
 ·rw[fN,hat];exact List.getElem_idxOf hj
 ·intro m hm hlt;rw[fN,hat m (by simpa using hm)]
  have:=List.not_of_lt_findIdx (p:=(· == true)) (xs:=bs) (i:=m) hlt;simpa using this
 ·obtain⟨v',t',k,rv',rr,ee⟩:=h3 w (by simpa using hw)
  rw[hf v' t' w k rv' rr ee];exact(yk I 30 X.A.in1 (by rw[jF];omega) t' t k v' v w u ee rr rt rv' ru).1
 ·exact⟨.int _,H,I.tok _,⟨_,rfl⟩,q⟩
theorem x6 {pa:Pos}(hu:X.A.units+64 < cLine)(ha:jw X Y a fa)(hb:jw X Y b fb)(hb1:attributeBase a "count" X.env (eval a X.env)=eval a X.env:=by rfl)(hs:St1 X b:=by exact st1 rfl)(hz:(pa.endLine == p.line)=true:=by rfl):
  Snd X Y (.Call (.Attribute a "count" pa) [b] [] p) (KW GO fa fb):= .mk λρ=>by
 have e1:(((((backTo p (starEach [b] X.env)).all λx=> !x.fst) && (backToKw p (keywordEach [] X.env)).all λx=>x.fst.isSome) && decide (([b].length+([]:List Keyword).length+if ([]:List Keyword).isEmpty=true then 0 else 1) < 30))=true):=by rw[hs];rfl
 refine PE.imp (yc cw f9 PySem.F.type_list_count (Q7 hu) (ha ρ) (zu (hb ρ) Za hs) hb1 e1 hz hs rfl) λσ H Q ⟨B,I,q⟩=>step I q λt v H1 _ s1 r1 I1 q1=> ?_;cases t with
 | lst ts=>
  cases r1 with
  | @lst l xs _ h r=>
   refine⟨.inl ⟨rfl,_,SqL.of h⟩,step I1 q1 λu v' H2 _ s2 r2 I2 q2=> ?_⟩;unfold GO at q2;split at q2
   ·rename_i bs e;exact⟨l,xs,ts,v',u,bs,rfl,rfl,s2 _ _ h,r.mono s2,r2,e,ZP I2 q2 (.int _)⟩
   ·exact q2.elim
 | _=>exact q1.elim
theorem x8 {pa:Pos}(hu:X.A.units+64 < cLine)(ha:jw X Y a fa)(hb:jw X Y b fb)(hb1:attributeBase a "index" X.env (eval a X.env)=eval a X.env:=by rfl)(hs:St1 X b:=by exact st1 rfl)(hz:(pa.endLine == p.line)=true:=by rfl):
  Snd X Y (.Call (.Attribute a "index" pa) [b] [] p) (KW GP fa fb):= .mk λρ=>by
 have e1:(((((backTo p (starEach [b] X.env)).all λx=> !x.fst) && (backToKw p (keywordEach [] X.env)).all λx=>x.fst.isSome) && decide (([b].length+([]:List Keyword).length+if ([]:List Keyword).isEmpty=true then 0 else 1) < 30))=true):=by rw[hs];rfl
 refine PE.imp (yc cw fg PySem.F.type_list_index (Q8 hu) (ha ρ) (zu (hb ρ) Za hs) hb1 e1 hz hs rfl) λσ H Q ⟨B,I,q⟩=>step I q λt v H1 _ s1 r1 I1 q1=> ?_;cases t with
 | lst ts=>
  cases r1 with
  | @lst l xs _ h r=>
   refine⟨.inl ⟨rfl,_,SqL.of h⟩,step I1 q1 λu v' H2 _ s2 r2 I2 q2=> ?_⟩;unfold GP at q2;split at q2
   ·rename_i bs e;split at q2
    ·rename_i hm;exact⟨l,xs,ts,v',u,bs,rfl,rfl,s2 _ _ h,r.mono s2,r2,e,hm,ZP I2 q2 (.int _)⟩
    ·exact q2.elim
   ·exact q2.elim
 | _=>exact q1.elim
end
def Jc:List T->Option (List Int)
 | []=>some []
 | .int i :: r=>match Jc r with | some l=>some (i :: l) | none=>none
 | _ :: _=>none
def KY:T->R T
 | .lst ts=>match Jc ts with | some l=> .ok (.int l.sum) | none=> .bad
 | _=> .bad
theorem yR:∀{H:Hp} {xs:List V} {ts:List T} {its:List Value} {is:List Int},zH H xs ts->Vals xs its->Jc ts=some is->∃ps:List (Int×Tok),its=ps.map (λp=>Value.int p.1 p.2)/\ps.map (·.1)=is
 | _,_,_,_,is,.nil,.nil,h=>by
  have h' :some []=some is:=h;cases h';exact⟨[],rfl,rfl⟩
 | H,_,_,_,is,.cons (v:=x) (t:=t) r rs,.cons (b:=u) rv vs,h=>by
  cases r with
  | int i=>
   unfold Jc at h;split at h
   ·rename_i l e;cases h;obtain⟨ps,h1,h2⟩:=yR rs vs e;obtain⟨tk,rfl⟩:=rv;exact⟨(i,tk) :: ps,by rw[h1];rfl,by rw[aB,h2]⟩
   ·cases h
  | _=>cases h
section
variable {X:Cx}{Y:Fx}{a b:Expr}{fa fb:En->R T}{pos p p' pos' :Pos}
theorem yS (hh:X.A.handled=none):ZB X (.builtin "sum") (λvs H Q=>∃l xs ts is,vs=[.ref l]/\H l=some (.lst xs)/\zH H xs ts/\Jc ts=some is/\Q (.int is.sum) H):=by
 intro pins s σ H vs us Q I rv h;obtain⟨l,xs,ts,is,rfl,hl,r,hk,q⟩:=h;obtain⟨u,rfl,ru⟩:=j7 rv;obtain rfl:u=Value.ref l:=ru;obtain⟨its,rv,p,_⟩:=zZ I (.inl hl) r;obtain⟨ps,h1,h2⟩:=yR r rv hk;have e:its.toArray=intItems ps.toArray:=by rw[h1];simp[intItems]
 rw[e]at p;refine sum_intListG hh p λh' tk t' kp=> ?_;have e2:preSum (numAt ps.toArray) ps.toArray.size=is.sum:=by
  rw[preSum_eq,fy (by simp),← h2]
 rw[e2];exact⟨.int is.sum,H,I.kept (t' :=tk) kp,⟨t',rfl⟩,q⟩
theorem GQ (hh:X.A.handled=none)(gl:Gl X "sum")(mg:X.mg "sum"=none)(ha:jw X Y a fa)(hs:St1 X a:=by exact st1 rfl):Snd X Y (.Call (.Name "sum" p) [a] [] pos) (ap1 KY fa):=
 yt (yS hh) (λv t B H Q r sB q=>by
  cases r with
  | @lst l xs ts h r=>
   have q:Po Y rC B H (match Jc ts with | some k=> .ok (.int k.sum) | none=> .bad) Q:=q
   split at q
   ·rename_i k e;exact⟨l,xs,ts,k,rfl,h,r,e,po0 sB q rfl (.int _)⟩
   ·exact q.elim
  | _=>exact q.elim) gl mg boot_sum ha hs
end
section
variable {X:Cx}{Y:Fx}{a b:Expr}{fa fb:En->R T}{pos p p' pos' :Pos}
end
section
variable {X:Cx}{Y:Fx}{tg iter elt:Expr}{ifs:List Expr}{scope:Scope}{pos pos' :Pos}{N' :List Str}{k:Nat}{js:List Nat}{fi:En->R (List T)}{tG:TG}{g:T->En->R En}{ft:En->R Bool}{fe:En->R T}
end
section
variable {P:Program}{w:World}{K:ai}{mg:Str->Option Value}{base:Heap}
end
end PV
namespace PySem.RV
open PySem PySem.Spec PyProof.Rows PySem.Builtin.SmallTypes
section
variable {prog:Program}{w:World}{A:Around}{E:Value->Shared->Prop}{s:Shared}{it l:Addr}{xs:Array Value}
end
end PySem.RV
namespace PySem.RV
open PySem PySem.Spec PyProof.Rows
section
variable {prog:Program}{w:World}{A:Around}{E:Value->Shared->Prop}{s:Shared}{I:Addr}{fp wr:List Addr}{G:Array GenState->Array GenState->Prop}{n:Nat}{P:Nat->Value->Prop}{St:Nat->Shared->Prop}
end
end PySem.RV
namespace PV
open PySem PySem.Spec PyProof.Rows L2
theorem zH.rev {H:Hp}:∀{vs:List V} {ts:List T},zH H vs ts->zH H vs.reverse ts.reverse
 | _,_,.nil=> .nil
 | _,_,.cons r t=>by rw[dA,dA];exact(zH.rev t).append (.cons r .nil)
section
variable {X:Cx}{Y:Fx}{a b tg:Expr}{fa fb:En->R T}{pos p p' pos' :Pos}
theorem uN:∀{xs ys:List V} {us ws:List Value},Vals xs us->Vals ys ws->Vals (xs++ys) (us++ws)
 | _,_,_,_,.nil,q=>q
 | _,_,_,_,.cons r t,q=> .cons r (uN t q)
theorem uO:∀{xs:List V} {us:List Value},Vals xs us->Vals xs.reverse us.reverse
 | _,_,.nil=> .nil
 | _,_,.cons r t=>by rw[dA,dA];exact uN (uO t) (.cons r .nil)
end
section
variable {X:Cx}{Y:Fx}{a b:Expr}{fa fb:En->R T}{pos p p' pos' pt:Pos}{elts:List Expr}{kk:Nat}
end
section
variable {X:Cx}{Y:Fx}{a b:Expr}{fa fb:En->R T}{pos p p' pos' pt:Pos}{elts:List Expr}{kk:Nat}
end
end PV
namespace PySem.RV
open PySem PySem.Spec PyProof.Rows PySem.Builtin.SmallTypes
end PySem.RV
namespace PV
open PySem PySem.Spec PyProof.Rows L2
section
variable {X:Cx}{Y:Fx}{a:Expr}{fa:En->R T}{pos p pt:Pos}{elts:List Expr}{kk:Nat}
end
end PV
namespace PySem.RW37
open PySem PySem.Spec PyProof.Rows L2
section
variable {X:Cx}{pos:Pos}
end
end PySem.RW37
namespace PV
open PySem PySem.Spec PyProof.Rows L2 PySem.RW37
section
variable {X:Cx}{Y:Fx}{pos:Pos}{a b c:Expr}
def KZ (fa:En->R T)(g:T->En->R En):En->RS:=λρ=>(fa ρ).s λt=>match g t ρ with
 | .ok ρ' => .nx ρ'
 | _=> .bad
theorem kN {tg:Expr}{fa:En->R T}{g:T->En->R En}(ha:Snd X Y a fa)(hg:kn X Y tg g)(hs:swapsWithSole [tg] a pos.line X.env=pure false:=by rfl)(hw:swappedStores [tg] a X.env=pure none:=by rfl)
  (h1:(assignEach [tg] X.env).map (·.2)=[assign tg X.env]:=by rfl):wH X Y (.Assign [tg] a pos) (KZ fa g):= .mk λρ=>by
 obtain⟨tt,hp,hr⟩:=hg;refine PS.imp (Xo (ha ρ) hp hs hw h1) λD σ H ⟨B,I,q⟩=>w9 I q λt v H1 _ s1 r1 I1 q1=>hr _ _ _ _ _ _ _ I1 r1 ?_;cases h:g t ρ with
 | ok ρ' =>
  rw[h]at q1;exact λσ' I' =>q1 _ _ _ (zw.refl _) I'
 | ex c=>rw[h]at q1;exact q1.elim
 | bad=>rw[h]at q1;exact q1.elim
end
end PV
namespace PV
open PySem PySem.Spec PyProof.Rows L2
def Jn (t t' :T):R T:=match t,t' with
 | .int i,.int j=> .ok (.int (if j > i then j else i))
 | _,_=> .bad
section
variable {X:Cx}{Y:Fx}{a b:Expr}{fa fb:En->R T}{pos p p' pos' pt:Pos}{elts:List Expr}{kk:Nat}
theorem kO (hc:X.calm=true)(gl:Gl X "max")(mg:X.mg "max"=none)(ha:Snd X Y a fa)(hb:Snd X Y b fb)
  (hs:starEach [a,b] X.env=[(false,eval a X.env),(false,eval b X.env)]:=by exact st2 rfl rfl) (hs2:starEach [b] X.env=[(false,eval b X.env)]:=by exact st1 rfl):
  Snd X Y (.Call (.Name "max" p) [a,b] [] pos) (zb Jn fa fb):= .mk λρ=>
 PE.imp (ZR (UX hc) gl mg PyProof.Rows.Boot.«max» (zu (ha ρ) (zu (hb ρ) Za hs2) (by rw[hs,hs2])) (by decide) (by decide) (by rw[hs,hs2]) (by rw[hs2];rfl)) λσ H Q ⟨B,I,q⟩=>
  step I q λt v H1 _ s1 r1 I1 q1=>step I1 q1 λt' v' H2 _ s2 r2 I2 q2=>by
   cases r1 with
   | int i=>
    cases r2 with
    | int j=>exact⟨i,j,rfl,po0 I2.sB q2 rfl (.int _)⟩
    | _=>exact q2.elim
   | _=>cases r2 <;> exact q2.elim
end
section
variable {X:Cx}{Y:Fx}{tg iter elt:Expr}{ifs:List Expr}{scope:Scope}{pos pos' :Pos}{N' :List Str}{k:Nat}{js:List Nat}{fi:En->R (List T)}{tG:TG}{g:T->En->R En}{ft:En->R Bool}{fe:En->R T}
end
section
variable {prog:Program}{w:World}{A:Around}{R:Result->Shared->Prop}{I:Addr}{fp wr:List Addr}{n:Nat}{P:Nat->Value->Prop}{St:Nat->Heap->Prop}
end
section
variable {prog:Program}{w:World}{A:Around}{E:Value->Shared->Prop}{s:Shared}{l:Addr}{xs:Array (Int×Tok)}
end
section
variable {X:Cx}{Y:Fx}{a b:Expr}{fa fb:En->R T}{pos p p' pos' pt kp:Pos}{elts:List Expr}{kk:Nat}
end
section
variable {prog:Program}{w:World}{K:Type}[DecidableEq K]{knd:KeyKind prog w K}{A:Around}{E:Value->Shared->Prop}{s:Shared}
end
section
variable {prog:Program}{w:World}{A:Around}{E:Value->Shared->Prop}{s:Shared}{I S:Addr}{i ep j:Nat}{o:Obj}{es:Array (Int×Value)}{t:SetTable}
end
section
variable {prog:Program}{w:World}{A:Around}{E:Value->Shared->Prop}{s:Shared}{I S P:Addr}{i ep j:Nat}{es:Array (Int×Value)}{t:SetTable}
end
section
variable {prog:Program}{w:World}{A:Around}{E:Value->Shared->Prop}{s:Shared}{S:Addr}{ep:Nat}{es:Array (Int×Value)}{t:SetTable}
end
section
variable {prog:Program}{w:World}{A:Around}{E:Value->Shared->Prop}{s:Shared}{S:Addr}
end
section
variable {prog:Program}{w:World}{A:Around}{R:Result->Shared->Prop}{I:Addr}{fp wr:List Addr}{n:Nat}{P:Nat->Value->Prop}{St:Nat->Heap->Prop}
end
section
variable {prog:Program}{w:World}{A:Around}{E:Value->Shared->Prop}{s:Shared}
end
section
variable {prog:Program}{w:World}{A:Around}{E:Value->Shared->Prop}{s:Shared}{S:Addr}
end
section
variable {X:Cx}{Y:Fx}{a b:Expr}{fa fb:En->R T}{pos pos' p p' :Pos}
end
section
variable {X:Cx}{Y:Fx}{a b:Expr}{fa fb:En->R T}{pos:Pos}
end
section
variable {X:Cx}{Y:Fx}{a b:Expr}{fa fb:En->R T}{pos:Pos}
end
section
variable {prog:Program}{w:World}{A:Around}{E:Value->Shared->Prop}{s:Shared}
end
section
variable {prog:Program}{w:World}{A:Around}{E:Value->Shared->Prop}{s:Shared}
end
section
variable {prog:Program}{w:World}{A:Around}{R:Result->Shared->Prop}{I:Addr}{fp wr:List Addr}{n:Nat}{P:Nat->Value->Prop}{St:Nat->Heap->Prop}
end
section
variable {prog:Program}{w:World}{A:Around}{E:Value->Shared->Prop}{s:Shared}
end
section
variable {X:Cx}{Y:Fx}{a b:Expr}{fa fb:En->R T}{pos pos' p p' :Pos}
end
section
variable {X:Cx}{Y:Fx}{a:Expr}{fa:En->R T}{pos pos' p p' :Pos}
end
def qu:T->T->R T
 | .tup ts,.int k=>if k=1/\ts ≠ [] then .ok (.tup ts) else Z0 (.tup ts) (.int k)
 | _,_=> .bad
theorem Ur (l:Addr)(items:Array Value)(n:Nat)(dd:Option Addr)(sl:Array (Option Value))(u:Tok):
  Meets (Builtin.«tuple.__mul__» ⟨[.ref l,.int 1 u],[]⟩) (λ_ R s=>s.heap.get? l=some { cls:= .type "tuple",dict:=dd,data:= .seq items n,slots:=sl }/\R (.ok (.ret (Value.ref l))) s):=
 .of_wp λprog w A R s h=>by
  obtain⟨hp,g,d,tk,os⟩:=s;obtain⟨hl,h⟩:=h;have f1:=il;unfold Builtin.«tuple.__mul__»
  wp_walk using wpAny_loadPart' hl
  exact⟨_,rfl,h⟩
theorem Q9 {prog:Program}{w:World}{A:Around}{E:Value->Shared->Prop}{s:Shared}{l:Addr}{its:List Value}{t:Tok}{Q:Value->Shared->Prop}(p:IsTup s.heap l its.toArray)(q:Q (.ref l) s):
  wpAny (model prog w) A (binaryOp .Mult (.ref l) (.int 1 t)) Q E s:=by
 obtain⟨⟨cls,dd,data,sl⟩,ho,hc,n,hd⟩:=id p;simp only at hc hd;subst hc hd;exact wpAny_binaryOp_repeat_ref (T:="tuple") (U:="int") (by decide) ⟨_,ho,rfl⟩ (λs' =>dE s' 1 t) j3 fD cI J8 eX.lookup
  (cD cI (dE s 1 t) eY (eM _ _) (jr 1 t l its.toArray n dd sl)
   ⟨ho,rfl,⟨_,ho,rfl⟩,cD dG ⟨_,ho,rfl⟩ ic (hU _ _) (Ur l its.toArray n dd sl t) ⟨ho,q⟩⟩)
section
variable {X:Cx}{Y:Fx}{a b:Expr}{fa fb:En->R T}{pos:Pos}
theorem x9:OpR X (binaryOp .Mult) (rG Y qu):=by
 intro pins s σ H x y v u Q I rx ry h;obtain⟨B,t,t',sB,r,r',q⟩:=id h;cases r with
 | @tup l xs ts h1 r1=>
  cases r' with
  | int k=>
   by_cases hk:k=1/\ts ≠ []
   ·have eg:qu (.tup ts) (.int k)= .ok (.tup ts):=if_pos hk;obtain rfl:v=Value.ref l:=rx;obtain⟨tk,rfl⟩:=ry;obtain⟨rfl,_⟩:=hk;obtain⟨its,rv,p,_⟩:=I.tuple (SqT.of (sB _ _ h1));exact Q9 p ⟨.ref l,H,I,rfl,po0 sB q eg (.tup h1 r1)⟩
   ·have eg:qu (.tup ts) (.int k)=Z0 (.tup ts) (.int k):=if_neg hk;rw[eg]at q;exact yl pins s σ H _ _ v u Q I rx ry ⟨B,.tup ts,.int k,sB,.tup h1 r1,.int k,q⟩
  | _=>exact q.elim
 | _=>cases r' <;> exact q.elim
theorem GR (ha:Snd X Y a fa)(hb:Snd X Y b fb):Snd X Y (.BinOp a .Mult b pos) (zb qu fa fb):=Ul x9 ha hb
end
theorem vm {α β:Type}(f:α->Option β)(g:α->β):∀l:List α,(∀x∈l,f x=some (g x))->l.filterMap f=l.map g
 | [],_=>rfl
 | x :: l,h=>by
  rw[List.filterMap_cons_some (h x ah),vm f g l λy hy=>h y (ae _ hy),aB]
section
variable {X:Cx}{Y:Fx}{a:Expr}{fa:En->R T}{pos p2 p3 p4:Pos}{kc:Nat}
end
end PV
namespace PySem.RV
open PySem PySem.Spec PyProof.Rows PySem.Builtin.SmallTypes
section
variable {prog:Program}{w:World}{A:Around}{E:Value->Shared->Prop}{s:Shared}{I l:Addr}{xs:Array Value}
end
end PySem.RV
namespace PV
open PySem PySem.Spec PyProof.Rows L2
section
variable {X:Cx}{Y:Fx}{a:Expr}{fa:En->R T}{pos p p' pos' :Pos}
end
section
variable {X:Cx}{Y:Fx}{a b c:Expr}{fa fb fc:En->R T}{pos p:Pos}
section
variable {pa:Pos}
end
end
def xa (i:Int):Str:=aO (toString i)
def txO:T->Option Str
 | .int i=>if i.natAbs < 1000000 then some (xa i) else none
 | .str x=>if x.length<=1000000 then some x else none
 | _=>none
def txV:V->Option Str
 | .int i=>if i.natAbs < 1000000 then some (xa i) else none
 | .str x=>if x.length<=1000000 then some x else none
 | _=>none
def vn (t:T):R T:=match txO t with
 | some x=> .ok (.str x)
 | none=> .bad
def rdI (x:Str):Option Int:=((aC 199).map λ(k:Nat)=>(k:Int) - 99).find? λn=>xa n == x
theorem Wr {i:Int}(h:i.natAbs < 1000000):i.natAbs.log2 < 1920:=by
 by_cases h0:i.natAbs=0
 ·rw[h0];decide
 ·have:i.natAbs.log2 < 20:=(Nat.log2_lt h0).mpr (by omega)
  omega
section
variable {X:Cx}{Y:Fx}{a b c:Expr}{fa fb fc:En->R T}{pos p p1 p2 p3:Pos}{kc:Nat}
theorem Qa:ZB X (.type "str") (λxs H Q=>∃v x,xs=[v]/\txV v=some x/\Q (.str x) H):=by
 intro pins s σ H xs us Q I r h;obtain⟨v,x,rfl,e,q⟩:=h;obtain⟨u,rfl,ru⟩:=j7 r;unfold txV at e;split at e
 ·split at e
  ·rename_i i hi;obtain⟨t,rfl⟩:=ru;cases e;exact P.str_of_int (Wr hi) ⟨.str _,H,I.tok _,⟨_,rfl⟩,q⟩
  ·cases e
 ·split at e
  ·obtain⟨t,rfl⟩:=ru;cases e;exact P.str_of_str ⟨.str _,H,I,⟨_,rfl⟩,q⟩
  ·cases e
 ·cases e
theorem kP {H:Hp}{v:V}{t:T}{x:Str}(r:Rep H v t)(e:txO t=some x):txV v=some x:=by
 cases r with
 | int i=>exact e
 | str y=>exact e
 | _=>cases e
end
section
variable {X:Cx}{Y:Fx}{a:Expr}{fa:En->R T}{pos p pt:Pos}{elts:List Expr}{kk:Nat}
end
end PV
namespace PV
open PySem PySem.W PyProof.Rows
section
variable {α β:Type}
def Gd (lt:Nat->Nat->Bool)(n:Nat):KasT α->(α->Prop)->Prop
 | .ret a,P=>P a
 | .ask i j k,P=>(i < n/\j < n/\i ≠ j)/\Gd lt n (k (lt i j)) P
theorem Gd.mono {lt:Nat->Nat->Bool}{n:Nat}{P P' :α->Prop}(h:∀a,P a->P' a):∀(t:KasT α),Gd lt n t P->Gd lt n t P'
 | .ret a,g=>h a g
 | .ask i j k,⟨h1,g⟩=>⟨h1,Gd.mono h _ g⟩
theorem Gd.bind {lt:Nat->Nat->Bool}{n:Nat}{P:β->Prop}{f:α->KasT β}:∀(t:KasT α),Gd lt n t (λa=>Gd lt n (f a) P)->Gd lt n (t.bind f) P
 | .ret a,g=>g
 | .ask i j k,⟨h1,g⟩=>⟨h1,Gd.bind _ g⟩
theorem Gd.wp {lt:Nat->Nat->Bool}{n:Nat}{cmp:Nat->Nat->(Bool->Shared->Prop)->Shared->Prop}{J:Shared->Prop}(ha:∀i j C s,i < n->j < n->i ≠ j->J s->(∀s',J s' ->C (lt i j) s')->cmp i j C s){P:α->Prop}{Q:α->Shared->Prop}(hq:∀a s,P a->J s->Q a s):∀(t:KasT α) (s:Shared),Gd lt n t P->J s->t.kasWp cmp Q s
 | .ret a,s,g,j=>hq a s g j
 | .ask i j k,s,⟨⟨h1,h2,h3⟩,g⟩,js=>ha i j _ s h1 h2 h3 js λs' js' =>Gd.wp ha hq _ s' g js'
end
section
variable {O:KeyOrd}{n:Nat}{key:Nat->O.α}
abbrev kp (key:Nat->O.α)(p:Array Nat)(i:Nat):O.α:=key (p.getD i 0)
structure Pm (n:Nat) (p:Array Nat):Prop where
 sz:p.size=n
 pm:p.toList.Perm (aC n)
theorem Pm.lt {p:Array Nat}(h:Pm n p){i:Nat}(hi:i < n):p.getD i 0 < n:=by
 have hs:i < p.size:=by rw[h.sz];exact hi
 have e:p.getD i 0=p[i]:=by simp[d_,hs]
 rw[e];exact ba.mp (h.pm.mem_iff.mp (Array.getElem_mem_toList hs))
theorem Pm.inj {p:Array Nat}(h:Pm n p){i j:Nat}(hi:i < n)(hj:j < n)(e:p.getD i 0=p.getD j 0):i=j:=by
 have hs:i < p.size:=by rw[h.sz];exact hi
 have hs' :j < p.size:=by rw[h.sz];exact hj
 have e1:p.getD i 0=p[i]:=by simp[d_,hs]
 have e2:p.getD j 0=p[j]:=by simp[d_,hs']
 rw[e1,e2]at e;have nd:p.toList.Nodup:=h.pm.nodup_iff.mpr fj;have:=(cv (i:=i) (j:=j) (h₀:=by simpa using hs) (h₁:=by simpa using hs') nd).mp (by simpa using e)
 exact this
def So (key:Nat->O.α)(p:Array Nat)(m:Nat):Prop:=∀i j,i < j->j < m->O.klt (kp key p i) (kp key p j)
theorem wL {p q:Array Nat}{i j:Nat}(h:p[i]? =q[j]?):p.getD i 0=q.getD j 0:=by
 have e:∀(a:Array Nat) (k:Nat),a.getD k 0=(a[k]?).getD 0:=λa k=>by simp
 rw[e,e,h]
variable (hk:∀i j,i < n->j < n->key i=key j->i=j)
include hk
theorem xb {p:Array Nat}(h:Pm n p){i j:Nat}(hi:i < n)(hj:j < n)(hij:i ≠ j)(hf:O.blt (kp key p i) (kp key p j)=false):O.klt (kp key p j) (kp key p i):=by
 cases q:O.blt (kp key p j) (kp key p i) with
 | true=>exact q
 | false=>exact absurd (h.inj hi hj (hk _ _ (h.lt hi) (h.lt hj) (O.total _ _ hf q))) hij
omit hk in
theorem So.snoc {p:Array Nat}{m:Nat}(h:So key p m)(h1:1<=m)(hl:O.klt (kp key p (m - 1)) (kp key p m)):So key p (m+1):=λi j hij hj=>by
 by_cases hjm:j=m
 ·subst hjm
  by_cases him:i=j - 1
  ·rw[him];exact hl
  ·exact cu (h i (j - 1) (by omega) (by omega)) (dB hl)
 ·exact h i j hij (by omega)
theorem yT {p:Array Nat}(hp:Pm n p):∀(f m:Nat),1<=m->m+f=n->So key p m->Gd (λi j=>O.blt (key i) (key j)) n (kas_asc p f m) λr=>m<=r/\r<=n/\So key p r/\(r < n->O.klt (kp key p r) (kp key p (r - 1)))
 | 0,m,_,hm,h=>⟨am _,by omega,h,λz=>by omega⟩
 | f+1,m,h1,hm,h=>by
  refine⟨⟨hp.lt (by omega),hp.lt (by omega),λz=>absurd (hp.inj (by omega) (by omega) z) (by omega)⟩, ?_⟩
  show Gd _ n (if O.blt (kp key p m) (kp key p (m - 1))=true then .ret m else kas_asc p f (m+1)) _
  cases q:O.blt (kp key p m) (kp key p (m - 1)) with
  | true=>exact⟨am _,by omega,h,λ_=>q⟩
  | false=>
   rw[if_neg (by simp)]
   exact Gd.mono (λr ⟨a,b,c⟩=>⟨by omega,b,c⟩) _ (yT hp f (m+1) (by omega) (by omega) (h.snoc h1 (xb hk hp (by omega) (by omega) (by omega) q)))
def De (key:Nat->O.α)(p:Array Nat)(m:Nat):Prop:=∀i j,i < j->j < m->O.klt (kp key p j) (kp key p i)
theorem yU {p:Array Nat}(hp:Pm n p):∀(f m:Nat),2<=m->m+f=n->De key p m->Gd (λi j=>O.blt (key i) (key j)) n (kas_desc f p m 0) λr=>r.1=p/\r.2.2=0/\m<=r.2.1/\r.2.1<=n/\De key p r.2.1
 | 0,m,_,hm,h=>⟨rfl,rfl,am _,by show m<=n;omega,h⟩
 | f+1,m,h1,hm,h=>by
  refine⟨⟨hp.lt (by omega),hp.lt (by omega),λz=>absurd (hp.inj (by omega) (by omega) z) (by omega)⟩, ?_⟩
  show Gd _ n (if O.blt (kp key p m) (kp key p (m - 1))=true then (if 0 > 0 then kas_desc f (kas_rev p (m - (0+1)) m) (m+1) 0 else kas_desc f p (m+1) 0) else .ask (p.getD (m - 1) 0) (p.getD m 0) λd=>if d=true then .ret (p,m,0) else kas_desc f p (m+1) (0+1)) _
  cases q:O.blt (kp key p m) (kp key p (m - 1)) with
  | true=>
   rw[if_pos rfl,if_neg (by omega)]
   refine Gd.mono (λr ⟨a,b,c,d⟩=>⟨a,b,by omega,d⟩) _ (yU hp f (m+1) (by omega) (by omega) λi j hij hj=> ?_)
   by_cases hjm:j=m
   ·subst hjm
    by_cases him:i=j - 1
    ·rw[him];exact q
    ·exact cu (show O.klt (kp key p j) (kp key p (j - 1)) from q) (dB (h i (j - 1) (by omega) (by omega)))
   ·exact h i j hij (by omega)
  | false=>
   rw[if_neg (by simp)]
   refine⟨⟨hp.lt (by omega),hp.lt (by omega),λz=>absurd (hp.inj (by omega) (by omega) z) (by omega)⟩, ?_⟩
   have q2:O.blt (kp key p (m - 1)) (kp key p m)=true:=xb hk hp (by omega) (by omega) (by omega) q
   show Gd _ n (if O.blt (kp key p (m - 1)) (kp key p m)=true then .ret (p,m,0) else _) _
   rw[if_pos q2];exact⟨rfl,rfl,am _,by show m<=n;omega,h⟩
omit hk in
theorem vo {p:Array Nat}(hp:Pm n p)(i j:Nat):Pm n (kas_rev p i j):=⟨(mirror_size _ _ _ _).trans hp.sz,(e9.mp (mirror_perm p i j _)).trans hp.pm⟩
omit hk in
theorem yV {p:Array Nat}(hp:Pm n p){m k:Nat}(hm:m<=n)(hk' :k < m):(kas_rev p 0 m).getD k 0=p.getD (m - 1 - k) 0:=by
 refine wL ?_;unfold kas_rev;rw[getElem?_mirror_all (by rw[hp.sz];exact hm),if_pos ⟨bT _,hk'⟩]
 congr 1
 omega
theorem Jq {p:Array Nat}(hp:Pm n p)(h2:2<=n):Gd (λi j=>O.blt (key i) (key j)) n (kas_count n p) λr=>1<=r.1/\r.1<=n/\Pm n r.2/\So key r.2 r.1:=by
 unfold kas_count;refine Gd.bind _ (Gd.mono (λm ⟨a,b,c,d⟩=> ?_) _ (yT hk hp (n - 1) 1 (am _) (by omega) λi j hij hj=>by omega))
 by_cases hmn:m=n
 ·rw[if_pos (by simpa using hmn)]
  exact⟨a,b,hp,c⟩
 ·rw[if_neg (by simpa using hmn)]
  by_cases hm1:m > 1
  ·rw[if_pos hm1];refine⟨⟨hp.lt (by omega),hp.lt (by omega),λz=>absurd (hp.inj (by omega) (by omega) z) (by omega)⟩, ?_⟩
   have q:O.blt (kp key p 0) (kp key p (m - 1))=true:=c 0 (m - 1) (by omega) (by omega)
   show Gd _ n (if O.blt (kp key p 0) (kp key p (m - 1))=true then .ret (m,p) else _) _
   rw[if_pos q];exact⟨a,b,hp,c⟩
  ·rw[if_neg hm1];have e:m=1:=by omega
   subst e;unfold kas_descPart;have d1:=d (by omega)
   refine Gd.bind _ (Gd.mono (λr ⟨r1,r2,r3,r4,r5⟩=> ?_) _ (yU hk hp (n - (1+1)) (1+1) (by omega) (by omega) λi j hij hj=>by
    have:i=0/\j=1:=by omega
    rw[this.1,this.2];exact d1))
   rw[r2,if_neg (by omega),r1]
   unfold kas_tail3;refine Gd.bind _ (Gd.mono (λm' ⟨x1,x2,x3,_⟩=>⟨by show 1<=m';omega,x2,vo hp 0 r.2.1,x3⟩) _ (yT hk (vo hp 0 r.2.1) (n - r.2.1) r.2.1 (by omega) (by omega) λi j hij hj=> ?_))
   unfold kp;rw[yV hp r4 (by omega),yV hp r4 hj]
   exact r5 _ _ (by omega) (by omega)
theorem wM {p:Array Nat}(hp:Pm n p){k:Nat}(hkn:k < n)(hs:So key p k):∀(f l r:Nat),r<=k->l<=r->r - l<=f->(∀i,i < l->O.klt (kp key p i) (kp key p k))->(∀i,r<=i->i < k->O.klt (kp key p k) (kp key p i))->
  Gd (λi j=>O.blt (key i) (key j)) n (kas_place p k f l r) λm=>m<=k/\(∀i,i < m->O.klt (kp key p i) (kp key p k))/\∀i,m<=i->i < k->O.klt (kp key p k) (kp key p i)
 | 0,l,r,h1,h2,h3,h4,h5=>⟨by omega,h4,λi hi hik=>h5 i (by omega) hik⟩
 | f+1,l,r,h1,h2,h3,h4,h5=>by
  unfold kas_place
  by_cases hlr:l ≥ r
  ·rw[if_pos hlr];exact⟨by omega,h4,λi hi hik=>h5 i (by omega) hik⟩
  ·rw[if_neg hlr];refine⟨⟨hp.lt hkn,hp.lt (by omega),λz=>absurd (hp.inj hkn (by omega) z) (by omega)⟩, ?_⟩
   show Gd _ n (if O.blt (kp key p k) (kp key p ((l+r) / 2))=true then kas_place p k f l ((l+r) / 2) else kas_place p k f ((l+r) / 2+1) r) _
   cases q:O.blt (kp key p k) (kp key p ((l+r) / 2)) with
   | true=>
    rw[if_pos rfl];refine wM hp hkn hs f l ((l+r) / 2) (by omega) (by omega) (by omega) h4 λi hi hik=> ?_
    by_cases e:i=(l+r) / 2
    ·rw[e];exact q
    ·exact cu (show O.klt _ _ from q) (dB (hs _ _ (by omega) hik))
   | false=>
    rw[if_neg (by simp)]
    refine wM hp hkn hs f ((l+r) / 2+1) r h1 (by omega) (by omega) (λi hi=> ?_) h5
    have ql:=xb hk hp hkn (show (l+r) / 2 < n by omega) (by omega) q
    by_cases e:i=(l+r) / 2
    ·rw[e];exact ql
    ·exact cu (hs _ _ (by omega) (by omega)) (dB ql)
omit hk in
theorem yW {p:Array Nat}(hp:Pm n p){k l i:Nat}(hkn:k < n)(hl:l<=k):(bubble p k (k - l)).getD i 0=if i=l then p.getD k 0 else if l < i/\i<=k then p.getD (i - 1) 0 else p.getD i 0:=by
 have h:=getElem?_bubble (xs:=p) (src:=k) (by rw[hp.sz];exact hkn) (k - l) (by omega) i
 rw[show k - (k - l)=l by omega]at h
 repeat' split at h
 all_goals first | (rw[if_pos (by assumption)];exact wL h) | (rw[if_neg (by assumption),if_pos (by assumption)];exact wL h) | (rw[if_neg (by assumption),if_neg (by assumption)];exact wL h)
theorem vp:∀(f:Nat) (p:Array Nat) (k:Nat),Pm n p->k+f=n->So key p k->Gd (λi j=>O.blt (key i) (key j)) n (kas_bin f p k) λq=>Pm n q/\So key q n
 | 0,p,k,hp,hkf,h=>⟨hp,by rw[← hkf];exact h⟩
 | f+1,p,k,hp,hkf,h=>by
  unfold kas_bin;refine Gd.bind _ (Gd.mono (λl ⟨a,b,c⟩=> ?_) _ (wM hk hp (show k < n by omega) h k 0 k (am _) (bT _) (by omega) (λi hi=>by omega) λi hi hik=>by omega))
  refine vp f (bubble p k (k - l)) (k+1) ⟨(bubble_size _ _ _).trans hp.sz,(e9.mp (bubble_perm p k (k - l))).trans hp.pm⟩ (by omega) λi j hij hj=> ?_
  unfold kp;rw[yW hp (by omega) a,yW hp (by omega) a]
  by_cases hi:i=l
  ·rw[if_pos hi,if_neg (by omega),if_pos ⟨by omega,by omega⟩]
   exact c _ (by omega) (by omega)
  ·rw[if_neg hi]
   by_cases hj' :j=l
   ·rw[if_pos hj',if_neg (by omega)]
    exact b i (by omega)
   ·rw[if_neg hj']
    by_cases x:l < i/\i<=k
    ·rw[if_pos x,if_pos ⟨by omega,by omega⟩]
     exact h _ _ (by omega) (by omega)
    ·rw[if_neg x]
     by_cases y:l < j/\j<=k
     ·rw[if_pos y];exact h _ _ (by omega) (by omega)
     ·rw[if_neg y];exact h _ _ hij (by omega)
theorem xf (h2:2<=n):Gd (λi j=>O.blt (key i) (key j)) n (kas_sort n) λq=>Pm n q/\So key q n:=by
 unfold kas_sort;refine Gd.bind _ (Gd.mono (λr ⟨a,b,c,d⟩=> ?_) _ (Jq hk ⟨by simp,by simp⟩ h2))
 by_cases h:r.1 < n
 ·rw[if_pos h,show max r.1 1=r.1 by omega]
  exact vp hk _ _ _ c (by omega) d
 ·rw[if_neg h];exact⟨c,by rw[show n=r.1 by omega];exact d⟩
end
end PV
namespace PV
open PySem PySem.Spec PyProof.Rows L2
mutual
def toD:T->PyData
 | .non=> .none
 | .bl b=> .bool b
 | .int i=> .int i
 | .str x=> .str x
 | .tup xs=> .tuple (u8 xs)
 | .lst xs=> .list (u8 xs)
 | .fz xs=> .list (u8 xs)
def u8:List T->List PyData
 | []=>[]
 | x :: xs=>toD x :: u8 xs
end
mutual
def okD:T->Bool
 | .non=>true
 | .bl _=>true
 | .int i=>decide (i.natAbs < 1000000)
 | .str _=>true
 | .tup xs=>yX xs
 | .lst _=>false
 | .fz _=>false
def yX:List T->Bool
 | []=>true
 | x :: xs=>okD x && yX xs
end
def Ws (t:T):R T:=match t with
 | .tup xs=>if yX xs=true/\(toD (.tup xs)).depth<=20/\(toD (.tup xs)).shown.length<=10000 then .ok (.str (toD (.tup xs)).shown) else .bad
 | t=>vn t
section
variable {P:Program}{w:World}{H:Hp}{h:Heap}
mutual
theorem uP (hk:HOk P w H h):∀(t:T) (v:V) (u:Value),Rep H v t->okD t=true->L2.RelV v u->∃as,Reads h u (toD t) as
 | .non,_,_,.non,_,ru=>by
  obtain rfl:_=Value.none:=ru;exact⟨_,by rw[toD];exact .none⟩
 | .bl b,_,_,.bl _,_,ru=>by
  obtain rfl:_=Value.bool b:=ru;exact⟨_,by rw[toD];exact .bool b⟩
 | .int i,_,_,.int _,_,ru=>by
  obtain⟨t,rfl⟩:=ru;exact⟨_,by rw[toD];exact .int i t⟩
 | .str x,_,_,.str _,_,ru=>by
  obtain⟨t,rfl⟩:=ru;exact⟨_,by rw[toD];exact .str x t⟩
 | .tup ts,_,u,.tup (a:=l) e r,ho,ru=>by
  obtain rfl:u=Value.ref l:=ru;rw[okD]at ho;obtain⟨_,its,rv,⟨o,e1,e2,n,e3⟩,_⟩:=hk l _ e;obtain⟨as,ra⟩:=Wu hk ts _ its r ho rv;exact⟨as,by rw[toD];exact .tuple e1 e2 e3 (by simpa using ra)⟩
 | .lst _,_,_,_,ho,_=>by rw[okD]at ho;cases ho
 | .fz _,_,_,_,ho,_=>by rw[okD]at ho;cases ho
theorem Wu (hk:HOk P w H h):∀(ts:List T) (vs:List V) (us:List Value),zH H vs ts->yX ts=true->L2.Vals vs us->∃as,ReadsAll h us (u8 ts) as
 | [],_,_,.nil,_,.nil=>⟨_,by rw[u8];exact .nil⟩
 | t :: ts,_,_,.cons r rs,ho,.cons rv rvs=>by
  rw[yX,af]at ho;obtain⟨as,h1⟩:=uP hk t _ _ r ho.1 rv;obtain⟨bs,h2⟩:=Wu hk ts _ _ rs ho.2 rvs;exact⟨_,by rw[u8];exact .cons h1 h2⟩
end
mutual
theorem yY:∀t:T,okD t=true->(toD t).showable=true/\(toD t).hasDict=false
 | .non,_=>by rw[toD];exact⟨by simp only[de],by simp only[dC]⟩
 | .bl b,_=>by rw[toD];exact⟨by simp only[de],by simp only[dC]⟩
 | .int i,ho=>by
  rw[okD,decide_eq_true_eq]at ho;rw[toD];exact⟨by simp only[de];exact decide_eq_true (Wr ho),by simp only[dC]⟩
 | .str x,_=>by rw[toD];exact⟨by simp only[de],by simp only[dC]⟩
 | .tup ts,ho=>by
  rw[okD]at ho;obtain⟨a,b⟩:=uQ ts ho;rw[toD];exact⟨by simp only[de];exact a,by simp only[dC];exact b⟩
 | .lst _,ho=>by rw[okD]at ho;cases ho
 | .fz _,ho=>by rw[okD]at ho;cases ho
theorem uQ:∀ts:List T,yX ts=true->eA (u8 ts)=true/\eO (u8 ts)=false
 | [],_=>by rw[u8];exact⟨by simp only[eA],by simp only[eO]⟩
 | t :: ts,ho=>by
  rw[yX,af]at ho;obtain⟨a1,b1⟩:=yY t ho.1;obtain⟨a2,b2⟩:=uQ ts ho.2;rw[u8];exact⟨by simp only[eA,a1,a2,Bool.and_self],by simp only[eO,b1,b2,Bool.or_self]⟩
end
end
section
variable {X:Cx}{Y:Fx}{a:Expr}{fa:En->R T}{p pos:Pos}
theorem yZ {k:Nat}(hr:jv k X.A):ZB X (.type "str") (λxs H Q=>(∃v x,xs=[v]/\txV v=some x/\Q (.str x) H)\/∃a ts,xs=[.ref a]/\Rep H (.ref a) (.tup ts)/\yX ts=true/\(toD (.tup ts)).depth<=20/\(toD (.tup ts)).shown.length<=10000/\Q (.str (toD (.tup ts)).shown) H):=by
 intro pins s σ H xs us Q I r h;rcases h with h | ⟨a,ts,rfl,rp,ho,hd,hl,q⟩
 ·exact Qa pins s σ H xs us Q I r h
 ·obtain⟨u,rfl,ru⟩:=j7 r;obtain rfl:u=Value.ref a:=ru;have ho' :okD (.tup ts)=true:=by rw[okD];exact ho
  obtain⟨as,rd⟩:=uP I.hok (.tup ts) (.ref a) (.ref a) rp ho' rfl;obtain⟨s1,s2⟩:=yY (.tup ts) ho';have hu:=hr.units;refine str_of_reads rd s1 (λz=>by rw[s2]at z;cases z) hr.gd (by omega) (λ_ _ e=>e) (λh' u tk hk=>⟨.str _,H,I.kept hk,⟨u,rfl⟩,q⟩) (aq hl (by decide))
theorem kQ {k:Nat}(hr:jv k X.A)(gl:Gl X "str")(mg:X.mg "str"=none)(ha:Snd X Y a fa)(hs:St1 X a:=by exact st1 rfl):Snd X Y (.Call (.Name "str" p) [a] [] pos) (ap1 Ws fa):=
 yu (yZ hr) (λv t B H Q r sB q=>by
  unfold Ws at q;split at q
  ·rename_i xs;split at q
   ·rename_i hc;cases r with
    | @tup l ys _ e rr=>exact .inr ⟨l,xs,rfl,(Rep.tup e rr).mono sB,hc.1,hc.2.1,hc.2.2,po0 sB q rfl (.str _)⟩
   ·exact q.elim
  ·rename_i t' _;unfold vn at q;split at q
   ·rename_i x e;exact .inl ⟨v,x,rfl,kP r e,po0 sB q rfl (.str _)⟩
   ·exact q.elim) gl mg (PyProof.Rows.Boot.«str») ha hs
end
def kkT:T->List Nat
 | .tup [.str x,_]=>x.cps.toList
 | _=>[]
def X4:T->Bool
 | .tup [.str _,_]=>true
 | _=>false
def leP (a b:T):Bool:= !decide (kkT b < kkT a)
def WR (ts:List T):List T:=ts.mergeSort leP
def uR:T->R T
 | .lst ts=>if ts.all X4=true/\(ts.map kkT).Nodup/\(ts.length < 64\/ts.length=64/\(ts.map kkT).Pairwise (· < ·)) then .ok (.lst (WR ts)) else .bad
 | _=> .bad
theorem JH (a b:T):leP a b=true↔kkT a<=kkT b:=by
 unfold leP;rw[eP,decide_eq_false_iff_not,iB]
theorem Wv (ts:List T):(WR ts).Perm ts:=fS _ _
theorem xg (ts:List T):(WR ts).Pairwise λa b=>leP a b=true:=fk (λa b c h1 h2=>by
 rw[JH]at*;exact List.le_trans h1 h2) (λa b=>by
 rw[dL,JH,JH];exact List.le_total _ _) ts
theorem Y0 {l ts:List T}(hp:l.Perm ts)(hn:(ts.map kkT).Nodup)(hw:l.Pairwise λa b=>leP a b=true):l=WR ts:=by
 refine eT (le:=λa b=>leP a b=true) (λa b ha hb h1 h2=> ?_) hw (xg ts) (hp.trans (Wv ts).symm);rw[JH]at h1 h2;have e:kkT a=kkT b:=ir h1 h2;have ha' :=hp.mem_iff.mp ha;have hb' :=(Wv ts).mem_iff.mp hb;obtain⟨i,hi,rfl⟩:=bJ.mp ha';obtain⟨j,hj,rfl⟩:=bJ.mp hb';have:=(cv (i:=i) (j:=j) (h₀:=by simpa using hi) (h₁:=by simpa using hj) hn).mp (by simpa using e)
 subst this;rfl
section
open PySem.W PySem.Calls
variable {O:KeyOrd}{n:Nat}{key:Nat->O.α}
theorem Y1 (hs:∀i,i+1 < n->O.blt (key (i+1)) (key i)=false):∀(f m:Nat),1<=m->m+f=n->Gd (λi j=>O.blt (key i) (key j)) n (kas_asc (bw (aC n)) f m) λq=>q=n
 | 0,m,_,h=>by show m=n;omega
 | f+1,m,h1,h=>by
  have g:∀i,i < n->(bw (aC n)).getD i 0=i:=λi hi=>by simp[d_,hi]
  unfold kas_asc;rw[g m (by omega),g (m - 1) (by omega)]
  refine⟨⟨by omega,by omega,by omega⟩, ?_⟩
  have e:=hs (m - 1) (by omega)
  rw[show m - 1+1=m by omega]at e
  dsimp only;rw[e,if_neg ao];exact Y1 hs f (m+1) (by omega) (by omega)
theorem Y2 (hs:∀i,i+1 < n->O.blt (key (i+1)) (key i)=false)(h2:2<=n):Gd (λi j=>O.blt (key i) (key j)) n (kas_count n (bw (aC n))) λr=>r.1=n/\r.2=bw (aC n):=by
 unfold kas_count;refine Gd.bind _ (Gd.mono (λm hm=> ?_) _ (Y1 hs (n - 1) 1 (by omega) (by omega)))
 subst hm;rw[if_pos (by simp)]
 exact⟨rfl,rfl⟩
end
section
variable {prog:Program}{w:World}{A:Around}{E:Value->Shared->Prop}{s:Shared}
open PySem.W PySem.Calls
theorem Qb {κ:SortKind}{it:Array Keyed}{n:Nat}{Q:Unit->SortSt->Shared->Prop}{G:Array Nat->Shared->Prop}(h2:2<=n)(h64:minRun' n n 0<=n)
  (hG:∀p' st' s',p'.size=n->arrOf st' =p'.map (kas_item it)->failedOf st' =none->G p' s' ->Q () st' s') (h:(kas_count n (bw (aC n))).kasWp (kas_cmp prog w A κ it) (λr s' =>r.1=n/\G r.2 s') s):
  kasC (model prog w) A E sortRuns' Q (kas_st κ it (bw (aC n))) s:=by
 obtain⟨r,rfl⟩:∃r,n=r+2:=⟨n - 2,by omega⟩
 have hrs:(bw (aC (r+2))).size=r+2:=by simp
 rw[sortRuns'_eq];refine kasC_bind (kasC_get ?_);dsimp only;have hsz:(arrOf (kas_st κ it (bw (aC (r+2))))).size=r+2:=by
  show ((bw (aC (r+2))).map (kas_item it)).size=_;rw[Array.size_map,hrs]
 simp only[hsz];generalize minRun' (r+2) (r+2) 0=mr at h64 ⊢;refine kasC_bind (kasC_range ?_);show kasC _ _ _ (forIn (0 :: 1 :: dI 2 r) _ _) _ _ _;refine kasC_cons ?_;dsimp only;rw[if_neg (by omega)]
 simp only[fA,ie];refine kasC_bind (kas_count_ (by omega) (by rw[hrs];exact am _) (λm p' s' hm1 hm2 hp hg=> ?_) h)
 have hps:p'.size=r+2:=hp.trans hrs;obtain⟨hm,hg'⟩:=hg;have hm:m=r+2:=hm;subst hm;dsimp only;rw[if_neg (by omega)]
 refine kasC_bind (kasC_get ?_);rw[show (pendingOf (kas_st κ it p')).back? =none from rfl];dsimp only;refine kasC_bind (kasC_modify (kasC_pure ?_));show kasC _ _ _ (forIn (1 :: dI 2 r) _ _) _ _ _;refine kasC_cons ?_;dsimp only;rw[if_pos (am _)];refine kasC_pure ?_;dsimp only;refine kasC_bind (kasC_range ?_);show kasC _ _ _ (forIn (0 :: 1 :: dI 2 r) _ _) _ _ _;refine kasC_cons ?_;refine kasC_bind (kasC_get ?_);rw[if_pos (show (pendingOf (setPending (kas_st κ it p') ((pendingOf (kas_st κ it p')).push (0,r+2,0)))).size<=1 from am 1)];refine kasC_pure ?_;dsimp only;exact kasC_pure (hG p' _ _ hps rfl rfl hg')
theorem run2 {κ:SortKind}{vs:List Value}{Q:SortSt->Shared->Prop}{G:Array Nat->Shared->Prop}(h2:2<=vs.length)
  (hG:∀p st' s',p.size=vs.length->arrOf st' =p.map (kas_item (vs.toArray.zip vs.toArray))->failedOf st' =none->G p s' ->Q st' s') (h:vs.length < 64/\(kas_sort vs.length).kasWp (kas_ask prog w A κ vs) G s\/vs.length=64/\(kas_count vs.length (bw (aC vs.length))).kasWp (kas_ask prog w A κ vs) (λr s' =>r.1=vs.length/\G r.2 s') s):
  wpAny (model prog w) A ((sortRuns').run (hZ κ (vs.toArray.zip vs.toArray) #[] 7 none)) (λr s' =>Q r.2 s') E s:=by
 rcases h with ⟨h64,h⟩ | ⟨h64,h⟩
 ·exact kat_run rfl h2 h64 hG h
 ·rw[kat_ask_eq rfl]at h;have run:=Qb (E:=E) (Q:=λ_ st' s' =>Q st' s') h2 (by rw[h64];decide) hG h
  have e:=kas_range (vs.toArray.zip vs.toArray);rw[show (vs.toArray.zip vs.toArray).size=vs.length by simp]at e
  have est:hZ κ (vs.toArray.zip vs.toArray) #[] 7 none=kas_st κ (vs.toArray.zip vs.toArray) (bw (aC vs.length)):=by
   show _=hZ κ ((bw (aC vs.length)).map (kas_item (vs.toArray.zip vs.toArray))) #[] 7 none;rw[e]
  rw[est];exact run
def Qc (h:Heap)(v:Value)(x:List Nat):Prop:=∃a o y t r n,v= .ref a/\h.get? a=some o/\o.cls= .type "tuple"/\o.data= .seq (#[Value.str y t]++r) n/\y.cps.toList=x
theorem Qc.keep {h h' :Heap}{v:Value}{x:List Nat}(k:∀b o,h.get? b=some o->(o.cls= .type "tuple")->h'.get? b=some o):Qc h v x->Qc h' v x
 | ⟨a,o,y,t,r,n,e1,e2,e3,e4,e5⟩=>⟨a,o,y,t,r,n,e1,k _ _ e2 e3,e3,e4,e5⟩
theorem Y3 {h:Heap}:∀(vs:List Value) (xs:List (List Nat)),vs.length=xs.length->(∀(i:Nat) (v:Value) (x:List Nat),vs[i]? =some v->xs[i]? =some x->Qc h v x)->∃fs:List Value,KatTups h vs fs/\fs.length=vs.length/\∀f∈fs,∃y t,f=Value.str y t
 | [],_,_,_=>⟨[],trivial,rfl,λf hf=>by cases hf⟩
 | v :: vs,[],hl,_=>by cases hl
 | v :: vs,x :: xs,hl,H=>by
  obtain⟨fs,k,l,q⟩:=Y3 vs xs (by simpa using hl) λi v x h1 h2=>H (i+1) v x (by simpa using h1) (by simpa using h2)
  obtain⟨a,o,y,t,r,n,rfl,e2,e3,e4,e5⟩:=H 0 v x rfl rfl;refine⟨.str y t :: fs,⟨⟨a,o,_,n,rfl,e2,e3,e4,by rw[Array.getElem?_append_left (by simp)];rfl⟩,k⟩,by simp[l],λf hf=> ?_⟩
  rcases ax.mp hf with rfl | hf
  ·exact⟨y,t,rfl⟩
  ·exact q f hf
theorem vq {vs:List Value}{xs:List (List Nat)}(hl:vs.length=xs.length)(H:∀(i:Nat) (v:Value) (x:List Nat),vs[i]? =some v->xs[i]? =some x->Qc s.heap v x)(hn:xs.Nodup){i j:Nat}(hi:i < vs.length)(hj:j < vs.length)(hij:i ≠ j){C:Bool->Shared->Prop}(hc:C (decide (xs.getD i [] < xs.getD j [])) s):
  kas_ask prog w A (tuples' true) vs i j C s:=by
 unfold kas_ask;have gv:∀k,k < vs.length->vs[k]? =some (vs.getD k Value.none):=λk h=>by simp[h]
 have gx:∀k,k < vs.length->xs[k]? =some (xs.getD k []):=λk h=>by
  have:k < xs.length:=by omega
  simp[this]
 obtain⟨a,o,y,t,r,n,e1,e2,e3,e4,e5⟩:=H i _ _ (gv i hi) (gx i hi);obtain⟨a',o',y',t',r',n',f1,f2,f3,f4,f5⟩:=H j _ _ (gv j hj) (gx j hj);rw[e1,f1];refine kat_lt e2 e4 f2 f4 ?_;have ez:((#[Value.str y t]++r).toList.zip (#[Value.str y' t']++r').toList)=(Value.str y t,Value.str y' t') :: r.toList.zip r'.toList:=by simp
 rw[ez];refine kat_cons (wpAny_eqBool_str ?_);have hne:y ≠ y' :=λz=>by
  have e6:xs.getD i []=xs.getD j []:=by rw[← e5,← f5,z]
  have hi' :i < xs.length:=by omega
  have hj' :j < xs.length:=by omega
  exact hij ((cv (i:=i) (j:=j) (h₀:=hi') (h₁:=hj') hn).mp (by simpa[hi',hj'] using e6))
 rw[decide_eq_false hne];refine kat_no (oneLt_str ?_);rw[e5,f5];exact hc
theorem Y4 {a:Addr}{vs:List Value}{xs:List (List Nat)}{n:Nat}{P:PySem.Fin->Shared->Prop}(ho:s.heap.get? a=some (seqObj "list" vs.toArray n))(hl:vs.length=xs.length)(H:∀(i:Nat) (v:Value) (x:List Nat),vs[i]? =some v->xs[i]? =some x->Qc s.heap v x)(hn:xs.Nodup)(h64:vs.length < 64\/vs.length=64/\xs.Pairwise (· < ·))
  (h:∀p:Array Nat,Pm vs.length p->So (O:=strKind.toKeyOrd) (λi=>xs.getD i []) p vs.length->P (.done (.ret .none)) { s with heap:=sortedHeap s.heap a vs (p.toList.map λi=>vs.getD i Value.none).toArray }):
  wpAny (model prog w) A (Builtin.«list.sort» ⟨[.ref a],[]⟩) P E s:=by
 have ha:a < s.heap.objs.size:=ar ho;rw[list_sort_plain];refine aa (listItems_at ho rfl (aa (listUpdate_at ho rfl ?_)));obtain⟨e1,ho1⟩:∃e1,(s.heap.update a (bM λ_=> #[])).get? a=some (seqObj "list" #[] e1):=⟨_,get?_update_seq ho λ_=> #[]⟩;refine aa (seqEpoch_at ho1 rfl (aa (wpAny_newTuple (aa (wpAny_newList (b_ ?_))))));have ho6:(((s.heap.update a (bM λ_=> #[])).push (seqObj "tuple" vs.toArray 0)).push (seqObj "list" #[] 0)).get? a=some (seqObj "list" #[] e1):=aj _ (aj _ ho1);show wpAny (model prog w) A _ P E { s with heap:=((s.heap.update a (bM λ_=> #[])).push (seqObj "tuple" vs.toArray 0)).push (seqObj "list" #[] 0) };have keep:∀b o,s.heap.get? b=some o->o.cls= .type "tuple"->(((s.heap.update a (bM λ_=> #[])).push (seqObj "tuple" vs.toArray 0)).push (seqObj "list" #[] 0)).get? b=some o:=λb o e c=>by
  have hb:b ≠ a:=λz=>by subst z;rw[ho]at e;cases e;have c' :Value.type "list"=Value.type "tuple":=c;injection c' with c2;exact absurd c2 (by decide)
  exact aj _ (aj _ ((fT _ _ _ _ hb).trans e))
 dsimp only;have hsz:vs.toArray.size=vs.length:=by simp
 by_cases h2:vs.toArray.size < 2
 ·rw[if_pos h2,if_pos h2];refine aa (ak ?_);rw[StateT.run_pure];refine aa (ak ?_);dsimp only;refine aa (seqEpoch_at ho6 rfl (aa (listUpdate_at ho6 rfl ?_ (hsz2:=by rw[Array.size_map];show (pairsOf vs).size<=_;rw[pairsOf_size,bS];omega))))
  simp only[bne_self_eq_false,au,if_false];have hp:=h (aC vs.length).toArray ⟨by simp,by simp⟩ λi j hij hj=>by omega
  have e:((arrOf (hZ general' (vs.toArray.zip vs.toArray) #[] 7 none)).map (·.2))=(((aC vs.length).toArray).toList.map λi=>vs.getD i Value.none).toArray:=by
   show (vs.toArray.zip vs.toArray).map (·.2)=_;have:vs.length=0\/vs.length=1:=by omega
   match vs,this with
   | [],_=>simp
   | [v],_=>simp
  rw[e];exact ak hp
 ·rw[if_neg h2,if_neg h2];have h2' :2<=vs.length:=by omega
  obtain⟨fs,kt,fl,fq⟩:=Y3 (h:=((s.heap.update a (bM λ_=> #[])).push (seqObj "tuple" vs.toArray 0)).push (seqObj "list" #[] 0)) vs xs hl λi v x q1 q2=>(H i v x q1 q2).keep keep;refine aa (kat_kind (T:= .type "str") kt (by omega) (λv hv=> ?_) (by decide) ?_)
  ·obtain⟨y,t,rfl⟩:=fq v hv;exact Looks.now
  refine aa (bQ (run2 (vs:=vs) (κ:=tuples' true) (Q:=λst' s' =>s' ={ s with heap:=((s.heap.update a (bM λ_=> #[])).push (seqObj "tuple" vs.toArray 0)).push (seqObj "list" #[] 0) }/\failedOf st' =none/\∃p:Array Nat,Pm vs.length p/\So (O:=strKind.toKeyOrd) (λi=>xs.getD i []) p vs.length/\(arrOf st').map (·.2)=(p.toList.map λi=>vs.getD i Value.none).toArray)
   (G:=λp s' =>s' ={ s with heap:=((s.heap.update a (bM λ_=> #[])).push (seqObj "tuple" vs.toArray 0)).push (seqObj "list" #[] 0) }/\Pm vs.length p/\So (O:=strKind.toKeyOrd) (λi=>xs.getD i []) p vs.length) h2' (λp st' s' z1 z2 z3 ⟨z4,z5,z6⟩=>⟨z4,z3,p,z5,z6,kat_snds rfl z2⟩) ?_) ?_ λ_ _ z=>z)
  ·refine h64.elim (λh64=> .inl ⟨h64, ?_⟩) λh64=> .inr ⟨h64.1, ?_⟩
   ·refine Gd.wp (J:=λs' =>s' ={ s with heap:=((s.heap.update a (bM λ_=> #[])).push (seqObj "tuple" vs.toArray 0)).push (seqObj "list" #[] 0) }) (lt:=λi j=>strKind.blt (xs.getD i []) (xs.getD j [])) (n:=vs.length) (λi j C s' hi hj hij js hc=> ?_) (λp s' ⟨q1,q2⟩ js=>⟨js,q1,q2⟩) _ _ (xf (O:=strKind.toKeyOrd) (key:=λi=>xs.getD i []) (λi j hi hj e=> ?_) h2') rfl
    ·subst js;exact vq hl (λi v x q1 q2=>(H i v x q1 q2).keep keep) hn hi hj hij (hc _ rfl)
    ·have hi' :i < xs.length:=by omega
     have hj' :j < xs.length:=by omega
     exact(cv (i:=i) (j:=j) (h₀:=hi') (h₁:=hj') hn).mp (by simpa[hi',hj'] using e)
   ·have g:∀i,i < vs.length->(bw (aC vs.length)).getD i 0=i:=λi hi=>by simp[d_,hi]
    have hs:∀i j,i < j->j < vs.length->xs.getD i [] < xs.getD j []:=λi j hij hj=>by
     have hj' :j < xs.length:=by omega
     have:=br.mp h64.2 i j (by omega) hj' hij
     simpa[hj',show i < xs.length by omega] using this
    refine Gd.wp (J:=λs' =>s' ={ s with heap:=((s.heap.update a (bM λ_=> #[])).push (seqObj "tuple" vs.toArray 0)).push (seqObj "list" #[] 0) }) (lt:=λi j=>strKind.blt (xs.getD i []) (xs.getD j [])) (n:=vs.length) (λi j C s' hi hj hij js hc=> ?_) (λr s' ⟨q1,q2⟩ js=>⟨q1,js,q2 ▸ ⟨by simp,by simp⟩,q2 ▸ λi j hij hj=> ?_⟩) _ _ (Y2 (O:=strKind.toKeyOrd) (key:=λi=>xs.getD i []) (λi hi=>decide_eq_false (iB.mpr (List.le_of_lt (hs i (i+1) (by omega) hi)))) h2') rfl
    ·subst js;exact vq hl (λi v x q1 q2=>(H i v x q1 q2).keep keep) hn hi hj hij (hc _ rfl)
    ·show decide (xs.getD ((bw (aC vs.length)).getD i 0) [] < xs.getD ((bw (aC vs.length)).getD j 0) [])=true;rw[g i (by omega),g j hj]
     exact decide_eq_true (hs i j hij hj)
  ·rintro⟨⟨⟩,st'⟩ s' ⟨rfl,hf,p,q1,q2,q3⟩
   dsimp only at hf q3 ⊢;refine aa (seqEpoch_at ho6 rfl (aa (listUpdate_at ho6 rfl ?_ (hsz2:=by rw[q3,av,ac,bu,q1.sz,bS];omega))))
   rw[hf];simp only[bne_self_eq_false,au,if_false];rw[q3];exact ak (h p q1 q2)
theorem Us {l:Addr}{vs:List Value}{xs:List (List Nat)}{Q:Value->Shared->Prop}(hls:s.heap.IsList l vs.toArray)(hl:vs.length=xs.length)(H:∀(i:Nat) (v:Value) (x:List Nat),vs[i]? =some v->xs[i]? =some x->Qc s.heap v x)(hn:xs.Nodup)(h64:vs.length < 64\/vs.length=64/\xs.Pairwise (· < ·))
  (h:∀p:Array Nat,Pm vs.length p->So (O:=strKind.toKeyOrd) (λi=>xs.getD i []) p vs.length->Q (.ref (s.heap.objs.size+1)) { s with heap:=sortedAll s.heap vs (p.toList.map λi=>vs.getD i Value.none).toArray }):
  wpAny (model prog w) A (call (.builtin "sorted") [.ref l]) Q E s:=by
 refine call_function_entry kind_sorted plain_sorted entry_sorted (args_sorted1 _) ?_;unfold Builtin.«sorted»;refine aa (m:=checkCount "sorted" 1 1 _) (ak (aa (collect_list hls (aa (wpAny_newList ?_)))));have z:((s.heap.push (seqObj "list" #[] 0)).update s.heap.objs.size (bM (·++vs.toArray))).objs.size=s.heap.objs.size+1:=by rw[Heap.size_update,size_push']
 have hoL:(((s.heap.push (seqObj "list" #[] 0)).update s.heap.objs.size (bM (·++vs.toArray))).push (seqObj "list" vs.toArray 0)).get? (s.heap.objs.size+1)=some (seqObj "list" vs.toArray 0):=z ▸ ay _ rfl;show wpAny _ _ _ _ _ { s with heap:=((s.heap.push (seqObj "list" #[] 0)).update s.heap.objs.size (bM (·++vs.toArray))).push (seqObj "list" vs.toArray 0) };rw[z];have kp:∀b o,s.heap.get? b=some o->o.cls= .type "tuple"->(((s.heap.push (seqObj "list" #[] 0)).update s.heap.objs.size (bM (·++vs.toArray))).push (seqObj "list" vs.toArray 0)).get? b=some o:=λb o e _=>
  aj _ ((fT _ _ _ _ (aH (ar e))).trans (aj _ e))
 refine aa (b_ (c7 slot_list_sort ⟨_,hoL,rfl⟩ entry_list_sort (Y4 hoL hl (λi v x q1 q2=>(H i v x q1 q2).keep kp) hn h64 λp q1 q2=>⟨_,rfl,ak ⟨_,rfl,h p q1 q2⟩⟩) (args_list_sort _)))
end
section
variable {X:Cx}{Y:Fx}{a:Expr}{fa:En->R T}{p pos:Pos}
theorem GS {h:Heap}{l:Addr}{o:Obj}{x:Str}{t:Tok}{us:List Value}{n:Nat}(e1:h.get? l=some o)(e2:o.cls= .type "tuple")(e3:o.data= .seq (Value.str x t :: us).toArray n):Qc h (.ref l) x.cps.toList:=
 ⟨l,o,x,t,us.toArray,n,rfl,e1,e2,e3.trans (by simp),rfl⟩
theorem GT {H:Hp}{pins:List (Addr×Obj)}{σ:Sg}{s:Shared}(I:L2.Inv X pins σ H s){v:V}{u:Value}{t:T}(r:Rep H v t)(ru:L2.RelV v u)(h:X4 t=true):Qc s.heap u (kkT t):=by
 unfold X4 at h;split at h
 ·rename_i x w;cases r with
  | @tup l ys _ e rr=>
   obtain rfl:u=Value.ref l:=ru;obtain⟨_,its,rv,⟨o,e1,e2,n,e3⟩,_⟩:=I.hok l _ e;cases rr with
   | cons r1 rr=>
    cases rr with
    | cons r2 rr=>
     cases rr with
     | nil=>
      cases r1 with
      | str x=>
       cases rv with
       | cons q1 rv=>
        obtain⟨t,rfl⟩:=q1;exact GS e1 e2 e3
 ·cases h
theorem Ww {H:Hp}{xs:List V}{ts:List T}(r:zH H xs ts):∀(is:List Nat),(∀i∈is,i < ts.length)->zH H (is.map λi=>xs.getD i V.non) (is.map λi=>ts.getD i T.non)
 | [],_=> .nil
 | i :: is,h=>by
  have hi:=h i ah;obtain⟨v,e1,e2⟩:=r.get (ad hi);have e3:xs.getD i V.non=v:=by rw[ce,e1];rfl
  have e4:ts.getD i T.non=ts[i]:=by rw[ce,ad hi];rfl
  rw[aB,aB,e3,e4];exact .cons e2 (Ww r is λj hj=>h j (ae _ hj))
theorem Wx {xs:List V}{us:List Value}(r:L2.Vals xs us):∀(is:List Nat),(∀i∈is,i < xs.length)->L2.Vals (is.map λi=>xs.getD i V.non) (is.map λi=>us.getD i Value.none)
 | [],_=> .nil
 | i :: is,h=>by
  have hi:=h i ah;obtain⟨u,e1,e2⟩:=r.get (ad hi);have e3:us.getD i Value.none=u:=by rw[ce,e1];rfl
  have e4:xs.getD i V.non=xs[i]:=by rw[ce,ad hi];rfl
  rw[aB,aB,e3,e4];exact .cons e2 (Wx r is λj hj=>h j (ae _ hj))
theorem Qd {ts:List T}(hn:(ts.map kkT).Nodup){q:Array Nat}(h1:Pm ts.length q)(h2:So (O:=strKind.toKeyOrd) (λi=>(ts.map kkT).getD i []) q ts.length):(q.toList.map λi=>ts.getD i T.non)=WR ts:=by
 refine Y0 ?_ hn ?_
 ·have e:(aC ts.length).map (λi=>ts.getD i T.non)=ts:=by
   refine List.ext_getElem (by simp) λi h1 h2=> ?_
   simp at h1 ⊢;simp[h1]
  exact(h1.pm.map _).trans (by rw[e])
 ·rw[cj,br];intro i j hi hj hij;rw[bu,h1.sz]at hi hj;have h3:=h2 i j hij hj;have li:=h1.lt hi;have lj:=h1.lt hj;have gi:∀k (hk:k < q.toList.length),q.toList[k]=q.getD k 0:=λk hk=>by
   have hk' :k < q.size:=by simpa using hk
   simp[d_,hk']
  have gk:∀k,k < ts.length->(ts.map kkT).getD k []=kkT (ts.getD k T.non):=λk hk=>by simp[hk]
  rw[gi,gi,JH];have h4:decide (kkT (ts.getD (q.getD i 0) T.non) < kkT (ts.getD (q.getD j 0) T.non))=true:=by
   rw[← gk _ li,← gk _ lj];exact h3
  exact List.le_of_lt (of_decide_eq_true h4)
theorem Ut:ZB X (.builtin "sorted") (λvs H Q=>∃l xs ts,vs=[.ref l]/\H l=some (.lst xs)/\zH H xs ts/\ts.all X4=true/\(ts.map kkT).Nodup/\(ts.length < 64\/ts.length=64/\(ts.map kkT).Pairwise (· < ·))/\∀r ys,H r=none->(∀B:Hp,zH B xs ts->zH B ys (WR ts))->Q (.ref r) (upd H r (.lst ys))):=by
 intro pins s σ H vs us Q I rv h;obtain⟨l,xs,ts,rfl,hl,r,hp,hn,h64,q⟩:=h;obtain⟨u,rfl,ru⟩:=j7 rv;obtain rfl:u=Value.ref l:=ru;obtain⟨its,rv,pl,hlen,hz⟩:=zZ I (.inl hl) r;have hxl:xs.length=ts.length:=r.length;have hle:s.heap.objs.size<=s.heap.objs.size+1:=iz _;refine Us (xs:=ts.map kkT) pl (by rw[ac,hlen]) (λi v x q1 q2=> ?_) hn (by rw[← hlen];exact h64) λpm a1 a2=> ?_
 ·rw[aG]at q2;cases e:ts[i]? with
  | none=>rw[e]at q2;cases q2
  | some t=>
   rw[e]at q2;obtain rfl:kkT t=x:=aR q2;obtain⟨v',e1,e2⟩:=r.get e;obtain⟨u',e3,e4⟩:=rv.get e1;rw[q1]at e3;cases e3;exact GT I e2 e4 (aJ.mp hp t (bx e))
 ·rw[← hlen]at a1 a2;obtain⟨n,he⟩:=sortedAll_at s.heap its (pm.toList.map λi=>its.getD i Value.none).toArray;have hin:∀i∈pm.toList,i < ts.length:=λi hi=>ba.mp (a1.pm.mem_iff.mp hi);have rr:∀B:Hp,zH B xs ts->zH B (pm.toList.map λi=>xs.getD i V.non) (WR ts):=λB rb=>by
   have:=Ww rb pm.toList hin;rw[Qd hn a1 a2]at this;exact this
  refine⟨.ref (s.heap.objs.size+1),upd H (s.heap.objs.size+1) (.lst (pm.toList.map λi=>xs.getD i V.non)),I.laid (t' :=s.toks) (λb u e=>sortedAll_old e) hle ?_,rfl,q _ _ (I.hok.fresh hle) rr⟩;exact⟨by rw[ac,bu,a1.sz,bS];omega,(pm.toList.map λi=>its.getD i Value.none),n,Wx rv pm.toList (λi hi=>by rw[hxl];exact hin i hi),he⟩
theorem xh {id:String}{x:Str}{r:List V->Hp->VK->Prop}{g:T->R T}(hc:ZB X (.builtin id) r)(hr:∀v t B H Q,Rep B v t->zw B H->Po Y rC B H (g t) Q->r [v] H Q)
  (gl:Gl X x) (mg:X.mg x=none) (bt:bootBuiltins x=some (.builtin id)) (ha:Snd X Y a fa) (hs:St1 X a:=by exact st1 rfl) (hn:x ≠ "__name__":=by decide) (hd:(x == ("__debug__":Str))=false:=by decide):Snd X Y (.Call (.Name x p) [a] [] pos) (ap1 g fa):= .mk λρ=>
 PE.imp (ZR hc gl mg bt (zu (ha ρ) Za hs) hn hd hs rfl) λσ H Q ⟨B,I,q⟩=>step I q λt v H1 _ s1 r1 I1 q1=>hr v t _ H1 Q r1 I1.sB q1
theorem xi (gl:Gl X "sorted")(mg:X.mg "sorted"=none)(ha:Snd X Y a fa)(hs:St1 X a:=by exact st1 rfl):Snd X Y (.Call (.Name "sorted" p) [a] [] pos) (ap1 uR fa):=
 xh Ut (λv t B H Q r sB q=>by
  cases r with
  | @lst l xs ts h r=>
   have q:Po Y rC B H (if ts.all X4=true/\(ts.map kkT).Nodup/\(ts.length < 64\/ts.length=64/\(ts.map kkT).Pairwise (· < ·)) then .ok (.lst (WR ts)) else .bad) Q:=q
   split at q
   ·rename_i hc;refine⟨l,xs,ts,rfl,sB _ _ h,r.mono sB,hc.1,hc.2.1,hc.2.2,λz ys hz rr=> ?_⟩;exact q _ _ (zw.new hz _) (.lst (j9 hz _) ((rr B r).mono (zV.ge sB (zw.new hz _))))
   ·exact q.elim
  | _=>exact q.elim) gl mg PyProof.Rows.Boot.«sorted» ha hs
end
end PV
namespace PV
open PySem PySem.Spec PyProof.Rows L2
def Uu (n:Nat)(g0 g1 g2:List T->R T)(fi:En->R T)(ga:En->R (List T)):En->R T:=λρ=>(fi ρ).bind λt=>match t with
 | .int i=>if i=0 then za n g0 ga ρ else if i=1 then za n g1 ga ρ else if i=2 then za n g2 ga ρ else .bad
 | _=> .bad
theorem xj {Y:Fx}{B H H1:Hp}{r:R T}{Q:VK}(sB:zw B H)(s:zw H H1)(q:Po Y rC B H r Q):Po Y rC (zV B H H1) H1 r Q:=by
 cases r with
 | bad=>exact q
 | ex c=>exact λd H' a b=>q d H' a ((zV.ge sB s).trans b)
 | ok t=>exact λb H' s' r' =>q b H' (s.trans s') (by rw[zV.trans s s']at r';exact r')
section
variable {X:Cx}{Y:Fx}{a b:Expr}{fa:En->R T}{pos p p1 p2 p3 lp sp' :Pos}
structure Cb (X:Cx) (cl:Nat->Value) (n:Nat) (g:List T->R T) (f:Addr):Prop where
 ex:∃j fd ps,Zh X.prog X.w X.K X.mg X.base (CX1 X.prog X.w) j f fd ps (spP cl n g)/\jv j X.A/\bL X.K (.ref f)=true/\L2.Binds X.K fd ps []
theorem xk {cl:Nat->Value}{n j k:Nat}{g:List T->R T}{f:Addr}{fd:FuncData}{ps:List Str}(F:Zh X.prog X.w X.K X.mg X.base (CX1 X.prog X.w) j f fd ps (spP cl n g))(hr:jv k X.A)(hj:j<=k)(kp:bL X.K (.ref f)=true)(bd:L2.Binds X.K fd ps []):Cb X cl n g f:=⟨j,fd,ps,F,hr.mono hj,kp,bd⟩
theorem Qe {a1 b1:Expr}{es:List Expr}{tc:TE}{t:TA}{E:XK}(hc:PE X (.Subscript a1 b1 p) tc)(ha:PA X (a :: es) t)(hx:ZQ (CX1 X.prog X.w) X E)
  (he:starEach (a :: es) X.env=(false,eval a X.env) :: starEach es X.env:=by rfl) (hpl:(backTo pos (starEach es X.env)).any (·.1)=false:=by rfl):
  PE X (.Call (.Subscript a1 b1 p) (a :: es) [] pos) (λσ H Q=>tc σ H λv H1=>∃f cl n g,v= .ref f/\Cb X cl n g f/\t σ H1 λvs H2=>spP cl n g vs H2 Q E):=by
 intro pins s σ H Q I h;show wpAny _ X.A (do callWith pos (← eval (.Subscript a1 b1 p) X.env) [] (backTo pos (starEach (a :: es) X.env)) (backToKw pos (keywordEach [] X.env))) _ _ s
 refine aa (thn (hc pins s σ H _ I h) λv s1 ⟨x,H1,I1,r1,f,cl,n,g,e,⟨j,fd,ps,F,hr,kp,bd⟩,q⟩=> ?_);subst e;obtain rfl:v=Value.ref f:=r1;refine f_ (h₀:=X.base) I1.ok.mod.kin kp (thn (ha pos pins s1 σ H1 _ I1 q) λus s2 ⟨vs,H2,I2,r,q2⟩=>⟨I2.kIn, ?_⟩) he hpl;refine QX F hr bd .nil hx I2 r ?_;rw[ci];exact q2
theorem xl {cl:Nat->Value}{n:Nat}{g0 g1 g2:List T->R T}{f0 f1 f2:Addr}{x0 x1 x2:Str}{fi:En->R T}{es:List Expr}{ga:En->R (List T)}(hy:Y.cl=cl)(hp:ZQ (CX1 X.prog X.w) X Y.E)(m0:X.mg x0=some (.ref f0))(m1:X.mg x1=some (.ref f1))(m2:X.mg x2=some (.ref f2))
  (C0:Cb X cl n g0 f0) (C1:Cb X cl n g1 f1) (C2:Cb X cl n g2 f2) (gl0:Gl X x0) (gl1:Gl X x1) (gl2:Gl X x2) (hi:Snd X Y b fi) (ha:Wk X Y (a :: es) ga) (hb:WX b:=by exact λ_ _=>rfl)
  (hd0:(x0 == ("__debug__":Str))=false:=by decide) (hd1:(x1 == ("__debug__":Str))=false:=by decide) (hd2:(x2 == ("__debug__":Str))=false:=by decide)
  (hs:starEach (a :: es) X.env=(false,eval a X.env) :: starEach es X.env:=by exact zN rfl) (hz:((backTo pos (starEach es X.env)).any λx=>x.fst)=false:=by exact Zy rfl):
  Snd X Y (.Call (.Subscript (.List [.Name x0 p1,.Name x1 p2,.Name x2 p3] lp) b p) (a :: es) [] pos) (Uu n g0 g1 g2 fi ga):= .mk λρ=>by
 subst hy;have h3:PA X [.Name x0 p1,.Name x1 p2,.Name x2 p3] (λσ H Q=>Q [.ref f0,.ref f1,.ref f2] H):=zu (JA (v:= .ref f0) gl0 m0 rfl hd0) (zu (JA (v:= .ref f1) gl1 m1 rfl hd1) (zu (JA (v:= .ref f2) gl2 m2 rfl hd2) Za (zN rfl)) (zN rfl)) (zN rfl);refine PE.imp (Qe (XD yb (y7 h3) (hi ρ) hb) (ha ρ) hp hs hz) λσ H Q ⟨B,I,q⟩=> ?_;refine⟨by show 3<=sizeLine;decide,λl hl=> ?_⟩
 have S0:zw H (upd H l (.lst [.ref f0,.ref f1,.ref f2])):=zw.new hl _;have I0:=I.grow S0;have q0:Po Y rC _ (upd H l (.lst [.ref f0,.ref f1,.ref f2])) ((fi ρ).bind λt=>match t with
  | .int i=>if i=0 then za n g0 ga ρ else if i=1 then za n g1 ga ρ else if i=2 then za n g2 ga ρ else .bad
  | _=> .bad) Q:=xj I.sB S0 q
 have fin:∀{f:Addr} {g:List T->R T} {H1 B1:Hp},Cb X Y.cl n g f->SI Y B1 ρ σ H1->Po Y rC B1 H1 (za n g ga ρ) Q->∃f' cl' n' g',V.ref f= .ref f' /\Cb X cl' n' g' f' /\tS Y rCs ga ρ σ H1 λvs H2=>spP cl' n' g' vs H2 Q Y.E:=λ{f g H1 B1} C I1 q1=>
  ⟨f,Y.cl,n,g,rfl,C,step I1 q1 λts vs H2 _ s2 r2 I2 q2=>by
   split at q2
   ·rename_i hn;refine⟨_,ts,hn,I2.sB,r2, ?_⟩;revert q2;cases g ts with
    | bad=>exact λq2=>q2
    | ex c=>exact λq2 d H' s sB=>q2 d H' (I2.sH.trans s) sB
    | ok t=>exact λq2=>q2
   ·exact q2.elim⟩
 refine step I0 q0 λt v H1 _ s1 r1 I1 q1=> ?_;cases r1 with
 | int i=>
  have hl1:H1 l=some (.lst [.ref f0,.ref f1,.ref f2]):=s1 _ _ zU;have q1:Po Y rC _ H1 (if i=0 then za n g0 ga ρ else if i=1 then za n g1 ga ρ else if i=2 then za n g2 ga ρ else .bad) Q:=q1
  by_cases h0:i=0
  ·rw[if_pos h0]at q1;subst h0;exact⟨l,_,0,.ref f0,rfl,rfl,SqL.of hl1,rfl,fin C0 I1 q1⟩
  ·rw[if_neg h0]at q1
   by_cases h1:i=1
   ·rw[if_pos h1]at q1;subst h1;exact⟨l,_,1,.ref f1,rfl,rfl,SqL.of hl1,rfl,fin C1 I1 q1⟩
   ·rw[if_neg h1]at q1
    by_cases h2:i=2
    ·rw[if_pos h2]at q1;subst h2;exact⟨l,_,2,.ref f2,rfl,rfl,SqL.of hl1,rfl,fin C2 I1 q1⟩
    ·rw[if_neg h2]at q1;exact q1.elim
 | _=>exact q1.elim
end
def Y5:T->R T
 | .tup ts=>if ts.length<=bnd/\ts ≠ [] then .ok (.tup ts.reverse) else .bad
 | _=> .bad
section
variable {prog:Program}{w:World}{A:Around}{E:Value->Shared->Prop}{s:Shared}
open HT in
theorem u9 {sl:Addr}{tk:Tok}{n:Nat}{Q:Int×Int×Nat->Shared->Prop}(hs:s.heap.IsSliceOf sl .none .none (.int (-1) tk))(h:Q ((n:Int) - 1, -1,n) s):wpAny (model prog w) A (c8 (.ref sl) (pure (n:Int))) Q E s:=by
 obtain⟨os,hos,hcs,hds⟩:=id hs;unfold c8 eG;refine aa (aa (bp hos hds (x:= .none) rfl (aa (bp hos hds (x:= .none) rfl (aa (bp hos hds (x:= .int (-1) tk) rfl (ak ?_)))))));refine aa (slicePart_int ?_);show wpAny _ _ (if ((-1:Int) == 0)=true then _ else _) _ _ s
 rw[if_neg (by decide)]
 refine aa (slicePart_none (aa (slicePart_none (aa (ak ?_)))));have e1:bC none none (-1) (n:Int)=((n:Int) - 1, -1):=by
  unfold bC;simp
 show wpAny _ _ (match bC none none (-1) (n:Int) with | (lo,hi)=>pure (lo,(-1:Int),bf lo hi (-1))) _ _ s
 rw[e1];have e2:bf ((n:Int) - 1) (-1) (-1)=n:=by
  unfold bf;simp only[show ¬ ((-1:Int) > 0) by decide,if_false,show (- -1:Int)=1 from rfl,Int.ediv_one]
  split <;> omega
 show wpAny _ _ (pure ((n:Int) - 1,(-1:Int),bf ((n:Int) - 1) (-1) (-1))) _ _ s;rw[e2];exact ak h
theorem Y6 (xs:Array Value):((aC xs.size).filterMap λ(m:Nat)=>xs[(((xs.size:Int) - 1)+(m:Int)*(-1)).toNat]?).toArray=xs.reverse:=by
 rw[vm _ (λk=>xs.getD (xs.size - 1 - k) .none) (aC xs.size) (λk hk=>by
  have hk:=ba.mp hk;have e:(((xs.size:Int) - 1)+(k:Int)*(-1)).toNat=xs.size - 1 - k:=by omega
  rw[e,Array.getD_eq_getD_getElem?,eI (by omega)]
  rfl)]
 apply Array.ext
 ·simp
 ·intro i h1 h2;simp at h1 h2 ⊢;rw[eI (by omega)]
  rfl
open HT in
theorem ua {t sl:Addr}{items:Array Value}{tk:Tok}{Q:Value->Shared->Prop}(ht:IsTup s.heap t items)(hs:s.heap.IsSliceOf sl .none .none (.int (-1) tk))
  (h:Q (.ref s.heap.objs.size) { s with heap:=s.heap.push { cls:= .type "tuple",data:= .seq items.reverse } }) (hsz:items.size<=sizeLine):wpAny (model prog w) A (getItem (.ref t) (.ref sl)) Q E s:=by
 have ok:sizeOk (.seq items.reverse):=by show items.reverse.size<=sizeLine;rw[Array.size_reverse];exact hsz
 obtain⟨os,hos,hcs,hds⟩:=id hs;have hTs:s.TypeIs (.ref sl) "slice":=⟨os,hos,hcs⟩;unfold getItem
 try with_reducible refine b_ ?_
 first | refine aa (ak ?_) | skip
 refine aa (wpAny_sequenceKey ht.typeIs (by decide) ?_)
 refine aa (bI (name:=aO "__getitem__") ht.typeIs aL (c7 aL ht.typeIs entry_tuple_getitem ?_ (args_tuple_getitem _ _)));show wpAny _ _ (cM (.ref t) >>= _) _ _ s;refine aa (tupleItemsOf_ ht (aa (wpAny_typeOf hTs ?_)));rw[if_pos (by decide)]
 refine aa (u9 hs ?_);have hno:¬ ((((items.size:Int) - 1) == 0 && (-1:Int) == 1 && items.size == items.size)=true):=by simp
 show wpAny _ _ (if ((((items.size:Int) - 1) == 0 && (-1:Int) == 1 && items.size == items.size)=true) then _ else _) _ _ s
 rw[if_neg hno,Y6]
 first
  | exact aa (m:=aX _) (aZ (ak ⟨_,rfl,ak h⟩) ok)
  | exact aa (m:=aX _) (aZ (aa (ak (ak ⟨_,rfl,ak h⟩))) ok)
  | exact aa (aa (m:=aX _) (aZ (ak (ak ⟨_,rfl,ak h⟩)) ok))
  | exact aa (aa (m:=aX _) (aZ (ak ⟨_,rfl,ak h⟩) ok))
end
section
variable {X:Cx}{Y:Fx}{a:Expr}{fa:En->R T}{pos p2 p3 p4:Pos}{kc:Nat}
theorem xm {te:TE}(he:PE X a te):PE X (.Subscript a (.Slice none none (some (.UnaryOp .USub (.Constant (.int 1) kc p3) p4)) p2) pos) (λσ H Q=>te σ H λx H1=>∃l xs,x= .ref l/\H1 l=some (.tup xs)/\∀p,H1 p=none->Q (.ref p) (upd H1 p (.tup xs.reverse))):=by
 intro pins s σ H Q I h;refine Subscript_ (thn (he pins s σ H _ I h) λv s1 ⟨x,H1,I1,r1,q1⟩=>wpAny_Slice ?_);rw[evalPart_none];refine ak (ak ?_);have hst:PE X (.UnaryOp .USub (.Constant (.int 1) kc p3) p4) _:=Xr QV QS;show wpAny _ _ (eval (.UnaryOp .USub (.Constant (.int 1) kc p3) p4) X.env) _ _ _;refine thn (hst pins s1 σ H1 (λy H' =>y=V.int (-1)/\H' =H1) I1 ⟨1,rfl,rfl,rfl⟩) λvu s2 ⟨y,H2,I2,r2,e1,e2⟩=> ?_;subst e1 e2;obtain⟨tk,rfl⟩:=r2;obtain⟨l,xs,rfl,hl,q⟩:=q1;obtain rfl:v=Value.ref l:=r1;generalize hG:s2.heap.push { cls:= .type "slice",data:= .fields #[Value.none,Value.none,Value.int (-1) tk] }=G;have I4:Inv X pins σ H2 { s2 with heap:=G }:=by rw[← hG];exact I2.kept (t' :=s2.toks) λb ob q=>aj _ q
 have hsl:G.IsSliceOf s2.heap.objs.size .none .none (.int (-1) tk):=by rw[← hG];exact g_ ..
 obtain⟨its,rv,ht,hz⟩:=I4.tuple (SqT.of hl);have hlen:its.toArray.size=xs.length:=by rw[av];exact rv.length.symm
 refine tail_any (ops:=[.ref l,.ref s2.heap.objs.size]) (s:={ s2 with heap:=G }) ht.typeIs aL.lookup (ua ht hsl ?_ (by rw[hlen];exact hz)) (by with_unfolding_all rfl)
 refine⟨.ref G.objs.size,upd H2 G.objs.size (.tup xs.reverse),I4.laid (t' :=s2.toks) (λb o e=>aj _ e) (am _) ?_,rfl,q _ (I4.hok.fresh (am _))⟩;exact⟨by rw[dO];exact hz,its.reverse,uO rv,by rw[← List.reverse_toArray];exact ITN.new _ _⟩
theorem kR (ha:Snd X Y a fa):Snd X Y (.Subscript a (.Slice none none (some (.UnaryOp .USub (.Constant (.int 1) kc p3) p4)) p2) pos) (ap1 Y5 fa):= .mk λρ=>
 PE.imp (xm (ha ρ)) λσ H Q ⟨B,I,q⟩=>step I q λt v H1 _ s1 r1 I1 q1=>by
  cases r1 with
  | @tup l xs ts h r=>
   have q1:Po Y rC _ H1 (if ts.length<=bnd/\ts ≠ [] then .ok (.tup ts.reverse) else .bad) Q:=q1
   split at q1
   ·exact⟨l,xs,rfl,I1.sB _ _ h,λz hz=>q1 _ _ (zw.new hz _) (.tup (j9 hz _) (r.rev.mono (zV.ge I1.sB (zw.new hz _))))⟩
   ·exact q1.elim
  | _=>exact q1.elim
end
end PV
namespace G
open PySem PySem.Spec PyProof.Rows L2 PV
def okX (c:Nat):Bool:=decide (c < 6)
def jS (c:Nat):Bool:=c == 0
def jx (c:Nat):Bool:=c == 1
def jT (c:Nat):Bool:=c == 2
def jy (c:Nat):Bool:=c == 3
def JI (c:Nat):Bool:=c == 4
def jU (c:Nat):Bool:=c == 5
def ZV (_:Nat):Bool:=true
def b_16:En->RS:=
  zm (ifS (zi ltC (vB 1) (ap1 zK (vB 0))) (zt (zb ixT (vE 0) (vE 1))) (nxS))
  (zm (ifS (zi eqC (vB 0) (Zp (zc))) (zt (cE (.int 0))) (nxS))
  (zt (zb zl (zb Z0 (zb ixT (vE 0) (zb jB (vE 1) (ap1 zK (vB 0)))) (cE (.int 31))) (vE 1))))
def kS:List T->R T:=λts=>zg (b_16  (en0 2 ts))
def b_2 (c_16:List T->R T):En->RS:=
  zm (zx 3 (zb jB (zb Z0 (zb zl (za 2 c_16 (z9 (vE 0) (z9 (vE 1) (zc)))) (zb Z0 (cE (.int 6151)) (zb zl (vE 1) (cE (.int 1))))) (cE (.int 40692))) (cE (.int 2147483399))))
  (zt (zb jB (zb jB (zb zl (zb Z0 (vE 3) (vE 3)) (zb Um (vE 3) (cE (.int 31)))) (cE (.int 2147483629))) (vE 2)))
def f_2:List T->R T:=λts=>zg (b_2 (kS) (en0 4 ts))
def b_w (c_2:List T->R T):En->RS:=
  zm (zx 2 (cE (.str "abcdefghijklmnopqrstuvwxyz")))
  (zm (ifS (zi gtC (za 3 c_2 (z9 (vE 0) (z9 (vE 1) (z9 (cE (.int 6)) (zc))))) (cE (.int 0))) (zt (zb ixT (Zp (z9 (cE (.str "a")) (z9 (cE (.str "b")) (z9 (cE (.str "ab")) (z9 (cE (.str "cab")) (zc)))))) (za 3 c_2 (z9 (vE 0) (z9 (zb zl (vE 1) (cE (.int 1))) (z9 (cE (.int 4)) (zc))))))) (nxS))
  (zt (ap1 (kx "") (zC (Zd (zb zl (cE (.int 1)) (za 3 c_2 (z9 (vE 0) (z9 (zb zl (vE 1) (cE (.int 1))) (z9 (cE (.int 3)) (zc))))))) (zo 0) (Z1) (zb ixT (vE 3) (za 3 c_2 (z9 (vE 1) (z9 (zb zl (zb zl (vE 2) (cE (.int 2))) (vE 0)) (z9 (cE (.int 26)) (zc)))))) 1 [0,1,2]))))
def f_w:List T->R T:=λts=>zg (b_w (f_2) (en0 3 ts))
def b_k (c_2:List T->R T)(c_w:List T->R T):En->RS:=
  zm (ifS (zi gtC (za 3 c_2 (z9 (vE 0) (z9 (vE 1) (z9 (cE (.int 3)) (zc))))) (cE (.int 0))) (zm (zx 2 (zb jN (za 3 c_2 (z9 (vE 0) (z9 (zb zl (vE 1) (cE (.int 1))) (z9 (cE (.int 7)) (zc))))) (cE (.int 3))))
  (zm (ifS (zi eqC (za 3 c_2 (z9 (vE 0) (z9 (zb zl (vE 1) (cE (.int 3))) (z9 (cE (.int 8)) (zc))))) (cE (.int 0))) (zx 2 (zb ixT (Zp (z9 (uE (cE (.int 20))) (z9 (cE (.int 17)) (z9 (cE (.int 20)) (zc))))) (za 3 c_2 (z9 (vE 0) (z9 (zb zl (vE 1) (cE (.int 4))) (z9 (cE (.int 3)) (zc))))))) (nxS))
  (zt (zp (z9 (cE (.str "whole")) (z9 (vE 2) (z9 (zb ZY (cE (.int 20)) (zb zl (vE 2) (za 3 c_2 (z9 (vE 0) (z9 (zb zl (vE 1) (cE (.int 2))) (z9 (cE (.int 4)) (zc))))))) (zc)))))))) (nxS))
  (zm (yB 3 (zc))
  (zm (ju (Zd (zb zl (cE (.int 1)) (za 3 c_2 (z9 (vE 0) (z9 (zb zl (vE 1) (cE (.int 1))) (z9 (cE (.int 4)) (zc))))))) (zo 4) (zm (zx 5 (za 2 c_w (z9 (vE 0) (z9 (zb zl (zb zl (vE 1) (cE (.int 5))) (zb Z0 (cE (.int 5)) (vE 4))) (zc)))))
  (ifS (zi qN (vB 5) (vB 3)) (KT 3 (vE 5)) (nxS))))
  (zt (zp (z9 (cE (.str "pick")) (z9 (ap1 UI (zC (VD (vE 3)) (Zb 0 1) (Z1) (zp (z9 (vE 1) (z9 (zb zl (cE (.int 1)) (za 3 c_2 (z9 (vE 2) (z9 (zb zl (zb zl (vE 3) (cE (.int 30))) (vE 0)) (z9 (cE (.int 20)) (zc)))))) (zc)))) 2 [0,1])) (zc)))))))
def f_k:List T->R T:=λts=>zg (b_k (f_2) (f_w) (en0 6 ts))
def b_g (c_2:List T->R T)(c_k:List T->R T)(c_g:List T->R T):En->RS:=
  zm (zx 3 (za 3 c_2 (z9 (vE 0) (z9 (vE 1) (z9 (cE (.int 5)) (zc))))))
  (zm (ifS (orT (zi eqC (vB 2) (cE (.int 1))) (zi ltC (vB 3) (cE (.int 2)))) (zt (za 2 c_k (z9 (vE 0) (z9 (zb zl (vE 1) (cE (.int 1))) (zc))))) (nxS))
  (zm (ifS (zi ltC (vB 3) (cE (.int 4))) (zm (zx 4 (zC (Zd (zb zl (cE (.int 1)) (za 3 c_2 (z9 (vE 0) (z9 (zb zl (vE 1) (cE (.int 1))) (z9 (cE (.int 3)) (zc))))))) (zo 0) (Z1) (za 3 c_g (z9 (vE 1) (z9 (zb zl (zb zl (zb Z0 (cE (.int 3)) (vE 2)) (cE (.int 40))) (zb Z0 (cE (.int 50)) (vE 0))) (z9 (zb jN (vE 3) (cE (.int 1))) (zc))))) 1 [0,1,2]))
  (zt (zp (z9 (cE (.str "row")) (z9 (ap1 UI (vE 4)) (zc)))))) (nxS))
  (zm (zx 5 (za 3 c_2 (z9 (vE 0) (z9 (zb zl (vE 1) (cE (.int 1))) (z9 (cE (.int 3)) (zc))))))
  (zt (zp (z9 (cE (.str "many")) (z9 (za 3 c_g (z9 (vE 0) (z9 (zb zl (zb Z0 (cE (.int 3)) (vE 1)) (cE (.int 40))) (z9 (zb jN (vE 2) (cE (.int 1))) (zc))))) (z9 (vE 5) (z9 (zb ZY (cE (.int 3)) (zb zl (vE 5) (za 3 c_2 (z9 (vE 0) (z9 (zb zl (vE 1) (cE (.int 2))) (z9 (cE (.int 3)) (zc))))))) (zc))))))))))
def S_g:Nat->Nat->List T->R T
 | 0,_=>λ_=> .bad
 | n+1,_=>λts=>zg (b_g (f_2) (f_k) (S_g n 0) (en0 6 ts))
abbrev f_g (n:Nat):List T->R T:=S_g n 0
def b_f:En->RS:=
  zm (zx 1 (Zp (z9 (zp (zc)) (zc))))
  (zm (ju (Zm (vE 0)) (zo 2) (zm (yB 3 (zc))
  (zm (ju (Zm (vE 1)) (zo 4) (qT 3 (zC (Zm (vE 2)) (zo 0) (Z1) (zb zl (vE 1) (zp (z9 (vE 0) (zc)))) 1 [4])))
  (mvS 1 3))))
  (zt (vE 1)))
def f_f:List T->R T:=λts=>zg (b_f  (en0 5 ts))
def b_3 (c_3:List T->R T)(c_f:List T->R T):En->RS:=
  zm (ifS (zi eqC (zb ixT (vE 0) (cE (.int 0))) (cE (.str "whole"))) (zt (KU (Jm (zb ixT (vE 0) (cE (.int 1))) (zb zl (zb ixT (vE 0) (cE (.int 2))) (cE (.int 1)))))) (nxS))
  (zm (ifS (zi eqC (zb ixT (vE 0) (cE (.int 0))) (cE (.str "pick"))) (zt (zC (Zm (zb ixT (vE 0) (cE (.int 1)))) (Zb 0 1) (Z1) (vE 0) 2 [])) (nxS))
  (zm (ifS (zi eqC (zb ixT (vE 0) (cE (.int 0))) (cE (.str "row"))) (zt (za 1 c_f (z9 (zC (Zm (zb ixT (vE 0) (cE (.int 1)))) (zo 0) (Z1) (za 1 c_3 (z9 (vE 0) (zc))) 1 []) (zc)))) (nxS))
  (zm (yB 1 (zc))
  (zm (ju (Jm (zb ixT (vE 0) (cE (.int 2))) (zb zl (zb ixT (vE 0) (cE (.int 3))) (cE (.int 1)))) (zo 2) (qT 1 (za 1 c_f (z9 (zb Z0 (Zp (z9 (za 1 c_3 (z9 (zb ixT (vE 0) (cE (.int 1))) (zc))) (zc))) (vE 2)) (zc)))))
  (zt (vE 1))))))
def S_3:Nat->Nat->List T->R T
 | 0,_=>λ_=> .bad
 | n+1,_=>λts=>zg (b_3 (S_3 n 0) (f_f) (en0 3 ts))
abbrev f_3 (n:Nat):List T->R T:=S_3 n 0
def b_8 (c_3:List T->R T)(c_8:List T->R T):En->RS:=
  zm (ifS (zi inC (zb ixT (vE 0) (cE (.int 0))) (zp (z9 (cE (.str "whole")) (z9 (cE (.str "pick")) (zc))))) (zt (ap1 zK (za 1 c_3 (z9 (vE 0) (zc))))) (nxS))
  (zm (zx 1 (ifE (zi eqC (zb ixT (vE 0) (cE (.int 0))) (cE (.str "row"))) (zC (Zm (zb ixT (vE 0) (cE (.int 1)))) (zo 0) (Z1) (za 1 c_8 (z9 (vE 0) (zc))) 1 []) (Zp (zc))))
  (zm (zx 2 (cE (.int 1)))
  (zm (ju (Zm (vE 1)) (zo 3) (zx 2 (zb Z0 (vE 2) (vE 3))))
  (zm (ifS (zi eqC (zb ixT (vE 0) (cE (.int 0))) (cE (.str "many"))) (zm (zx 4 (za 1 c_8 (z9 (zb ixT (vE 0) (cE (.int 1))) (zc))))
  (zm (zx 2 (zb zl (ap1 W4 (Zi eqC (zb ixT (vE 0) (cE (.int 2))) (cE (.int 0)))) (zb Z0 (vE 4) (ap1 W4 (chE leC leC (zb ixT (vE 0) (cE (.int 2))) (cE (.int 1)) (zb ixT (vE 0) (cE (.int 3))))))))
  (zm (zx 2 (zb zl (vE 2) (zb Z0 (zb Z0 (vE 4) (vE 4)) (ap1 W4 (chE leC leC (zb ixT (vE 0) (cE (.int 2))) (cE (.int 2)) (zb ixT (vE 0) (cE (.int 3))))))))
  (zx 2 (zb zl (vE 2) (zb Z0 (zb Z0 (zb Z0 (vE 4) (vE 4)) (vE 4)) (ap1 W4 (Zi eqC (zb ixT (vE 0) (cE (.int 3))) (cE (.int 3)))))))))) (nxS))
  (zt (vE 2))))))
def S_8:Nat->Nat->List T->R T
 | 0,_=>λ_=> .bad
 | n+1,_=>λts=>zg (b_8 (f_3 8) (S_8 n 0) (en0 5 ts))
abbrev f_8 (n:Nat):List T->R T:=S_8 n 0
def b_u (c_g:List T->R T)(c_8:List T->R T):En->RS:=
  zm (zx 3 (za 3 c_g (z9 (vE 0) (z9 (vE 1) (z9 (cE (.int 3)) (zc))))))
  (zm (ju (Zd (cE (.int 3))) (zo 4) (zm (ifS (zi leC (za 1 c_8 (z9 (vE 3) (zc))) (vB 2)) (zt (vE 3)) (nxS))
  (zx 3 (za 3 c_g (z9 (vE 0) (z9 (zb zl (zb zl (vE 1) (cE (.int 500))) (zb Z0 (cE (.int 700)) (vE 4))) (z9 (cE (.int 2)) (zc))))))))
  (zt (ifE (zi leC (za 1 c_8 (z9 (vE 3) (zc))) (vB 2)) (vE 3) (zp (z9 (cE (.str "whole")) (z9 (uE (cE (.int 1))) (z9 (cE (.int 2)) (zc))))))))
def f_u:List T->R T:=λts=>zg (b_u (f_g 8) (f_8 8) (en0 5 ts))
def b_h (c_2:List T->R T)(c_k:List T->R T)(c_h:List T->R T):En->RS:=
  zm (zx 3 (za 3 c_2 (z9 (vE 0) (z9 (vE 1) (z9 (cE (.int 4)) (zc))))))
  (zm (ifS (zi eqC (vB 3) (cE (.int 3))) (zt (za 2 c_k (z9 (vE 0) (z9 (zb zl (vE 1) (cE (.int 5))) (zc))))) (nxS))
  (zm (ifS (zi eqC (zb ixT (vE 2) (cE (.int 0))) (cE (.str "whole"))) (zm (zx 4 (zb Jn (uE (cE (.int 20))) (zb ZY (cE (.int 20)) (zb jN (zb zl (zb ixT (vE 2) (cE (.int 1))) (vE 3)) (cE (.int 1))))))
  (zt (zp (z9 (cE (.str "whole")) (z9 (vE 4) (z9 (zb Jn (vE 4) (zb ZY (cE (.int 20)) (zb jN (zb zl (zb ixT (vE 2) (cE (.int 2))) (za 3 c_2 (z9 (vE 0) (z9 (zb zl (vE 1) (cE (.int 1))) (z9 (cE (.int 3)) (zc)))))) (cE (.int 1))))) (zc))))))) (nxS))
  (zm (ifS (zi eqC (zb ixT (vE 2) (cE (.int 0))) (cE (.str "pick"))) (zm (zx 5 (ifE (zi gtC (vB 3) (cE (.int 0))) (slE (zb ixT (vE 2) (cE (.int 1))) (Z5 (za 3 c_2 (z9 (vE 0) (z9 (zb zl (vE 1) (cE (.int 1))) (z9 (ap1 zK (zb ixT (vE 2) (cE (.int 1)))) (zc)))))) (noO)) (ap1 Y5 (zb ixT (vE 2) (cE (.int 1))))))
  (zt (zp (z9 (cE (.str "pick")) (z9 (ap1 UI (zC (Zm (vE 5)) (Zb 0 1) (Z1) (zp (z9 (vE 0) (z9 (zb zl (cE (.int 1)) (zb jB (vE 1) (cE (.int 20)))) (zc)))) 2 [])) (zc)))))) (nxS))
  (zm (ifS (zi eqC (zb ixT (vE 2) (cE (.int 0))) (cE (.str "row"))) (zm (zx 6 (za 3 c_2 (z9 (vE 0) (z9 (zb zl (vE 1) (cE (.int 1))) (z9 (ap1 zK (zb ixT (vE 2) (cE (.int 1)))) (zc))))))
  (zm (ifS (jt (zi eqC (vB 3) (cE (.int 0))) (zi eqC (zC (Zm (zb ixT (vE 2) (cE (.int 1)))) (zo 0) (zi neC (vB 0) (zb ixT (zb ixT (vE 1) (cE (.int 1))) (cE (.int 0)))) (vE 0) 1 [2]) (Zp (zc)))) (zt (zp (z9 (cE (.str "many")) (z9 (zb ixT (zb ixT (vE 2) (cE (.int 1))) (cE (.int 0))) (z9 (zb ZY (cE (.int 1)) (ap1 zK (zb ixT (vE 2) (cE (.int 1))))) (z9 (ap1 zK (zb ixT (vE 2) (cE (.int 1)))) (zc))))))) (nxS))
  (zt (zp (z9 (cE (.str "row")) (z9 (zb zl (zb zl (slE (zb ixT (vE 2) (cE (.int 1))) (noO) (Z5 (vE 6))) (zp (z9 (za 3 c_h (z9 (vE 0) (z9 (zb zl (vE 1) (cE (.int 7))) (z9 (zb ixT (zb ixT (vE 2) (cE (.int 1))) (vE 6)) (zc))))) (zc)))) (slE (zb ixT (vE 2) (cE (.int 1))) (Z5 (zb zl (vE 6) (cE (.int 1)))) (noO))) (zc))))))) (nxS))
  (zm (ifS (zi eqC (vB 3) (cE (.int 0))) (zt (zp (z9 (cE (.str "many")) (z9 (za 3 c_h (z9 (vE 0) (z9 (zb zl (vE 1) (cE (.int 7))) (z9 (zb ixT (vE 2) (cE (.int 1))) (zc))))) (z9 (zb ixT (vE 2) (cE (.int 2))) (z9 (zb ixT (vE 2) (cE (.int 3))) (zc))))))) (nxS))
  (zm (ifS (zi eqC (vB 3) (cE (.int 1))) (zt (zp (z9 (cE (.str "row")) (z9 (zb qu (zp (z9 (zb ixT (vE 2) (cE (.int 1))) (zc))) (zb zl (cE (.int 1)) (za 3 c_2 (z9 (vE 0) (z9 (zb zl (vE 1) (cE (.int 1))) (z9 (cE (.int 3)) (zc))))))) (zc))))) (nxS))
  (zm (zx 4 (za 3 c_2 (z9 (vE 0) (z9 (zb zl (vE 1) (cE (.int 1))) (z9 (zb zl (zb ixT (vE 2) (cE (.int 3))) (cE (.int 1))) (zc))))))
  (zt (zp (z9 (cE (.str "many")) (z9 (zb ixT (vE 2) (cE (.int 1))) (z9 (vE 4) (z9 (zb ixT (vE 2) (cE (.int 3))) (zc))))))))))))))
def S_h:Nat->Nat->List T->R T
 | 0,_=>λ_=> .bad
 | n+1,_=>λts=>zg (b_h (f_2) (f_k) (S_h n 0) (en0 7 ts))
abbrev f_h (n:Nat):List T->R T:=S_h n 0
def b_i (c_i:List T->R T):En->RS:=
  zm (yB 1 (z9 (zp (zc)) (zc)))
  (zm (ifS (ZI (ap1 (jo "tuple") (vB 0))) (ju (Zd (ap1 zK (vB 0))) (zo 2) (qT 1 (zC (Zm (za 1 c_i (z9 (zb ixT (vE 0) (vE 2)) (zc)))) (zo 0) (Z1) (zb zl (zp (z9 (vE 1) (zc))) (vE 0)) 1 [2]))) (nxS))
  (zt (vE 1)))
def S_i:Nat->Nat->List T->R T
 | 0,_=>λ_=> .bad
 | n+1,_=>λts=>zg (b_i (S_i n 0) (en0 3 ts))
abbrev f_i (n:Nat):List T->R T:=S_i n 0
def g9:En->RS:=
  zm (ju (Zm (vE 1)) (zo 2) (zx 0 (zb ixT (vE 0) (vE 2))))
  (zt (vE 0))
def X5:List T->R T:=λts=>zg (g9  (en0 3 ts))
def b_e (c_e:List T->R T):En->RS:=
  zm (ifS (zi eqC (vB 1) (zp (zc))) (zt (vE 2)) (nxS))
  (zm (zx 3 (zb ixT (vE 1) (cE (.int 0))))
  (zt (zb zl (zb zl (slE (vE 0) (noO) (Z5 (vE 3))) (zp (z9 (za 3 c_e (z9 (zb ixT (vE 0) (vE 3)) (z9 (slE (vE 1) (Z5 (cE (.int 1))) (noO)) (z9 (vE 2) (zc))))) (zc)))) (slE (vE 0) (Z5 (zb zl (vE 3) (cE (.int 1)))) (noO)))))
def S_e:Nat->Nat->List T->R T
 | 0,_=>λ_=> .bad
 | n+1,_=>λts=>zg (b_e (S_e n 0) (en0 4 ts))
abbrev f_e (n:Nat):List T->R T:=S_e n 0
def gc (c_2:List T->R T)(c_i:List T->R T)(c_11:List T->R T)(c_e:List T->R T):En->RS:=
  zm (zx 3 (za 1 c_i (z9 (vE 2) (zc))))
  (zm (zx 4 (zb ixT (vE 3) (za 3 c_2 (z9 (vE 0) (z9 (vE 1) (z9 (ap1 zK (vB 3)) (zc)))))))
  (zm (zx 5 (za 2 c_11 (z9 (vE 2) (z9 (vE 4) (zc)))))
  (zm (zx 6 (Zp (z9 (cE (.int 0)) (z9 (cE (.int 1)) (z9 (uE (cE (.int 21))) (z9 (cE (.int 21)) (z9 (cE (.int 3)) (z9 (cE (.int 4)) (z9 (cE (.bl true)) (z9 (cE .non) (z9 (cE (.str "a")) (z9 (cE (.str "abcd")) (z9 (cE (.str "A")) (z9 (cE (.str "")) (z9 (cE (.str "many")) (z9 (cE (.str "row")) (z9 (zp (zc)) (z9 (zp (z9 (vE 5) (zc))) (z9 (Zp (z9 (vE 5) (zc))) (z9 (zp (z9 (cE (.str "whole")) (z9 (cE (.int 1)) (z9 (cE (.int 0)) (zc))))) (zc)))))))))))))))))))))
  (zm (zx 7 (za 3 c_2 (z9 (vE 0) (z9 (zb zl (vE 1) (cE (.int 1))) (z9 (zb zl (ap1 zK (vB 6)) (cE (.int 5))) (zc))))))
  (zm (ifS (zi ltC (vB 7) (ap1 zK (vB 6))) (zt (za 3 c_e (z9 (vE 2) (z9 (vE 4) (z9 (zb ixT (vE 6) (vE 7)) (zc)))))) (nxS))
  (zm (ifS (jt (ZI (ap1 (jo "tuple") (vB 5))) (zi neC (vB 5) (zp (zc)))) (zm (zx 8 (za 3 c_2 (z9 (vE 0) (z9 (zb zl (vE 1) (cE (.int 2))) (z9 (ap1 zK (vB 5)) (zc))))))
  (zt (za 3 c_e (z9 (vE 2) (z9 (vE 4) (z9 (zb ixT (Zp (z9 (zb zl (slE (vE 5) (noO) (Z5 (vE 8))) (slE (vE 5) (Z5 (zb zl (vE 8) (cE (.int 1)))) (noO))) (z9 (zb zl (zb zl (slE (vE 5) (noO) (Z5 (vE 8))) (slE (vE 5) (Z5 (vE 8)) (Z5 (zb zl (vE 8) (cE (.int 1)))))) (slE (vE 5) (Z5 (vE 8)) (noO))) (zc)))) (zb jB (vE 7) (cE (.int 2)))) (zc))))))) (nxS))
  (zm (ifS (ZI (ap1 (jo "int") (vB 5))) (zt (za 3 c_e (z9 (vE 2) (z9 (vE 4) (z9 (zb jN (zb zl (vE 5) (cE (.int 1))) (zb Z0 (cE (.int 2)) (zb jB (vE 7) (cE (.int 2))))) (zc)))))) (nxS))
  (zt (za 3 c_e (z9 (vE 2) (z9 (vE 4) (z9 (zp (z9 (cE (.str "row")) (z9 (zp (z9 (vE 5) (z9 (vE 5) (zc)))) (zc)))) (zc)))))))))))))
def X6:List T->R T:=λts=>zg (gc (f_2) (f_i 40) (X5) (f_e 40) (en0 9 ts))
def b_m:En->RS:=
  zt (Ja (ap1 (jo "int") (vB 0)) (Ja (Gi (ap1 (jo "bool") (vB 0))) (chE leC leC (vB 1) (vB 0) (vB 2))))
def f_m:List T->R T:=λts=>zg (b_m  (en0 3 ts))
def b_s:En->RS:=
  zt (Ja (ap1 (jo "str") (vB 0)) (Ja (chE leC leC (cE (.int 1)) (ap1 zK (vB 0)) (cE (.int 3))) (Zi eqC (zC (Zm (vE 0)) (zo 0) (jO (chT leC leC (cE (.str "a")) (vB 0) (cE (.str "z")))) (vE 0) 1 []) (Zp (zc)))))
def f_s:List T->R T:=λts=>zg (b_s  (en0 1 ts))
def b_a (c_m:List T->R T)(c_s:List T->R T)(c_a:List T->R T):En->RS:=
  zm (ifS (orT (jO (ZI (ap1 (jo "tuple") (vB 0)))) (orT (zi ltC (ap1 zK (vB 0)) (cE (.int 2))) (orT (jO (ZI (ap1 (jo "str") (zb ixT (vE 0) (cE (.int 0)))))) (zi ltC (vB 1) (cE (.int 1)))))) (zt (cE (.bl false))) (nxS))
  (zm (uJ 2 3 (z9 (zb ixT (vE 0) (cE (.int 0))) (z9 (slE (vE 0) (Z5 (cE (.int 1))) (noO)) (zc))))
  (zm (ifS (zi eqC (vB 2) (cE (.str "whole"))) (zt (Ja (Zi eqC (ap1 zK (vB 3)) (cE (.int 2))) (Ja (za 3 c_m (z9 (zb ixT (vE 3) (cE (.int 0))) (z9 (uE (cE (.int 20))) (z9 (cE (.int 20)) (zc))))) (za 3 c_m (z9 (zb ixT (vE 3) (cE (.int 1))) (z9 (zb ixT (vE 3) (cE (.int 0))) (z9 (cE (.int 20)) (zc)))))))) (nxS))
  (zm (ifS (zi eqC (vB 2) (cE (.str "pick"))) (zm (ifS (orT (zi neC (ap1 zK (vB 3)) (cE (.int 1))) (orT (jO (ZI (ap1 (jo "tuple") (zb ixT (vE 3) (cE (.int 0)))))) (jO (chT leC leC (cE (.int 1)) (ap1 zK (zb ixT (vE 3) (cE (.int 0)))) (cE (.int 4)))))) (zt (cE (.bl false))) (nxS))
  (zm (zx 4 (zC (Zm (zb ixT (vE 3) (cE (.int 0)))) (zo 0) (jt (ZI (ap1 (jo "tuple") (vB 0))) (zi eqC (ap1 zK (vB 0)) (cE (.int 2)))) (vE 0) 1 []))
  (zm (zx 5 (zC (Zm (vE 4)) (zo 0) (jt (ZI (za 1 c_s (z9 (zb ixT (vE 0) (cE (.int 0))) (zc)))) (ZI (za 3 c_m (z9 (zb ixT (vE 0) (cE (.int 1))) (z9 (cE (.int 1)) (z9 (cE (.int 20)) (zc))))))) (zb ixT (vE 0) (cE (.int 0))) 1 []))
  (zt (Ja (Zi eqC (ap1 zK (vB 5)) (ap1 zK (zb ixT (vE 3) (cE (.int 0))))) (Zi eqC (zC (Zd (ap1 zK (vB 5))) (zo 0) (zi inC (zb ixT (vE 1) (vE 0)) (slE (vE 1) (noO) (Z5 (vE 0)))) (vE 0) 1 [5]) (Zp (zc)))))))) (nxS))
  (zm (ifS (zi eqC (vB 2) (cE (.str "row"))) (zm (ifS (orT (zi neC (ap1 zK (vB 3)) (cE (.int 1))) (orT (jO (ZI (ap1 (jo "tuple") (zb ixT (vE 3) (cE (.int 0)))))) (jO (chT leC leC (cE (.int 1)) (ap1 zK (zb ixT (vE 3) (cE (.int 0)))) (cE (.int 3)))))) (zt (cE (.bl false))) (nxS))
  (zt (Zi eqC (zC (Zm (zb ixT (vE 3) (cE (.int 0)))) (zo 0) (jO (ZI (za 2 c_a (z9 (vE 0) (z9 (zb jN (vE 1) (cE (.int 1))) (zc)))))) (vE 0) 1 [1]) (Zp (zc))))) (nxS))
  (zm (ifS (orT (zi neC (vB 2) (cE (.str "many"))) (orT (zi neC (ap1 zK (vB 3)) (cE (.int 3))) (orT (jO (ZI (za 3 c_m (z9 (zb ixT (vE 3) (cE (.int 1))) (z9 (cE (.int 0)) (z9 (cE (.int 3)) (zc))))))) (jO (ZI (za 3 c_m (z9 (zb ixT (vE 3) (cE (.int 2))) (z9 (zb ixT (vE 3) (cE (.int 1))) (z9 (cE (.int 3)) (zc)))))))))) (zt (cE (.bl false))) (nxS))
  (zt (za 2 c_a (z9 (zb ixT (vE 3) (cE (.int 0))) (z9 (zb jN (vE 1) (cE (.int 1))) (zc))))))))))
def S_a:Nat->Nat->List T->R T
 | 0,_=>λ_=> .bad
 | n+1,_=>λts=>zg (b_a (f_m) (f_s) (S_a n 0) (en0 6 ts))
abbrev f_a (n:Nat):List T->R T:=S_a n 0
def b_9:En->RS:=
  zm (yB 1 (z9 (JF 0 okX JI) (z9 (JF 0 okX jS) (z9 (JF 0 okX jT) (z9 (JF 0 okX jU) (zc))))))
  (zm (qT 1 (Zp (z9 (JF 0 okX jx) (z9 (JF 0 okX jy) (zc)))))
  (zm (ifS (orT (zi neC (KW GO (vB 1) (cE (.bl true))) (cE (.int 1))) (jO (ZI (JF 0 okX ZV)))) (zt (cE (.str "wrong"))) (nxS))
  (zt (zb ixT (Zp (z9 (cE (.str "ended")) (z9 (cE (.str "no kind")) (z9 (cE (.str "no rule")) (z9 (cE (.str "no text")) (z9 (cE (.str "no worth")) (z9 (cE (.str "too many")) (zc)))))))) (KW GP (vB 1) (cE (.bl true)))))))
def f_9:Nat->R T:=λc=>zg (b_9  (enC 2 c))
def b_q:En->RS:=
  zt (Ja (ap1 (jo "int") (vB 0)) (Gi (ap1 (jo "bool") (vB 0))))
def f_q:List T->R T:=λts=>zg (b_q  (en0 1 ts))
def b_17 (c_q:List T->R T):En->RS:=
  zt (Ja (za 1 c_q (z9 (vE 0) (zc))) (Ja (za 1 c_q (z9 (vE 1) (zc))) (ch3E leC leC leC (vB 2) (vB 0) (vB 1) (vB 3))))
def gf:List T->R T:=λts=>zg (b_17 (f_q) (en0 4 ts))
def b_j:En->RS:=
  zt (Ja (ap1 (jo "tuple") (vB 0)) (chE leC leC (vB 1) (ap1 zK (vB 0)) (vB 2)))
def f_j:List T->R T:=λts=>zg (b_j  (en0 3 ts))
def b_7:En->RS:=
  zm (ifS (orT (jO (ZI (ap1 (jo "str") (vB 0)))) (jO (chT leC leC (cE (.int 1)) (ap1 zK (vB 0)) (cE (.int 3))))) (zt (cE (.bl false))) (nxS))
  (zt (ap1 Vw (zC (Zm (vE 0)) (zo 0) (Z1) (chE leC leC (cE (.str "a")) (vB 0) (cE (.str "z"))) 1 [])))
def f_7:List T->R T:=λts=>zg (b_7  (en0 1 ts))
def b_z (c_q:List T->R T)(c_j:List T->R T)(c_7:List T->R T):En->RS:=
  zt (Ja (za 3 c_j (z9 (vE 0) (z9 (cE (.int 2)) (z9 (cE (.int 2)) (zc))))) (Ja (za 1 c_7 (z9 (zb ixT (vE 0) (cE (.int 0))) (zc))) (Ja (za 1 c_q (z9 (zb ixT (vE 0) (cE (.int 1))) (zc))) (chE leC leC (cE (.int 1)) (zb ixT (vE 0) (cE (.int 1))) (cE (.int 20))))))
def f_z:List T->R T:=λts=>zg (b_z (f_q) (f_j) (f_7) (en0 1 ts))
def b_t (c_j:List T->R T)(c_z:List T->R T):En->RS:=
  zm (ifS (orT (jO (ZI (za 3 c_j (z9 (vE 0) (z9 (cE (.int 1)) (z9 (cE (.int 4)) (zc))))))) (jO (ZI (ap1 Vw (zC (Zm (vE 0)) (zo 0) (Z1) (za 1 c_z (z9 (vE 0) (zc))) 1 []))))) (zt (cE (.bl false))) (nxS))
  (zm (zx 1 (zC (Zm (vE 0)) (zo 0) (Z1) (zb ixT (vE 0) (cE (.int 0))) 1 []))
  (zt (Zi eqC (ap1 qZ (vB 1)) (ap1 zK (vB 1)))))
def f_t:List T->R T:=λts=>zg (b_t (f_j) (f_z) (en0 2 ts))
def b_b (c_17:List T->R T)(c_b:List T->R T)(c_t:List T->R T)(c_15:List T->R T):En->RS:=
  zm (ifS (orT (zi eqC (vB 1) (cE (.int 0))) (orT (jO (ZI (ap1 (jo "tuple") (vB 0)))) (zi eqC (ap1 zK (vB 0)) (cE (.int 0))))) (zt (cE (.bl false))) (nxS))
  (zm (ifS (zi eqC (zb ixT (vE 0) (cE (.int 0))) (cE (.str "whole"))) (zt (Ja (Zi eqC (ap1 zK (vB 0)) (cE (.int 3))) (za 4 c_17 (z9 (zb ixT (vE 0) (cE (.int 1))) (z9 (zb ixT (vE 0) (cE (.int 2))) (z9 (uE (cE (.int 20))) (z9 (cE (.int 20)) (zc)))))))) (nxS))
  (zm (ifS (zi eqC (zb ixT (vE 0) (cE (.int 0))) (cE (.str "pick"))) (zt (Ja (Zi eqC (ap1 zK (vB 0)) (cE (.int 2))) (za 1 c_t (z9 (zb ixT (vE 0) (cE (.int 1))) (zc))))) (nxS))
  (zm (ifS (zi eqC (zb ixT (vE 0) (cE (.int 0))) (cE (.str "row"))) (zt (Ja (Zi eqC (ap1 zK (vB 0)) (cE (.int 2))) (za 2 c_15 (z9 (zb ixT (vE 0) (cE (.int 1))) (z9 (zb jN (vE 1) (cE (.int 1))) (zc)))))) (nxS))
  (zm (ifS (zi eqC (zb ixT (vE 0) (cE (.int 0))) (cE (.str "many"))) (zt (Ja (Zi eqC (ap1 zK (vB 0)) (cE (.int 4))) (Ja (za 4 c_17 (z9 (zb ixT (vE 0) (cE (.int 2))) (z9 (zb ixT (vE 0) (cE (.int 3))) (z9 (cE (.int 0)) (z9 (cE (.int 3)) (zc)))))) (za 2 c_b (z9 (zb ixT (vE 0) (cE (.int 1))) (z9 (zb jN (vE 1) (cE (.int 1))) (zc))))))) (nxS))
  (zt (cE (.bl false)))))))
def gh (c_j:List T->R T)(c_b:List T->R T):En->RS:=
  zt (Ja (za 3 c_j (z9 (vE 0) (z9 (cE (.int 1)) (z9 (cE (.int 3)) (zc))))) (ap1 Vw (zC (Zm (vE 0)) (zo 0) (Z1) (za 2 c_b (z9 (vE 0) (z9 (vE 1) (zc)))) 1 [1])))
def S_b:Nat->Nat->List T->R T
 | 0,_=>λ_=> .bad
 | n+1,0=>λts=>zg (b_b (gf) (S_b n 0) (f_t) (S_b n 1) (en0 2 ts))
 | n+1,_=>λts=>zg (gh (f_j) (S_b n 0) (en0 2 ts))
abbrev f_b (n:Nat):List T->R T:=S_b n 0
abbrev f_15 (n:Nat):List T->R T:=S_b n 1
def b_1 (c_b:List T->R T):En->RS:=
  zt (za 2 c_b (z9 (vE 0) (z9 (cE (.int 3)) (zc))))
def f_1:List T->R T:=λts=>zg (b_1 (f_b 20) (en0 1 ts))
def b_l (c_1:List T->R T):En->RS:=
  ifS (jO (ZI (za 1 c_1 (z9 (vE 0) (zc))))) (vj 0) (nxS)
def f_l:List T->R T:=λts=>zg (b_l (f_1) (en0 1 ts))
def gj:En->RS:=
  zm (zx 2 (zb Jn (zb ixT (vE 0) (cE (.int 1))) (zb ixT (vE 1) (cE (.int 1)))))
  (zm (zx 3 (zb ZY (zb ixT (vE 0) (cE (.int 2))) (zb ixT (vE 1) (cE (.int 2)))))
  (zt (ifE (zi leC (vB 2) (vB 3)) (zp (z9 (cE (.str "whole")) (z9 (vE 2) (z9 (vE 3) (zc))))) (cE .non))))
def kT:List T->R T:=λts=>zg (gj  (en0 4 ts))
def b_v:En->RS:=
  zt (zC (Zm (zb ixT (vE 0) (cE (.int 1)))) (zo 0) (Z1) (zb ixT (vE 0) (cE (.int 0))) 1 [])
def f_v:List T->R T:=λts=>zg (b_v  (en0 1 ts))
def b_x (c_v:List T->R T):En->RS:=
  zm (zx 2 (za 1 c_v (z9 (vE 1) (zc))))
  (zm (zx 3 (zC (Zm (zb ixT (vE 0) (cE (.int 1)))) (zo 0) (zi inC (zb ixT (vE 0) (cE (.int 0))) (vB 1)) (vE 0) 1 [2]))
  (zt (ifE (zi gtC (ap1 zK (vB 3)) (cE (.int 0))) (zp (z9 (cE (.str "pick")) (z9 (ap1 UI (vE 3)) (zc)))) (cE .non))))
def f_x:List T->R T:=λts=>zg (b_x (f_v) (en0 4 ts))
def b_y:En->RS:=
  zm (ifS (zi eqC (zb ixT (vE 0) (cE (.int 0))) (cE (.str "row"))) (zt (zb ixT (vE 0) (cE (.int 1)))) (nxS))
  (zm (ifS (jt (zi eqC (zb ixT (vE 0) (cE (.int 0))) (cE (.str "many"))) (chT leC leC (zb ixT (vE 0) (cE (.int 2))) (vB 1) (zb ixT (vE 0) (cE (.int 3))))) (zt (zb qu (zp (z9 (zb ixT (vE 0) (cE (.int 1))) (zc))) (vE 1))) (nxS))
  (zt (zp (zc))))
def f_y:List T->R T:=λts=>zg (b_y  (en0 2 ts))
def b_5 (c_y:List T->R T)(c_14:List T->R T)(c_13:List T->R T)(c_x:List T->R T)(c_18:List T->R T):En->RS:=
  zm (ifS (zi eqC (zb ixT (vE 0) (cE (.int 0))) (cE (.str "row"))) (zt (za 2 c_14 (z9 (zb ixT (vE 0) (cE (.int 1))) (z9 (za 2 c_y (z9 (vE 1) (z9 (ap1 zK (zb ixT (vE 0) (cE (.int 1)))) (zc)))) (zc))))) (nxS))
  (zm (ifS (zi eqC (zb ixT (vE 1) (cE (.int 0))) (cE (.str "row"))) (zt (za 2 c_14 (z9 (za 2 c_y (z9 (vE 0) (z9 (ap1 zK (zb ixT (vE 1) (cE (.int 1)))) (zc)))) (z9 (zb ixT (vE 1) (cE (.int 1))) (zc))))) (nxS))
  (zm (ifS (zi neC (zb ixT (vE 0) (cE (.int 0))) (zb ixT (vE 1) (cE (.int 0)))) (zt (cE .non)) (nxS))
  (zm (ifS (zi eqC (zb ixT (vE 0) (cE (.int 0))) (cE (.str "whole"))) (zt (za 2 c_13 (z9 (vE 0) (z9 (vE 1) (zc))))) (nxS))
  (zm (ifS (zi eqC (zb ixT (vE 0) (cE (.int 0))) (cE (.str "pick"))) (zt (za 2 c_x (z9 (vE 0) (z9 (vE 1) (zc))))) (nxS))
  (zt (za 2 c_18 (z9 (vE 0) (z9 (vE 1) (zc)))))))))
def gm (c_5:List T->R T):En->RS:=
  zm (ifS (zi neC (ap1 zK (vB 0)) (ap1 zK (vB 1))) (zt (cE .non)) (nxS))
  (zm (zx 2 (zC (kL (vE 0) (vE 1)) (Zb 0 1) (Z1) (za 2 c_5 (z9 (vE 0) (z9 (vE 1) (zc)))) 2 []))
  (zm (ifS (zi inC (cE .non) (vB 2)) (zt (cE .non)) (nxS))
  (zt (zp (z9 (cE (.str "row")) (z9 (ap1 UI (vE 2)) (zc)))))))
def gp (c_5:List T->R T):En->RS:=
  zm (zx 2 (zb Jn (zb ixT (vE 0) (cE (.int 2))) (zb ixT (vE 1) (cE (.int 2)))))
  (zm (zx 3 (zb ZY (zb ixT (vE 0) (cE (.int 3))) (zb ixT (vE 1) (cE (.int 3)))))
  (zm (ifS (zi gtC (vB 2) (vB 3)) (zt (cE .non)) (nxS))
  (zm (zx 4 (za 2 c_5 (z9 (zb ixT (vE 0) (cE (.int 1))) (z9 (zb ixT (vE 1) (cE (.int 1))) (zc)))))
  (zm (ifS (zi Z8 (vB 4) (cE .non)) (zt (zp (z9 (cE (.str "many")) (z9 (vE 4) (z9 (vE 2) (z9 (vE 3) (zc))))))) (nxS))
  (zt (ifE (zi eqC (vB 2) (cE (.int 0))) (zp (z9 (cE (.str "many")) (z9 (zb ixT (vE 0) (cE (.int 1))) (z9 (cE (.int 0)) (z9 (cE (.int 0)) (zc)))))) (cE .non)))))))
def S_5:Nat->Nat->List T->R T
 | 0,_=>λ_=> .bad
 | n+1,0=>λts=>zg (b_5 (f_y) (S_5 n 1) (kT) (f_x) (S_5 n 2) (en0 2 ts))
 | n+1,1=>λts=>zg (gm (S_5 n 0) (en0 3 ts))
 | n+1,_=>λts=>zg (gp (S_5 n 0) (en0 5 ts))
abbrev f_5 (n:Nat):List T->R T:=S_5 n 0
abbrev f_14 (n:Nat):List T->R T:=S_5 n 1
abbrev f_18 (n:Nat):List T->R T:=S_5 n 2
def b_c (c_l:List T->R T)(c_5:List T->R T):En->RS:=
  zm (u4 (za 1 c_l (z9 (vE 0) (zc))))
  (zm (u4 (za 1 c_l (z9 (vE 1) (zc))))
  (zt (za 2 c_5 (z9 (vE 0) (z9 (vE 1) (zc))))))
def f_c:List T->R T:=λts=>zg (b_c (f_l) (f_5 20) (en0 2 ts))
def b_4 (c_n:List T->R T)(c_12:List T->R T):En->RS:=
  zm (ifS (zi eqC (zb ixT (vE 0) (cE (.int 0))) (cE (.str "whole"))) (zt (zb zl (zb jN (zb ixT (vE 0) (cE (.int 2))) (zb ixT (vE 0) (cE (.int 1)))) (cE (.int 1)))) (nxS))
  (zm (ifS (zi eqC (zb ixT (vE 0) (cE (.int 0))) (cE (.str "pick"))) (zt (ap1 zK (zb ixT (vE 0) (cE (.int 1))))) (nxS))
  (zm (ifS (zi eqC (zb ixT (vE 0) (cE (.int 0))) (cE (.str "row"))) (zt (za 1 c_n (z9 (zb ixT (vE 0) (cE (.int 1))) (zc)))) (nxS))
  (zt (za 2 c_12 (z9 (vE 0) (z9 (zb zl (zb ixT (vE 0) (cE (.int 3))) (cE (.int 1))) (zc)))))))
def b_n (c_4:List T->R T):En->RS:=
  zm (zx 1 (cE (.int 1)))
  (zm (ju (Zm (vE 0)) (zo 2) (zx 1 (zb Z0 (vE 1) (za 1 c_4 (z9 (vE 2) (zc))))))
  (zt (vE 1)))
def X7 (c_n:List T->R T):En->RS:=
  zt (ap1 KY (zC (Jm (zb ixT (vE 0) (cE (.int 2))) (vE 1)) (zo 0) (Z1) (za 1 c_n (z9 (zb Z0 (Zp (z9 (zb ixT (vE 1) (cE (.int 1))) (zc))) (vE 0)) (zc))) 1 [0]))
def S_4:Nat->Nat->List T->R T
 | 0,_=>λ_=> .bad
 | n+1,0=>λts=>zg (b_4 (S_4 n 1) (S_4 n 2) (en0 1 ts))
 | n+1,1=>λts=>zg (b_n (S_4 n 0) (en0 3 ts))
 | n+1,_=>λts=>zg (X7 (S_4 n 1) (en0 2 ts))
abbrev f_4 (n:Nat):List T->R T:=S_4 n 0
abbrev f_n (n:Nat):List T->R T:=S_4 n 1
abbrev f_12 (n:Nat):List T->R T:=S_4 n 2
def b_p (c_4:List T->R T)(c_c:List T->R T):En->RS:=
  zm (zx 2 (za 2 c_c (z9 (vE 0) (z9 (vE 1) (zc)))))
  (zt (Ja (Zi Z8 (vB 2) (cE .non)) (Zi eqC (za 1 c_4 (z9 (vE 2) (zc))) (za 1 c_4 (z9 (vE 0) (zc))))))
def f_p:List T->R T:=λts=>zg (b_p (f_4 20) (f_c) (en0 3 ts))
def b_o (c_c:List T->R T):En->RS:=
  zt (Zi Jl (za 2 c_c (z9 (vE 0) (z9 (vE 1) (zc)))) (cE .non))
def f_o:List T->R T:=λts=>zg (b_o (f_c) (en0 2 ts))
def b_6 (c_9:Nat->R T)(c_c:List T->R T)(c_p:List T->R T)(c_o:List T->R T):En->RS:=
  zm (zx 3 (cE .non))
  (zm (zx 4 (cE .non))
  (zm (VL 3 okX (zx 4 (Uu 2 c_c c_p c_o (vE 0) (z9 (vE 1) (z9 (vE 2) (zc))))))
  (zm (ifS (kC 3) (zt (vE 4)) (nxS))
  (zt (VP 3 c_9)))))
def f_6:List T->R T:=λts=>zg (b_6 (f_9) (f_c) (f_p) (f_o) (en0 6 ts))
def b_d:En->RS:=
  zt (zC (Zm (ap1 uR (zC (Zm (vE 0)) (zo 0) (Z1) (zp (z9 (ap1 Ws (vE 0)) (z9 (vE 0) (zc)))) 1 []))) (Zb 0 1) (Z1) (vE 1) 2 [])
def f_d:List T->R T:=λts=>zg (b_d  (en0 1 ts))
def b_r (c_1:List T->R T)(c_2:List T->R T)(c_3:List T->R T)(c_6:List T->R T)(c_d:List T->R T):En->RS:=
  zm (zx 1 (zC (Zd (zb zl (cE (.int 1)) (za 3 c_2 (z9 (vE 0) (z9 (cE (.int 7610)) (z9 (cE (.int 3)) (zc))))))) (zo 0) (Z1) (zp (z9 (cE (.str "whole")) (z9 (cE (.int 0)) (z9 (zb zl (cE (.int 1)) (za 3 c_2 (z9 (vE 1) (z9 (zb zl (cE (.int 7600)) (vE 0)) (z9 (cE (.int 3)) (zc)))))) (zc))))) 1 [0]))
  (zm (uJ 2 3 (z9 (zp (z9 (cE (.str "row")) (z9 (ap1 UI (vE 1)) (zc)))) (z9 (za 3 c_2 (z9 (vE 0) (z9 (cE (.int 7611)) (z9 (cE (.int 4)) (zc))))) (zc))))
  (zm (zx 4 (zp (z9 (cE (.str "many")) (z9 (zp (z9 (cE (.str "whole")) (z9 (za 3 c_2 (z9 (vE 0) (z9 (cE (.int 7613)) (z9 (cE (.int 3)) (zc))))) (z9 (cE (.int 3)) (zc))))) (z9 (vE 3) (z9 (zb zl (vE 3) (za 3 c_2 (z9 (vE 0) (z9 (cE (.int 7612)) (z9 (zb jN (cE (.int 4)) (vE 3)) (zc)))))) (zc)))))))
  (zm (zx 5 (zC (Zm (za 1 c_3 (z9 (vE 2) (zc)))) (zo 0) (zi inC (vB 0) (za 1 c_3 (z9 (vE 1) (zc)))) (vE 0) 1 [4]))
  (zm (ju (Zm (zp (z9 (zp (z9 (vE 2) (z9 (vE 4) (zc)))) (z9 (zp (z9 (vE 4) (z9 (vE 2) (zc)))) (zc))))) (Zb 6 7) (zm (zx 8 (za 3 c_6 (z9 (cE (.int 0)) (z9 (vE 6) (z9 (vE 7) (zc))))))
  (zm (ifS (orT (zi neC (Zi Jl (vB 8) (cE .non)) (Zi eqC (vB 5) (Zp (zc)))) (jt (zi Z8 (vB 8) (cE .non)) (zi Z8 (za 1 c_1 (z9 (vE 8) (zc))) (cE (.bl true))))) (zt (cE (.bl false))) (nxS))
  (zm (ifS (jt (zi Z8 (vB 8) (cE .non)) (zi neC (za 1 c_d (z9 (za 1 c_3 (z9 (vE 8) (zc))) (zc))) (za 1 c_d (z9 (vE 5) (zc))))) (zt (cE (.bl false))) (nxS))
  (ifS (orT (zi neC (za 3 c_6 (z9 (cE (.int 1)) (z9 (vE 6) (z9 (vE 7) (zc))))) (Zi eqC (ap1 zK (vB 5)) (ap1 zK (za 1 c_3 (z9 (vE 6) (zc)))))) (zi neC (za 3 c_6 (z9 (cE (.int 2)) (z9 (vE 6) (z9 (vE 7) (zc))))) (Zi eqC (vB 5) (Zp (zc))))) (zt (cE (.bl false))) (nxS))))))
  (zt (cE (.bl true)))))))
def f_r:List T->R T:=λts=>zg (b_r (f_1) (f_2) (f_3 8) (f_6) (f_d) (en0 9 ts))
def b_0 (c_1:List T->R T)(c_2:List T->R T)(c_3:List T->R T)(c_8:List T->R T)(c_u:List T->R T)(c_a:List T->R T)(c_10:List T->R T)(c_6:List T->R T)(c_h:List T->R T)(c_d:List T->R T)(c_r:List T->R T):En->RS:=
  zm (zx 1 (zp (z9 (cE (.str "whole")) (z9 (cE (.int 0)) (z9 (cE (.int 1)) (zc))))))
  (zm (ifS (zi Z8 (za 3 c_6 (z9 (cE (.int 0)) (z9 (zp (z9 (cE (.str "row")) (z9 (zb Z0 (zp (z9 (vE 1) (zc))) (cE (.int 2))) (zc)))) (z9 (zp (z9 (cE (.str "row")) (z9 (zb Z0 (zp (z9 (vE 1) (zc))) (cE (.int 3))) (zc)))) (zc))))) (cE .non)) (zt (cE (.bl false))) (nxS))
  (zm (zx 2 (za 3 c_u (z9 (vE 0) (z9 (cE (.int 0)) (z9 (cE (.int 60)) (zc))))))
  (zm (zx 3 (za 3 c_h (z9 (vE 0) (z9 (cE (.int 4000)) (z9 (vE 2) (zc))))))
  (zm (ifS (orT (zi gtC (za 1 c_8 (z9 (vE 3) (zc))) (cE (.int 130))) (zi eqC (za 3 c_2 (z9 (vE 0) (z9 (cE (.int 4900)) (z9 (cE (.int 5)) (zc))))) (cE (.int 0)))) (zx 3 (za 3 c_u (z9 (vE 0) (z9 (cE (.int 6000)) (z9 (cE (.int 60)) (zc)))))) (nxS))
  (zm (KZ (zp (z9 (za 1 c_3 (z9 (vE 2) (zc))) (z9 (za 1 c_3 (z9 (vE 3) (zc))) (zc)))) (Zb 4 5))
  (zm (zx 6 (zC (Zm (vE 4)) (zo 0) (zi inC (vB 0) (vB 1)) (vE 0) 1 [5]))
  (zm (uJ 7 8 (z9 (za 3 c_6 (z9 (cE (.int 0)) (z9 (vE 2) (z9 (vE 3) (zc))))) (z9 (za 3 c_6 (z9 (cE (.int 0)) (z9 (vE 3) (z9 (vE 2) (zc))))) (zc))))
  (zm (ifS (orT (zi neC (Zi Jl (vB 7) (cE .non)) (Zi eqC (vB 6) (Zp (zc)))) (zi neC (Zi Jl (vB 8) (cE .non)) (Zi eqC (vB 6) (Zp (zc))))) (zt (cE (.bl false))) (nxS))
  (zm (ifS (zi Z8 (vB 7) (cE .non)) (zm (ifS (orT (zi Z8 (za 1 c_1 (z9 (vE 7) (zc))) (cE (.bl true))) (zi neC (za 1 c_d (z9 (za 1 c_3 (z9 (vE 7) (zc))) (zc))) (za 1 c_d (z9 (vE 6) (zc))))) (zt (cE (.bl false))) (nxS))
  (ifS (zi neC (za 1 c_d (z9 (za 1 c_3 (z9 (vE 8) (zc))) (zc))) (za 1 c_d (z9 (vE 6) (zc)))) (zt (cE (.bl false))) (nxS))) (nxS))
  (zm (ifS (orT (zi neC (za 3 c_6 (z9 (cE (.int 1)) (z9 (vE 2) (z9 (vE 3) (zc))))) (Zi eqC (ap1 zK (vB 6)) (ap1 zK (vB 4)))) (zi neC (za 3 c_6 (z9 (cE (.int 1)) (z9 (vE 3) (z9 (vE 2) (zc))))) (Zi eqC (ap1 zK (vB 6)) (ap1 zK (vB 5))))) (zt (cE (.bl false))) (nxS))
  (zm (ifS (orT (zi neC (za 3 c_6 (z9 (cE (.int 2)) (z9 (vE 2) (z9 (vE 3) (zc))))) (Zi eqC (vB 6) (Zp (zc)))) (zi neC (za 1 c_d (z9 (za 1 c_3 (z9 (za 3 c_6 (z9 (cE (.int 0)) (z9 (vE 2) (z9 (vE 2) (zc))))) (zc))) (zc))) (za 1 c_d (z9 (vE 4) (zc))))) (zt (cE (.bl false))) (nxS))
  (zm (uJ 9 10 (z9 (za 3 c_2 (z9 (vE 0) (z9 (cE (.int 7500)) (z9 (cE (.int 2)) (zc))))) (z9 (za 3 c_2 (z9 (vE 0) (z9 (cE (.int 7501)) (z9 (cE (.int 2)) (zc))))) (zc))))
  (zm (uJ 11 12 (z9 (zp (z9 (cE (.str "many")) (z9 (zp (z9 (cE (.str "whole")) (z9 (cE (.int 0)) (z9 (cE (.int 2)) (zc))))) (z9 (vE 9) (z9 (cE (.int 2)) (zc)))))) (z9 (zp (z9 (cE (.str "many")) (z9 (zp (z9 (cE (.str "pick")) (z9 (zp (z9 (zp (z9 (cE (.str "a")) (z9 (cE (.int 1)) (zc)))) (zc))) (zc)))) (z9 (vE 10) (z9 (zb zl (cE (.int 1)) (vE 9)) (zc)))))) (zc))))
  (zm (ju (Zm (zp (z9 (za 3 c_6 (z9 (cE (.int 0)) (z9 (vE 11) (z9 (vE 12) (zc))))) (z9 (za 3 c_6 (z9 (cE (.int 0)) (z9 (vE 12) (z9 (vE 11) (zc))))) (zc))))) (zo 7) (zm (ifS (zi neC (Zi Jl (vB 7) (cE .non)) (Zi gtC (zb zl (vE 9) (vE 10)) (cE (.int 0)))) (zt (cE (.bl false))) (nxS))
  (ifS (jt (zi Z8 (vB 7) (cE .non)) (orT (zi Z8 (za 1 c_1 (z9 (vE 7) (zc))) (cE (.bl true))) (zi neC (za 1 c_3 (z9 (vE 7) (zc))) (Zp (z9 (zp (zc)) (zc)))))) (zt (cE (.bl false))) (nxS))))
  (zm (ifS (jO (ZI (za 1 c_r (z9 (vE 0) (zc))))) (zt (cE (.bl false))) (nxS))
  (zm (zx 13 (za 3 c_10 (z9 (vE 0) (z9 (cE (.int 7000)) (z9 (vE 2) (zc))))))
  (zm (ifS (ZI (za 2 c_a (z9 (vE 13) (z9 (cE (.int 3)) (zc))))) (zt (cE (.bl true))) (nxS))
  (zm (zx 14 (zb zl (zC (Zd (cE (.int 3))) (zo 0) (Z1) (za 3 c_6 (z9 (vE 0) (z9 (vE 2) (z9 (vE 1) (zc))))) 1 [2,13]) (zC (Zd (cE (.int 3))) (zo 0) (Z1) (za 3 c_6 (z9 (vE 0) (z9 (vE 1) (z9 (vE 2) (zc))))) 1 [2,13])))
  (zt (Zi eqC (vB 14) (zb Z0 (Zp (z9 (cE (.str "no kind")) (zc))) (cE (.int 6)))))))))))))))))))))))
def f_0:List T->R T:=λts=>zg (b_0 (f_1) (f_2) (f_3 8) (f_8 8) (f_u) (f_a 12) (X6) (f_6) (f_h 8) (f_d) (f_r) (en0 15 ts))
end G
namespace G
open PySem L2 PV
abbrev scr (ns:List Int):T:= .fz (ns.map T.int)
theorem xn (ns:List Int)(k:Int)(h0:0<=k):∃c,kS [scr ns,.int k]= .ok (.int c):=by
 have e1:kS [scr ns,.int k]=zg (if decide (k < ((ns.map T.int).length:Int))=true then (atT (ns.map T.int) k).s (λt=> .rt t) else
   match (eqC (scr ns) (.lst [])).s (λb=>if b=true then RS.rt (.int 0) else .nx [.vl (scr ns),.vl (.int k)]) with
   | .nx ρ' =>zt (zb zl (zb Z0 (zb ixT (vE 0) (zb jB (vE 1) (ap1 zK (vB 0)))) (cE (.int 31))) (vE 1)) ρ'
   | r=>r):=by
  show zg (match (if decide (k < ((ns.map T.int).length:Int))=true then (atT (ns.map T.int) k).s (λt=>RS.rt t) else .nx [.vl (scr ns),.vl (.int k)]) with
   | .nx ρ' =>_
   | r=>r)=_
  cases decide (k < ((ns.map T.int).length:Int)) with
  | true=>
   rw[if_pos rfl,if_pos rfl];unfold atT;cases atI (ns.map T.int) k <;> rfl
  | false=>rfl
 rw[e1,ac]
 by_cases hk:k < (ns.length:Int)
 ·obtain⟨v,hv⟩:∃v,ns[k.toNat]? =some v:=⟨ns[k.toNat]'(by omega),ad (by omega)⟩
  have ea:atI (ns.map T.int) k=some (.int v):=by
   have:k=((k.toNat:Nat):Int):=by omega
   rw[this];exact ZL (by rw[aG,hv];rfl)
  rw[decide_eq_true hk,if_pos rfl];exact⟨v,by unfold atT;rw[ea];rfl⟩
 ·rw[decide_eq_false hk,if_neg ao];cases ns with
  | nil=>exact⟨0,rfl⟩
  | cons x xs=>
   have hm0:=fE k (show (((x :: xs).length:Nat):Int) ≠ 0 by simp only[al];omega)
   have hm1:=eB k (show (0:Int) < (((x :: xs).length:Nat):Int) by simp only[al];omega)
   obtain⟨v,hv⟩:∃v,(x :: xs)[(k % (((x :: xs).length:Nat):Int)).toNat]? =some v:=⟨_,ad (by omega)⟩
   have ea:atI ((x :: xs).map T.int) (k % (((x :: xs).length:Nat):Int))=some (.int v):=by
    have e:k % (((x :: xs).length:Nat):Int)=(((k % (((x :: xs).length:Nat):Int)).toNat:Nat):Int):=by omega
    rw[e];exact ZL (by rw[aG,hv];rfl)
   have cm:W3 v 31:= .inr ⟨by decide,by decide⟩
   have hp:(0:Int) < (((x :: xs).map T.int).length:Int):=by simp only[ac,al];omega
   refine⟨v*31+k, ?_⟩;show zg (((((if 0 < (((x :: xs).map T.int).length:Int) then R.ok (T.int (k % (((x :: xs).map T.int).length:Int))) else .bad).bind λy=>ixT (scr (x :: xs)) y).bind λa=>Z0 a (.int 31)).bind λa=>zl a (.int k)).s λt=> .rt t)=_
   rw[if_pos hp];show zg ((((atT ((x :: xs).map T.int) (k % (((x :: xs).map T.int).length:Int))).bind λa=>Z0 a (.int 31)).bind λa=>zl a (.int k)).s λt=> .rt t)=_;rw[ac];unfold atT;rw[ea];show zg ((((if W3 v 31 then R.ok (T.int (v*31)) else .bad)).bind λa=>zl a (.int k)).s λt=> .rt t)=_
   rw[if_pos cm];rfl
theorem zL (ns:List Int)(k m:Int)(h0:0<=k)(hm:0 < m):∃p,f_2 [scr ns,.int k,.int m]= .ok (.int p)/\0<=p/\p < m:=by
 obtain⟨c,hc⟩:=xn ns k h0;have cm1:W3 6151 (k+1):= .inl ⟨by decide,by decide⟩
 have cm2:W3 (c+6151*(k+1)) 40692:= .inr ⟨by decide,by decide⟩
 generalize hd:(c+6151*(k+1))*40692 % 2147483399=d;have hd0:0<=d:=by rw[← hd];exact fE _ (by decide)
 have hd1:d < 2147483399:=by rw[← hd];exact eB _ (by decide)
 have cm3:W3 d d:= .inl ⟨by omega,by omega⟩
 refine⟨(d*d+d / 31) % 2147483629 % m, ?_,fE _ (by omega),eB _ hm⟩
 have e1:f_2 [scr ns,.int k,.int m]=zg (match ((((((kS [scr ns,.int k]).bind λx=>(Z0 (.int 6151) (.int (k+1))).bind λy=>zl x y).bind λx=>Z0 x (.int 40692)).bind λx=>jB x (.int 2147483399))).s λt=>RS.nx [.vl (scr ns),.vl (.int k),.vl (.int m),.vl t]) with
   | .nx ρ' =>zt (zb jB (zb jB (zb zl (zb Z0 (vE 3) (vE 3)) (zb Um (vE 3) (cE (.int 31)))) (cE (.int 2147483629))) (vE 2)) ρ'
   | r=>r):=rfl
 rw[e1,hc];show zg (match (((((if W3 6151 (k+1) then R.ok (T.int (6151*(k+1))) else .bad).bind λy=>zl (.int c) y).bind λx=>Z0 x (.int 40692)).bind λx=>jB x (.int 2147483399)).s λt=>RS.nx [.vl (scr ns),.vl (.int k),.vl (.int m),.vl t]) with
   | .nx ρ' =>_
   | r=>r)=_
 rw[if_pos cm1];show zg (match ((((if W3 (c+6151*(k+1)) 40692 then R.ok (T.int ((c+6151*(k+1))*40692)) else .bad)).bind λx=>jB x (.int 2147483399)).s λt=>RS.nx [.vl (scr ns),.vl (.int k),.vl (.int m),.vl t]) with
   | .nx ρ' =>_
   | r=>r)=_
 rw[if_pos cm2];show zg (zt (zb jB (zb jB (zb zl (zb Z0 (vE 3) (vE 3)) (zb Um (vE 3) (cE (.int 31)))) (cE (.int 2147483629))) (vE 2)) [.vl (scr ns),.vl (.int k),.vl (.int m),.vl (.int ((c+6151*(k+1))*40692 % 2147483399))])=_;rw[hd];show zg (((((if W3 d d then R.ok (T.int (d*d)) else .bad).bind λx=>zl x (.int (d / 31))).bind λx=>jB x (.int 2147483629)).bind λx=>jB x (.int m)).s λt=>RS.rt t)=_
 rw[if_pos cm3];show zg ((if 0 < m then R.ok (T.int ((d*d+d / 31) % 2147483629 % m)) else .bad).s λt=>RS.rt t)=_
 rw[if_pos hm];rfl
theorem Y7 {ft:En->R Bool}{fe:En->R T}:∀(ts:List T) (ρ:En) (x:Sl),zI (zo 0) ft fe ts (ρ.set 0 x)=zI (zo 0) ft fe ts ρ
 | [],_,_=>rfl
 | t :: ts,ρ,x=>by
  unfold zI zo;rw[List.set_set]
theorem zW {ft:En->R Bool}{fe:En->R T}{p:T->Bool}{h:T->T}:∀(ts:List T) (ρ:En),(∀t∈ts,ft (ρ.set 0 (.vl t))= .ok (p t)/\(p t=true->fe (ρ.set 0 (.vl t))= .ok (h t)))->zI (zo 0) ft fe ts ρ= .ok ((ts.filter p).map h)
 | [],_,_=>rfl
 | t :: ts,ρ,H=>by
  obtain⟨h1,h2⟩:=H t ah;have ih:=zW ts ρ λu hu=>H u (ae _ hu);have e:zI (zo 0) ft fe (t :: ts) ρ=(ft (ρ.set 0 (.vl t))).bind λk=>if k=true then (fe (ρ.set 0 (.vl t))).bind λv=>(zI (zo 0) ft fe ts (ρ.set 0 (.vl t))).bind λvs=> .ok (v :: vs) else zI (zo 0) ft fe ts (ρ.set 0 (.vl t)):=rfl
  rw[e,h1,Y7,ih];show (if p t=true then _ else _)=_
  cases hp:p t with
  | true=>rw[if_pos rfl,h2 hp,dl hp];rfl
  | false=>rw[if_neg ao,dm (by rw[hp];exact ao)]
theorem Y8 {fe:En->R T}{h:T->T}(ts:List T)(ρ:En)(H:∀t∈ts,fe (ρ.set 0 (.vl t))= .ok (h t)):zI (zo 0) Z1 fe ts ρ= .ok (ts.map h):=by
 have:=zW (ft:=Z1) (fe:=fe) (p:=λ_=>true) (h:=h) ts ρ λt ht=>⟨rfl,λ_=>H t ht⟩;rw[this,cU.mpr (λ_ _=>rfl)]
theorem Z2 {fe:En->R T}{h:T->T}{k:Nat}{js:List Nat}{ρ:En}(ts:List T)(hl:ts.length<=bnd)(H:∀t∈ts,fe ((Jp k js ρ).set 0 (.vl t))= .ok (h t)):zF (zo 0) Z1 fe k js ρ ts= .ok (ts.map h):=by
 unfold zF;rw[if_pos hl,Y8 ts _ H];rfl
theorem Jr (p:T->Bool):∀ts:List T,UJ (ts.map λt=>T.bl (p t))=some (ts.all p)
 | []=>rfl
 | t :: ts=>by
  show (match UJ (ts.map λt=>T.bl (p t)) with | some j=>some (p t && j) | none=>none)=_
  rw[Jr p ts];rfl
def isW:T->Bool
 | .int _=>true
 | _=>false
theorem Qf (t:T):f_q [t]= .ok (.bl (isW t)):=by cases t <;> rfl
def Uv (a b:Nat):T->Bool
 | .tup xs=>decide (a<=xs.length) && decide (xs.length<=b)
 | _=>false
theorem jz (t:T)(a b:Nat):f_j [t,.int a,.int b]= .ok (.bl (Uv a b t)):=by
 cases t with
 | tup xs=>
  show zg ((if decide ((a:Int)<=(xs.length:Int))=true then R.ok (T.bl (decide ((xs.length:Int)<=(b:Int)))) else .ok (.bl false)).s λt=> .rt t)=_
  have e1:decide ((a:Int)<=(xs.length:Int))=decide (a<=xs.length):=by simp
  have e2:decide ((xs.length:Int)<=(b:Int))=decide (xs.length<=b):=by simp
  rw[e1,e2];show _=R.ok (T.bl (decide (a<=xs.length) && decide (xs.length<=b)));cases decide (a<=xs.length) <;> rfl
 | _=>rfl
def ja (lo hi:Int):T->T->Bool
 | .int i,.int j=>decide (lo<=i) && decide (i<=j) && decide (j<=hi)
 | _,_=>false
theorem Y9 (t u:T)(lo hi:Int):gf [t,u,.int lo,.int hi]= .ok (.bl (ja lo hi t u)):=by
 cases t with
 | int i=>
  cases u with
  | int j=>
   show zg ((if decide (lo<=i)=true then (if decide (i<=j)=true then R.ok (T.bl (decide (j<=hi))) else .ok (.bl false)) else .ok (.bl false)).s λt=> .rt t)=_
   show _=R.ok (T.bl (decide (lo<=i) && decide (i<=j) && decide (j<=hi)));cases decide (lo<=i) <;> cases decide (i<=j) <;> rfl
  | _=>rfl
 | _=>cases u <;> rfl
def zX (c:Nat):Bool:=decide (97<=c) && decide (c<=122)
def zQ:T->Bool
 | .str x=>decide (1<=x.length) && decide (x.length<=3) && x.cps.toList.all zX
 | _=>false
theorem uS (a b:Nat):decide ([a] < [b])=decide (a < b):=by
 by_cases h:a < b
 ·rw[decide_eq_true h];exact decide_eq_true (List.Lex.rel h)
 ·rw[decide_eq_false h];refine decide_eq_false λz=> ?_;cases z with
  | rel h' =>exact h h'
  | cons h' =>cases h'
theorem xo (c:Nat)(ρ:En):chE leC leC (cE (.str "a")) (vB 0) (cE (.str "z")) ((Sl.vl (.str ⟨#[c]⟩)) :: ρ)= .ok (.bl (zX c)):=by
 have e1:leC (.str "a") (.str ⟨#[c]⟩)= .ok (decide (97<=c)):=by
  show R.ok (!decide ([c] < [97]))=_;rw[uS]
  by_cases h:c < 97
  ·rw[decide_eq_true h,decide_eq_false (by omega)];rfl
  ·rw[decide_eq_false h,decide_eq_true (by omega)];rfl
 have e2:leC (.str ⟨#[c]⟩) (.str "z")= .ok (decide (c<=122)):=by
  show R.ok (!decide ([122] < [c]))=_;rw[uS]
  by_cases h:122 < c
  ·rw[decide_eq_true h,decide_eq_false (by omega)];rfl
  ·rw[decide_eq_false h,decide_eq_true (by omega)];rfl
 show (leC (.str "a") (.str ⟨#[c]⟩)).bind (λk=>if k=true then (leC (.str ⟨#[c]⟩) (.str "z")).bind λk' =>R.ok (T.bl k') else R.ok (T.bl false))=_
 rw[e1,e2];unfold zX;show (if decide (97<=c)=true then R.ok (T.bl (decide (c<=122))) else .ok (.bl false))=_
 cases decide (97<=c) <;> rfl
def xp:T->Prop
 | .str x=>x.length<=bnd
 | _=>True
theorem xr (t:T)(ht:xp t):f_7 [t]= .ok (.bl (zQ t)):=by
 cases t with
 | str x=>
  have hx:x.length<=bnd:=ht;have e0:zK (.str x)= .ok (.int x.length):=if_pos hx;have ec:zF (zo 0) Z1 (chE leC leC (cE (.str "a")) (vB 0) (cE (.str "z"))) 1 [] [.vl (.str x)] (ZM x)= .ok (x.cps.toList.map λc=>T.bl (zX c)):=by
   have hs:(ZM x).length<=bnd:=by unfold ZM;rw[ac,bu];exact hx
   have:=Z2 (fe:=chE leC leC (cE (.str "a")) (vB 0) (cE (.str "z"))) (h:=λt=>match t with | .str y=>T.bl (zX (y.cps.toList.headD 0)) | t=>t) (k:=1) (js:=[]) (ρ:=[.vl (.str x)]) (ZM x) hs λt ht=>by
    unfold ZM at ht;obtain⟨c,_,rfl⟩:=aw.mp ht;exact xo c []
   rw[this];unfold ZM;rw[aQ];rfl
  have ea:UJ (x.cps.toList.map λc=>T.bl (zX c))=some (x.cps.toList.all zX):=by
   have:=Jr (λt=>match t with | .str y=>zX (y.cps.toList.headD 0) | _=>true) (ZM x)
   unfold ZM at this;rw[aQ,i9]at this;exact this
  have e1:f_7 [.str x]=zg (match ((((zK (.str x)).bind λy=>(leC (.int 1) y).bind λk=>if k=true then leC y (.int 3) else .ok false).bind λb=> .ok (!b)).s λk=>if k=true then RS.rt (.bl false) else .nx [.vl (.str x)]) with
    | .nx ρ' =>zt (ap1 Vw (zC (Zm (vE 0)) (zo 0) (Z1) (chE leC leC (cE (.str "a")) (vB 0) (cE (.str "z"))) 1 [])) ρ'
    | r=>r):=rfl
  rw[e1,e0];have c1:decide ((1:Int)<=(x.length:Int))=decide (1<=x.length):=by
   by_cases h:1<=x.length
   ·rw[decide_eq_true h];exact decide_eq_true (by omega)
   ·rw[decide_eq_false h];exact decide_eq_false (by omega)
  have c2:decide ((x.length:Int)<=(3:Int))=decide (x.length<=3):=by
   by_cases h:x.length<=3
   ·rw[decide_eq_true h];exact decide_eq_true (by omega)
   ·rw[decide_eq_false h];exact decide_eq_false (by omega)
  show zg (match ((((if decide ((1:Int)<=(x.length:Int))=true then R.ok (decide ((x.length:Int)<=(3:Int))) else .ok false)).bind λb=> .ok (!b)).s λk=>if k=true then RS.rt (.bl false) else .nx [.vl (.str x)]) with
    | .nx ρ' =>_
    | r=>r)=_
  rw[c1,c2];show _=R.ok (T.bl (decide (1<=x.length) && decide (x.length<=3) && x.cps.toList.all zX));cases decide (1<=x.length) with
  | false=>rfl
  | true=>
   cases decide (x.length<=3) with
   | false=>rfl
   | true=>
    show zg ((((zF (zo 0) Z1 (chE leC leC (cE (.str "a")) (vB 0) (cE (.str "z"))) 1 [] [.vl (.str x)] (ZM x)).bind λvs=> .ok (.lst vs)).bind Vw).s λt=> .rt t)=_;rw[ec];show zg ((match UJ (x.cps.toList.map λc=>T.bl (zX c)) with | some k=>R.ok (T.bl k) | none=> .bad).s λt=> .rt t)=_
    rw[ea];rfl
 | _=>rfl
theorem bOk {α β:Type}(a:α)(f:α->R β):(R.ok a).bind f=f a:=rfl
theorem Z9 {α:Type}(a:α)(f:α->RS):(R.ok a).s f=f a:=rfl
theorem ZH (r:R T):zg (r.s λt=> .rt t)=r:=by cases r <;> rfl
theorem zO (f:En->R T)(ρ:En):zt f ρ=(f (frz ρ)).s λt=> .rt t:=rfl
theorem zM {g:List T->R T}{f:En->R T}{ρ:En}:za 1 g (z9 f zc) ρ=(f ρ).bind λx=>g [x]:=by
 unfold za z9 zc;cases f ρ <;> rfl
theorem Zq {g:List T->R T}{f f' :En->R T}{ρ:En}:za 2 g (z9 f (z9 f' zc)) ρ=(f ρ).bind λx=>(f' ρ).bind λy=>g [x,y]:=by
 unfold za z9 zc;cases f ρ with
 | ok a=>cases f' ρ <;> rfl
 | ex c=>rfl
 | bad=>rfl
theorem zD {g:List T->R T}{f f' f'' :En->R T}{ρ:En}:za 3 g (z9 f (z9 f' (z9 f'' zc))) ρ=(f ρ).bind λx=>(f' ρ).bind λy=>(f'' ρ).bind λz=>g [x,y,z]:=by
 unfold za z9 zc;cases f ρ with
 | ok a=>
  cases f' ρ with
  | ok b=>cases f'' ρ <;> rfl
  | ex c=>rfl
  | bad=>rfl
 | ex c=>rfl
 | bad=>rfl
theorem GU {g:List T->R T}{f f' f'' f3:En->R T}{ρ:En}:za 4 g (z9 f (z9 f' (z9 f'' (z9 f3 zc)))) ρ=(f ρ).bind λx=>(f' ρ).bind λy=>(f'' ρ).bind λz=>(f3 ρ).bind λw=>g [x,y,z,w]:=by
 unfold za z9 zc;cases f ρ with
 | ok a=>
  cases f' ρ with
  | ok b=>
   cases f'' ρ with
   | ok c=>cases f3 ρ <;> rfl
   | ex c=>rfl
   | bad=>rfl
  | ex c=>rfl
  | bad=>rfl
 | ex c=>rfl
 | bad=>rfl
def X8 (r k:R T):R T:=r.bind λx=>match x with
 | .bl true=>k
 | .bl false=> .ok (.bl false)
 | _=> .bad
theorem JJ (f g:En->R T)(ρ:En):Ja f g ρ=X8 (f ρ) (g ρ):=rfl
theorem Zx (a:Bool)(k:R T):X8 (.ok (.bl a)) k=if a=true then k else .ok (.bl false):=by cases a <;> rfl
theorem v0 {t:T}{ρ:En}:vE 0 (.vl t :: ρ)= .ok t:=rfl
theorem v1 {t:T}{a:Sl}{ρ:En}:vE 1 (a :: .vl t :: ρ)= .ok t:=rfl
theorem w0 {t:T}{ρ:En}:vB 0 (.vl t :: ρ)= .ok t:=rfl
theorem w1 {t:T}{a:Sl}{ρ:En}:vB 1 (a :: .vl t :: ρ)= .ok t:=rfl
theorem zq {t:T}{ρ:En}:cE t ρ= .ok t:=rfl
theorem zf {g:T->T->R T}{f f' :En->R T}{ρ:En}:zb g f f' ρ=(f ρ).bind λx=>(f' ρ).bind λy=>g x y:=rfl
theorem ZC {t:T}{ρ:En}:frz (.vl t :: ρ)= .vl t :: frz ρ:=rfl
theorem jV {ρ:En}:frz (.un :: ρ)= .un :: frz ρ:=rfl
theorem ZW:frz []=[]:=rfl
theorem xt {g g' :T->T->R Bool}{fa fb fc:En->R T}{ρ:En}:chE g g' fa fb fc ρ=(fa ρ).bind λx=>(fb ρ).bind λy=>(g x y).bind λk=>if k=true then (fc ρ).bind λz=>(g' y z).bind λk' => .ok (.bl k') else .ok (.bl false):=rfl
theorem zY {g:T->R T}{f:En->R T}{ρ:En}:ap1 g f ρ=(f ρ).bind g:=rfl
theorem ub {i j:Int}:leC (.int i) (.int j)= .ok (decide (i<=j)):=rfl
theorem Z3 {g:T->T->R Bool}{f f' :En->R T}{ρ:En}:Zi g f f' ρ=(f ρ).bind λx=>(f' ρ).bind λy=>(g x y).bind λb=> .ok (.bl b):=rfl
theorem ZD {xs:List T}:zK (.tup xs)= .ok (.int xs.length):=rfl
theorem wb {xs:List T}:zK (.lst xs)= .ok (.int xs.length):=rfl
mutual
def sOk:T->Prop
 | .str x=>x.length<=bnd
 | .tup xs=>jj xs
 | .lst xs=>jj xs
 | .fz xs=>jj xs
 | _=>True
def jj:List T->Prop
 | []=>True
 | t :: ts=>sOk t/\jj ts
end
theorem ZJ:∀{ts:List T} {t:T},jj ts->t∈ts->sOk t
 | u :: ts,t,h,hm=>by
  have h' :sOk u/\jj ts:=by simpa only[jj] using h
  rcases ax.mp hm with rfl | hm
  ·exact h'.1
  ·exact ZJ h'.2 hm
theorem sOk.str {t:T}(h:sOk t):xp t:=by
 cases t with
 | str x=>
  have h' :x.length<=bnd:=by simpa only[sOk] using h
  exact h'
 | _=>trivial
theorem ZN {xs:List T}(h:sOk (.tup xs)):jj xs:=by simpa only[sOk] using h
def zk:T->Bool
 | .tup [w,.int i]=>zQ w && decide (1<=i) && decide (i<=20)
 | _=>false
theorem Ya (t:T)(ht:sOk t):f_z [t]= .ok (.bl (zk t)):=by
 have e:f_z [t]=zg (b_z f_q f_j f_7 [.vl t]):=rfl;rw[e,b_z];simp only[zO,ZH,ZC,ZW,JJ,zD,zM,v0,zq,bOk,zf,xt];rw[show f_j [t,.int 2,.int 2]= .ok (.bl (Uv 2 2 t)) from jz t 2 2,Zx];cases t with
 | tup xs=>
  match xs,ht with
  | [],_=>rfl
  | [_],_=>rfl
  | _ :: _ :: _ :: _,_=>simp[Uv,zk]
  | [w,n],ht=>
   have hw:sOk w:=ZJ (ZN ht) (by simp)
   show (if true=true then X8 (f_7 [w]) (X8 (f_q [n]) ((leC (.int 1) n).bind λk=>if k=true then (leC n (.int 20)).bind λk' =>R.ok (T.bl k') else .ok (.bl false))) else _)=_
   rw[if_pos rfl,xr w hw.str,Qf,Zx,Zx];cases n with
   | int i=>
    show (if zQ w=true then (if true=true then (if decide (1<=i)=true then R.ok (T.bl (decide (i<=20))) else .ok (.bl false)) else _) else _)=R.ok (T.bl (zQ w && decide (1<=i) && decide (i<=20)))
    cases zQ w <;> cases decide (1<=i) <;> rfl
   | _=>
    show (if zQ w=true then (if false=true then _ else R.ok (T.bl false)) else R.ok (T.bl false))=R.ok (T.bl false)
    cases zQ w <;> rfl
 | _=>rfl
theorem zv (f g:En->RS)(ρ:En):zm f g ρ=match f ρ with | .nx ρ' =>g ρ' | r=>r:=rfl
theorem Zr (g:En->R Bool)(f1 f2:En->RS)(ρ:En):ifS g f1 f2 ρ=(g ρ).s λk=>if k=true then f1 ρ else f2 ρ:=rfl
theorem jW (f g:En->R Bool)(ρ:En):orT f g ρ=(f ρ).bind λx=>if x=true then .ok true else g ρ:=rfl
theorem JK (f:En->R Bool)(ρ:En):jO f ρ=(f ρ).bind λx=> .ok (!x):=rfl
theorem jb (f:En->R T)(ρ:En):ZI f ρ=(f ρ).bind tru:=rfl
theorem Zn (k:Bool):tru (.bl k)= .ok k:=rfl
theorem ZE (i:Nat)(f:En->R T)(ρ:En):zx i f ρ=(f ρ).s λt=> .nx (ρ.set i (.vl t)):=rfl
theorem zj {g:T->T->R Bool}{f f' :En->R T}{ρ:En}:zi g f f' ρ=(f ρ).bind λx=>(f' ρ).bind λy=>g x y:=rfl
theorem zE {fi:En->R (List T)}{g:T->En->R En}{ft:En->R Bool}{fe:En->R T}{k:Nat}{js:List Nat}{ρ:En}:zC fi g ft fe k js ρ=(fi ρ).bind λts=>(zF g ft fe k js ρ ts).bind λvs=> .ok (.lst vs):=rfl
theorem Zs {f:En->R T}{ρ:En}:Zm f ρ=(f ρ).bind jJ:=rfl
def zR:T->Str
 | .tup (.str w :: _)=>w
 | _=>⟨#[]⟩
def Wy:T->Bool
 | .tup cs=>decide (1<=cs.length) && decide (cs.length<=4) && cs.all zk && decide ((dd [] (cs.map zR)).length=cs.length)
 | _=>false
theorem Jd {c:T}(h:zk c=true):∃w n,c= .tup [.str w,n]:=by
 unfold zk at h;split at h
 ·rename_i w i;cases w with
  | str x=>exact⟨x,_,rfl⟩
  | _=>cases h
 ·cases h
theorem wq:∀{cs:List T},cs.all zk=true->UK (cs.map λc=>T.str (zR c))=some (cs.map zR)
 | [],_=>rfl
 | c :: cs,h=>by
  rw[bc,af]at h;have ih:=wq h.2;show (match UK (cs.map λc=>T.str (zR c)) with | some ys=>some (zR c :: ys) | none=>none)=_
  rw[ih];rfl
theorem Uw (t:T)(ht:sOk t):f_t [t]= .ok (.bl (Wy t)):=by
 have e:f_t [t]=zg (b_t f_j f_z [.vl t,.un]):=rfl;rw[e,b_t];simp only[zv,Zr,jW,JK,jb,zD,v0,zq,bOk];rw[show f_j [t,.int 1,.int 4]= .ok (.bl (Uv 1 4 t)) from jz t 1 4];simp only[bOk,Zn];cases t with
 | tup cs=>
  have hl:Uv 1 4 (.tup cs)=(decide (1<=cs.length) && decide (cs.length<=4)):=rfl;rw[hl];show _=R.ok (T.bl (decide (1<=cs.length) && decide (cs.length<=4) && cs.all zk && decide ((dd [] (cs.map zR)).length=cs.length)));cases h14:(decide (1<=cs.length) && decide (cs.length<=4)) with
  | false=>rfl
  | true=>
   rw[af,decide_eq_true_eq,decide_eq_true_eq]at h14;have hb:cs.length<=bnd:=aq h14.2 (by decide)
   have ec:zF (zo 0) Z1 (za 1 f_z (z9 (vE 0) zc)) 1 [] [.vl (.tup cs),.un] cs= .ok (cs.map λc=>T.bl (zk c)):=
    Z2 (h:=λc=>T.bl (zk c)) cs hb λc hc=>by
     show za 1 f_z (z9 (vE 0) zc) [.vl c]=_;rw[zM,v0,bOk];exact Ya c (ZJ (ZN ht) hc)
   simp only[bi,au,if_false,zY,zE,Zs,v0,bOk,jJ,ec];have ea:Vw (.lst (cs.map λc=>T.bl (zk c)))= .ok (.bl (cs.all zk)):=by
    show (match UJ (cs.map λc=>T.bl (zk c)) with | some k=>R.ok (T.bl k) | none=> .bad)=_
    rw[Jr]
   rw[ea];simp only[bOk,Zn,Z9];cases hall:cs.all zk with
   | false=>rfl
   | true=>
    have ew:zF (zo 0) Z1 (zb ixT (vE 0) (cE (.int 0))) 1 [] [.vl (.tup cs),.un] cs= .ok (cs.map λc=>T.str (zR c)):=
     Z2 (h:=λc=>T.str (zR c)) cs hb λc hc=>by
      obtain⟨w,n,rfl⟩:=Jd (aJ.mp hall c hc);rfl
    simp only[bi,au,if_false,nxS,ZE,zE,Zs,v0,bOk,jJ,ew,Z9,zO];show zg (((qZ (.lst (cs.map λc=>T.str (zR c)))).bind λx=>(zK (.lst (cs.map λc=>T.str (zR c)))).bind λy=>(eqC x y).bind λb=>R.ok (T.bl b)).s λt=> .rt t)=_;have el:qZ (.lst (cs.map λc=>T.str (zR c)))= .ok (.int (dd [] (cs.map zR)).length):=by
     show (match UK (cs.map λc=>T.str (zR c)) with | some ys=>if (cs.map λc=>T.str (zR c)).length+1 < 4096 then R.ok (T.int (dd [] ys).length) else .bad | none=> .bad)=_
     rw[wq hall];exact if_pos (by rw[ac];omega)
    rw[el,wb,ac,ZH];show R.ok (T.bl (((dd [] (cs.map zR)).length:Int) == (cs.length:Int)))=_;congr 2
    by_cases hq:(dd [] (cs.map zR)).length=cs.length
    ·rw[decide_eq_true hq,hq];simp
    ·rw[decide_eq_false hq];simp only[bA,beq_eq_false_iff_ne];omega
 | _=>rfl
def isS (w:Str):T->Bool
 | .str s=>s == w
 | _=>false
theorem eqS (h:T)(w:Str):eqC h (.str w)= .ok (isS w h):=by cases h <;> rfl
theorem eqI (i j:Int):eqC (.int i) (.int j)= .ok (i == j):=rfl
theorem at0 {h:T}{r:List T}:ixT (.tup (h :: r)) (.int 0)= .ok h:=by
 show atT (h :: r) 0=_;unfold atT;rw[show atI (h :: r) 0=some h from ZL (j:=0) rfl]
theorem at1 {h a:T}{r:List T}:ixT (.tup (h :: a :: r)) (.int 1)= .ok a:=by
 show atT (h :: a :: r) 1=_;unfold atT;rw[show atI (h :: a :: r) 1=some a from ZL (j:=1) rfl]
theorem at2 {h a b:T}{r:List T}:ixT (.tup (h :: a :: b :: r)) (.int 2)= .ok b:=by
 show atT (h :: a :: b :: r) 2=_;unfold atT;rw[show atI (h :: a :: b :: r) 2=some b from ZL (j:=2) rfl]
theorem at3 {h a b c:T}{r:List T}:ixT (.tup (h :: a :: b :: c :: r)) (.int 3)= .ok c:=by
 show atT (h :: a :: b :: c :: r) 3=_;unfold atT;rw[show atI (h :: a :: b :: c :: r) 3=some c from ZL (j:=3) rfl]
def JL (k:T->Bool):T->Bool
 | .tup ks=>decide (1<=ks.length) && decide (ks.length<=3) && ks.all k
 | _=>false
def Je:List T->Bool
 | [a,b]=>ja (-20) 20 a b
 | _=>false
def Wz:List T->Bool
 | [c]=>Wy c
 | _=>false
def vt (k:T->Bool):List T->Bool
 | [c]=>JL k c
 | _=>false
def WA (k:T->Bool):List T->Bool
 | [c,a,b]=>ja 0 3 a b && k c
 | _=>false
def wN (k:T->Bool):T->Bool
 | .tup (h :: r)=>if isS "whole" h=true then Je r else if isS "pick" h=true then Wz r else if isS "row" h=true then vt k r else if isS "many" h=true then WA k r else false
 | _=>false
def isK:Nat->T->Bool
 | 0,_=>false
 | d+1,t=>wN (isK d) t
theorem JM {α:Type}(xs:List α)(n:Nat):((xs.length:Int) == (n:Int))=decide (xs.length=n):=by
 by_cases h:xs.length=n
 ·rw[decide_eq_true h,h];simp
 ·rw[decide_eq_false h,beq_eq_false_iff_ne];omega
theorem vv {f:En->R T}{ρ:En}:uE f ρ=(f ρ).bind λx=>match x with | .int i=> .ok (.int (-i)) | _=> .bad:=rfl
theorem j4 {i j:Int}:jN (.int i) (.int j)= .ok (.int (i - j)):=rfl
set_option maxHeartbeats 1000000 in
theorem xu {n:Nat}{d:Nat}{k:T->Bool}(H0:∀t,sOk t->S_b n 0 [t,.int d]= .ok (.bl (k t)))(H1:∀t,sOk t->S_b n 1 [t,.int d]= .ok (.bl (JL k t)))(t:T)(ht:sOk t):
  S_b (n+1) 0 [t,.int ((d+1:Nat):Int)]= .ok (.bl (wN k t)):=by
 have e:S_b (n+1) 0 [t,.int ((d+1:Nat):Int)]=zg (b_b gf (S_b n 0) f_t (S_b n 1) [.vl t,.vl (.int ((d+1:Nat):Int))]):=rfl;have hL:(((d+1:Nat):Int) == 0)=false:=by rw[beq_eq_false_iff_ne];omega
 have hL1:((d+1:Nat):Int) - 1=(d:Int):=by omega
 rw[e,b_b];simp only[zv,Zr,jW,JK,jb,zj,w0,w1,zq,bOk,eqI,hL,au,if_false,zY];cases t with
 | tup xs=>
  cases xs with
  | nil=>rfl
  | cons h r=>
   have hs:=ZN ht;have hm:∀u∈r,sOk u:=λu hu=>ZJ hs (ae _ hu);have z0:(((h :: r).length:Int) == 0)=false:=by rw[beq_eq_false_iff_ne];simp only[al];omega
   have ti:jo "tuple" (.tup (h :: r))= .ok (.bl true):=rfl;simp only[ti,bOk,Zn,bi,au,if_false,ZD,eqI,z0,Z9,nxS,zf,v0,v1,zq,at0,eqS,zO,ZC,ZW,JJ,Z3,zY,w0,GU,zM,Zq,vv,j4,hL1];show _=R.ok (T.bl (if isS "whole" h=true then Je r else if isS "pick" h=true then Wz r else if isS "row" h=true then vt k r else if isS "many" h=true then WA k r else false))
   have l3:(((h :: r).length:Int) == 3)=decide ((h :: r).length=3):=JM (h :: r) 3;have l2:(((h :: r).length:Int) == 2)=decide ((h :: r).length=2):=JM (h :: r) 2;have l4:(((h :: r).length:Int) == 4)=decide ((h :: r).length=4):=JM (h :: r) 4;simp only[l2,l3,l4,Zx];cases isS "whole" h with
   | true=>
    simp only[if_true]
    match r,hm with
    | [],_=>rfl
    | [_],_=>rfl
    | _ :: _ :: _ :: _,_=>simp[Je,Z9,zg]
    | [a,b],_=>
     simp only[at1,at2,bOk,Y9];rfl
   | false=>
    simp only[au,if_false,v0,v1,w0,bOk,at0,Z9,ZC,ZW,ZD,eqI,l2,l4,Zx,j4,hL1];cases isS "pick" h with
    | true=>
     simp only[if_true]
     match r,hm with
     | [],_=>rfl
     | _ :: _ :: _,_=>simp[Wz,Z9,zg]
     | [c],hm=>
      simp only[at1,bOk,Uw c (hm c (by simp))]
      rfl
    | false=>
     simp only[au,if_false,v0,v1,w0,bOk,at0,Z9,ZC,ZW,ZD,eqI,l2,l4,Zx,j4,hL1];cases isS "row" h with
     | true=>
      simp only[if_true]
      match r,hm with
      | [],_=>rfl
      | _ :: _ :: _,_=>simp[vt,Z9,zg]
      | [c],hm=>
       simp only[at1,bOk,H1 c (hm c (by simp))]
       rfl
     | false=>
      simp only[au,if_false,v0,v1,w0,bOk,at0,Z9,ZC,ZW,ZD,eqI,l2,l4,Zx,j4,hL1];cases isS "many" h with
      | true=>
       simp only[if_true]
       match r,hm with
       | [],_=>rfl
       | [_],_=>rfl
       | [_,_],_=>rfl
       | _ :: _ :: _ :: _ :: _,_=>simp[WA,Z9,zg]
       | [c,a,b],hm=>
        simp only[at1,at2,at3,bOk,Y9,H0 c (hm c (by simp)),Zx]
        show zg (match (if ja 0 3 a b=true then R.ok (T.bl (k c)) else .ok (.bl false)).s (λt=>RS.rt t) with | .nx _=>RS.rt (T.bl false) | r=>r)=R.ok (T.bl (ja 0 3 a b && k c))
        cases ja 0 3 a b <;> rfl
      | false=>rfl
 | _=>rfl
theorem kU {n:Nat}{d:Nat}{k:T->Bool}(H0:∀t,sOk t->S_b n 0 [t,.int d]= .ok (.bl (k t)))(t:T)(ht:sOk t):S_b (n+1) 1 [t,.int d]= .ok (.bl (JL k t)):=by
 have e:S_b (n+1) 1 [t,.int d]=zg (gh f_j (S_b n 0) [.vl t,.vl (.int d)]):=rfl;rw[e,gh];simp only[zO,ZH,ZC,ZW,JJ,zD,v0,zq,bOk];rw[show f_j [t,.int 1,.int 3]= .ok (.bl (Uv 1 3 t)) from jz t 1 3,Zx];cases t with
 | tup ks=>
  show (if (decide (1<=ks.length) && decide (ks.length<=3))=true then _ else _)=R.ok (T.bl (decide (1<=ks.length) && decide (ks.length<=3) && ks.all k))
  cases h13:(decide (1<=ks.length) && decide (ks.length<=3)) with
  | false=>rfl
  | true=>
   rw[af,decide_eq_true_eq,decide_eq_true_eq]at h13;have hb:ks.length<=bnd:=aq h13.2 (by decide)
   have ec:zF (zo 0) Z1 (za 2 (S_b n 0) (z9 (vE 0) (z9 (vE 1) zc))) 1 [1] [.vl (.tup ks),.vl (.int d)] ks= .ok (ks.map λc=>T.bl (k c)):=
    Z2 (h:=λc=>T.bl (k c)) ks hb λc hc=>by
     show za 2 (S_b n 0) (z9 (vE 0) (z9 (vE 1) zc)) [.vl c,.vl (.int d)]=_;rw[Zq,v0,v1,bOk,bOk];exact H0 c (ZJ (ZN ht) hc)
   simp only[if_true,zY,zE,Zs,v0,bOk,jJ,ec];show (match UJ (ks.map λc=>T.bl (k c)) with | some k=>R.ok (T.bl k) | none=> .bad)=_
   rw[Jr];rfl
 | _=>rfl
theorem uc:∀(d n:Nat),2*d+1<=n->∀t,sOk t->S_b n 0 [t,.int d]= .ok (.bl (isK d t))
 | 0,n+1,_,t,_=>rfl
 | d+1,n+2,h,t,ht=>xu (n:=n+1) (λu hu=>uc d (n+1) (by omega) u hu) (λu hu=>kU (λv hv=>uc d n (by omega) v hv) u hu) t ht
theorem wt (t:T)(ht:sOk t):f_1 [t]= .ok (.bl (isK 3 t)):=by
 have e:f_1 [t]=zg (b_1 (f_b 20) [.vl t]):=rfl;rw[e,b_1];simp only[zO,ZH,ZC,ZW,Zq,v0,zq,bOk];exact uc 3 20 (by omega) t ht
def inR (lo hi:Int):T->Bool
 | .int i=>decide (lo<=i) && decide (i<=hi)
 | _=>false
theorem ZS (t:T)(lo hi:Int):f_m [t,.int lo,.int hi]= .ok (.bl (inR lo hi t)):=by
 cases t with
 | int i=>
  show zg ((if decide (lo<=i)=true then R.ok (T.bl (decide (i<=hi))) else .ok (.bl false)).s λt=> .rt t)=R.ok (T.bl (decide (lo<=i) && decide (i<=hi)))
  cases decide (lo<=i) <;> rfl
 | _=>rfl
theorem Yb (xs:List T):eqC (.lst xs) (.lst [])= .ok xs.isEmpty:=by cases xs <;> rfl
theorem Qg (c:Nat)(ρ:En):jO (chT leC leC (cE (.str "a")) (vB 0) (cE (.str "z"))) ((Sl.vl (.str ⟨#[c]⟩)) :: ρ)= .ok (!zX c):=by
 have e1:leC (.str "a") (.str ⟨#[c]⟩)= .ok (decide (97<=c)):=by
  show R.ok (!decide ([c] < [97]))=_;rw[uS]
  by_cases h:c < 97
  ·rw[decide_eq_true h,decide_eq_false (by omega)];rfl
  ·rw[decide_eq_false h,decide_eq_true (by omega)];rfl
 have e2:leC (.str ⟨#[c]⟩) (.str "z")= .ok (decide (c<=122)):=by
  show R.ok (!decide ([122] < [c]))=_;rw[uS]
  by_cases h:122 < c
  ·rw[decide_eq_true h,decide_eq_false (by omega)];rfl
  ·rw[decide_eq_false h,decide_eq_true (by omega)];rfl
 show ((leC (.str "a") (.str ⟨#[c]⟩)).bind (λk=>if k=true then leC (.str ⟨#[c]⟩) (.str "z") else R.ok false)).bind (λx=>R.ok (!x))=_
 rw[e1,e2];unfold zX;show (if decide (97<=c)=true then R.ok (decide (c<=122)) else R.ok false).bind (λx=>R.ok (!x))=_
 cases decide (97<=c) <;> rfl
theorem jd {α:Type}(p:α->Bool):∀xs:List α,(xs.filter λx=> !p x).isEmpty=xs.all p
 | []=>rfl
 | x :: xs=>by
  have ih:=jd p xs;rw[bc];cases hp:p x with
  | true=>rw[dm (by simp[hp]),ih];rfl
  | false=>rw[dl (by simp[hp])];rfl
def xv:T->Bool
 | .str y=> !zX (y.cps.toList.headD 0)
 | _=>false
theorem ud (t:T)(ht:xp t):f_s [t]= .ok (.bl (zQ t)):=by
 cases t with
 | str x=>
  have hx:x.length<=bnd:=ht;have e0:zK (.str x)= .ok (.int x.length):=if_pos hx;have hs:(ZM x).length<=bnd:=by unfold ZM;rw[ac,bu];exact hx
  have ec:zF (zo 0) (jO (chT leC leC (cE (.str "a")) (vB 0) (cE (.str "z")))) (vE 0) 1 [] [.vl (.str x)] (ZM x)= .ok (((ZM x).filter xv).map id):=by
   unfold zF;rw[if_pos hs];have:=zW (ft:=jO (chT leC leC (cE (.str "a")) (vB 0) (cE (.str "z")))) (fe:=vE 0) (p:=xv) (h:=id) (ZM x) (Jp 1 [] [.vl (.str x)]) λt ht=>by
    unfold ZM at ht;obtain⟨c,_,rfl⟩:=aw.mp ht;exact⟨Qg c [],λ_=>rfl⟩
   rw[this];rfl
  have em:(((ZM x).filter xv).map id).isEmpty=x.cps.toList.all zX:=by
   rw[eQ];unfold ZM;rw[iI,List.isEmpty_map];exact jd zX x.cps.toList
  have e:f_s [.str x]=zg (b_s [.vl (.str x)]):=rfl;rw[e,b_s];simp only[zO,ZH,ZC,ZW,JJ,zY,w0,v0,bOk,xt,zq,e0,ub,Z3,zE,Zs,jJ,ec];have c1:decide ((1:Int)<=(x.length:Int))=decide (1<=x.length):=by
   by_cases h:1<=x.length
   ·rw[decide_eq_true h];exact decide_eq_true (by omega)
   ·rw[decide_eq_false h];exact decide_eq_false (by omega)
  have c2:decide ((x.length:Int)<=(3:Int))=decide (x.length<=3):=by
   by_cases h:x.length<=3
   ·rw[decide_eq_true h];exact decide_eq_true (by omega)
   ·rw[decide_eq_false h];exact decide_eq_false (by omega)
  rw[c1,c2];have el:Zp zc [Sl.vl (T.str x)]= .ok (.lst []):=rfl;rw[el];simp only[bOk,Yb,em];show X8 (R.ok (T.bl true)) (X8 (if decide (1<=x.length)=true then R.ok (T.bl (decide (x.length<=3))) else R.ok (T.bl false)) (R.ok (T.bl (x.cps.toList.all zX))))=R.ok (T.bl (decide (1<=x.length) && decide (x.length<=3) && x.cps.toList.all zX))
  cases decide (1<=x.length) <;> cases decide (x.length<=3) <;> rfl
 | _=>rfl
theorem WB:∀(ws acc:List Str),(dd acc ws).length<=acc.length+ws.length
 | [],acc=>am _
 | w :: ws,acc=>by
  unfold dd;have:=WB ws (if w∈acc then acc else acc++[w])
  by_cases h:w∈acc
  ·rw[if_pos h]at this ⊢;simp only[al];omega
  ·rw[if_neg h]at this ⊢;rw[aA,aD]at this;simp only[al];omega
theorem JN:∀(ws acc:List Str),((dd acc ws).length=acc.length+ws.length)↔∀(k:Nat) (w:Str),ws[k]? =some w->w ∉ acc++ws.take k
 | [],acc=>by simp[dd]
 | w :: ws,acc=>by
  unfold dd
  by_cases h:w∈acc
  ·rw[if_pos h];have:=WB ws acc;constructor
   ·intro e;simp only[al]at e;omega
   ·intro H;exact absurd (cL _ h) (H 0 w rfl)
  ·rw[if_neg h];have ih:=JN ws (acc++[w]);rw[aA,aD]at ih;rw[show acc.length+(w :: ws).length=acc.length+1+ws.length by simp only[al];omega,ih]
   constructor
   ·intro H k v e;cases k with
    | zero=>simp at e;subst e;simpa using h
    | succ k=>
     have:=H k v (by simpa using e)
     simpa[bh] using this
   ·intro H k v e;have:=H (k+1) v (by simpa using e)
    simpa[bh] using this
theorem cut1 {h:T}{r:List T}:slT (.tup (h :: r)) (some 1) none= .ok (.tup r):=by
 show R.ok (T.tup (cut (h :: r) (some 1) none))=_;have:cut (h :: r) (some 1) none=r:=by
  unfold cut;rw[show HT.sIx (h :: r).length 0 (some (1:Int))=1 from by rw[show (1:Int)=((1:Nat):Int) from rfl,HT.sIx_nat];simp only[al];omega,HT.sIx_none]
  simp
 rw[this]
theorem neS (h:T)(w:Str):neC h (.str w)= .ok (!isS w h):=by cases h <;> rfl
theorem neI (i j:Int):neC (.int i) (.int j)= .ok (!(i == j)):=rfl
theorem ltI (i j:Int):ltC (.int i) (.int j)= .ok (decide (i < j)):=rfl
theorem v2 {t:T}{a b:Sl}{ρ:En}:vE 2 (a :: b :: .vl t :: ρ)= .ok t:=rfl
theorem v3 {t:T}{a b c:Sl}{ρ:En}:vE 3 (a :: b :: c :: .vl t :: ρ)= .ok t:=rfl
theorem w2 {t:T}{a b:Sl}{ρ:En}:vB 2 (a :: b :: .vl t :: ρ)= .ok t:=rfl
theorem w3 {t:T}{a b c:Sl}{ρ:En}:vB 3 (a :: b :: c :: .vl t :: ρ)= .ok t:=rfl
theorem w5 {t:T}{a b c d e:Sl}{ρ:En}:vB 5 (a :: b :: c :: d :: e :: .vl t :: ρ)= .ok t:=rfl
theorem v4 {t:T}{a b c d:Sl}{ρ:En}:vE 4 (a :: b :: c :: d :: .vl t :: ρ)= .ok t:=rfl
theorem ZZ (f g:En->R Bool)(ρ:En):jt f g ρ=(f ρ).bind λx=>if x=true then g ρ else .ok false:=rfl
theorem Yc {g g' :T->T->R Bool}{fa fb fc:En->R T}{ρ:En}:chT g g' fa fb fc ρ=(fa ρ).bind λx=>(fb ρ).bind λy=>(g x y).bind λk=>if k=true then (fc ρ).bind λz=>g' y z else .ok false:=rfl
theorem jX (t:T):jo "tuple" t= .ok (.bl (match t with | .tup _=>true | _=>false)):=by cases t <;> rfl
theorem xw {n d:Nat}{k:T->Bool}(H0:∀t,sOk t->S_a n 0 [t,.int d]= .ok (.bl (k t))){ks:List T}(hk:∀u∈ks,sOk u)(hl:ks.length<=3){x y z:Sl}{L:Int}(hL:L - 1=(d:Int)){ρ:En}:
  zF (zo 0) (jO (ZI (za 2 (S_a n 0) (z9 (vE 0) (z9 (zb jN (vE 1) (cE (.int 1))) zc))))) (vE 0) 1 [1] (x :: .vl (.int L) :: ρ) ks= .ok (ks.filter λc=> !k c):=by
 unfold zF;rw[if_pos (aq hl (by decide))]
 have:=zW (ft:=jO (ZI (za 2 (S_a n 0) (z9 (vE 0) (z9 (zb jN (vE 1) (cE (.int 1))) zc))))) (fe:=vE 0) (p:=λc=> !k c) (h:=id) ks (Jp 1 [1] (x :: .vl (.int L) :: ρ)) λc hc=>by
  refine⟨?_,λ_=>rfl⟩;show jO (ZI (za 2 (S_a n 0) (z9 (vE 0) (z9 (zb jN (vE 1) (cE (.int 1))) zc)))) [.vl c,.vl (.int L)]=_;simp only[JK,jb,Zq,v0,v1,bOk,zf,zq,j4,hL,H0 c (hk c hc),Zn]
 rw[this,eQ];rfl
def WS:T->Bool
 | .tup [_,_]=>true
 | _=>false
def ue:T->T
 | .tup (w :: _)=>w
 | t=>t
theorem GV {cs:List T}(hl:cs.length<=4){ρ:En}:zF (zo 0) (jt (ZI (ap1 (jo "tuple") (vB 0))) (zi eqC (ap1 zK (vB 0)) (cE (.int 2)))) (vE 0) 1 [] ρ cs= .ok (cs.filter WS):=by
 unfold zF;rw[if_pos (aq hl (by decide))]
 have:=zW (ft:=jt (ZI (ap1 (jo "tuple") (vB 0))) (zi eqC (ap1 zK (vB 0)) (cE (.int 2)))) (fe:=vE 0) (p:=WS) (h:=id) cs (Jp 1 [] ρ) λc _=>by
  refine⟨?_,λ_=>rfl⟩;show jt (ZI (ap1 (jo "tuple") (vB 0))) (zi eqC (ap1 zK (vB 0)) (cE (.int 2))) [.vl c]=_;cases c with
  | tup xs=>
   match xs with
   | []=>rfl
   | [_]=>rfl
   | [_,_]=>rfl
   | _ :: _ :: _ :: xs=>
    simp only[ZZ,jb,zY,w0,bOk,jX,Zn,if_true,zj,ZD,zq,eqI,WS];congr 1
    all_goals (rw[beq_eq_false_iff_ne];simp only[al];omega)
  | _=>rfl
 rw[this,eQ];rfl
theorem wu (c:T):zk c=(WS c && (match c with | .tup [w,n]=>zQ w && inR 1 20 n | _=>false)):=by
 cases c with
 | tup xs=>
  match xs with
  | []=>rfl
  | [_]=>rfl
  | _ :: _ :: _ :: _=>simp[zk,WS]
  | [w,n]=>
   cases n with
   | int i=>
    show (zQ w && decide (1<=i) && decide (i<=20))=(true && (zQ w && (decide (1<=i) && decide (i<=20))));rw[bA,Bool.and_assoc]
   | _=>
    show false=(true && (zQ w && false));cases zQ w <;> rfl
 | _=>rfl
theorem GW {cs:List T}(hs:∀c∈cs,sOk c)(hl:cs.length<=4){ρ:En}:
  zF (zo 0) (jt (ZI (za 1 f_s (z9 (zb ixT (vE 0) (cE (.int 0))) zc))) (ZI (za 3 f_m (z9 (zb ixT (vE 0) (cE (.int 1))) (z9 (cE (.int 1)) (z9 (cE (.int 20)) zc)))))) (zb ixT (vE 0) (cE (.int 0))) 1 [] ρ (cs.filter WS)= .ok ((cs.filter zk).map ue):=by
 unfold zF;have hl' :(cs.filter WS).length<=bnd:=aq (aW _ _) (aq hl (by decide))
 rw[if_pos hl'];have:=zW (ft:=jt (ZI (za 1 f_s (z9 (zb ixT (vE 0) (cE (.int 0))) zc))) (ZI (za 3 f_m (z9 (zb ixT (vE 0) (cE (.int 1))) (z9 (cE (.int 1)) (z9 (cE (.int 20)) zc)))))) (fe:=zb ixT (vE 0) (cE (.int 0))) (p:=zk) (h:=ue) (cs.filter WS) (Jp 1 [] ρ) λc hc=>by
  obtain⟨hc1,hc2⟩:=bO.mp hc;have hso:=hs c hc1;unfold WS at hc2;split at hc2
  ·rename_i w n;have hw:sOk w:=ZJ (ZN hso) (by simp)
   refine⟨?_,λ_=> ?_⟩
   ·show jt (ZI (za 1 f_s (z9 (zb ixT (vE 0) (cE (.int 0))) zc))) (ZI (za 3 f_m (z9 (zb ixT (vE 0) (cE (.int 1))) (z9 (cE (.int 1)) (z9 (cE (.int 20)) zc))))) [.vl (.tup [w,n])]=_;simp only[ZZ,jb,zM,zD,zf,v0,zq,bOk,at0,at1,ud w hw.str,ZS,Zn,wu];show (if zQ w=true then R.ok (inR 1 20 n) else R.ok false)=R.ok (true && (zQ w && inR 1 20 n))
    cases zQ w <;> rfl
   ·show zb ixT (vE 0) (cE (.int 0)) [.vl (.tup [w,n])]=_;simp only[zf,v0,zq,bOk,at0];rfl
  ·cases hc2
 rw[this,List.filter_filter];have:(cs.filter λa=>zk a && WS a)=cs.filter zk:=by
  refine List.filter_congr λc _=> ?_;rw[wu];cases WS c <;> simp
 rw[this];rfl
theorem Js (w:Str):∀ws:List Str,wG (λy=>eqF 30 y (.str w)) (ws.map T.str)=some (decide (w∈ws))
 | []=>rfl
 | x :: ws=>by
  have ih:=Js w ws;show (match wG (λy=>eqF 30 y (.str w)) (ws.map T.str) with | none=>none | some c=>some ((x == w) || c))=_
  rw[ih];show some ((x == w) || decide (w∈ws))=_
  congr 1
  by_cases h:x=w
  ·subst h;simp
  ·have h' :¬ w=x:=λz=>h z.symm;simp[h,h']
theorem Qh {xs:List T}{k:Nat}:slT (.lst xs) none (some (k:Int))= .ok (.lst (xs.take k)):=by
 show R.ok (T.lst (cut xs none (some (k:Int))))=_;have:cut xs none (some (k:Int))=xs.take k:=by
  unfold cut;rw[HT.sIx_none,HT.sIx_nat];simp only[dZ,fA];rw[fI];omega
 rw[this]
theorem kW {xs:List T}{k:Nat}{t:T}(h:xs[k]? =some t):ixT (.lst xs) (.int k)= .ok t:=by
 show atT xs k=_;unfold atT;rw[ZL h]
theorem GX {ws:List Str}(hl:ws.length<=4){a b c d e:Sl}:∃r,zF (zo 0) (zi inC (zb ixT (vE 1) (vE 0)) (slE (vE 1) noO (Z5 (vE 0)))) (vE 0) 1 [5] [a,b,c,d,e,.vl (.lst (ws.map T.str))] (rng 0 ws.length)= .ok r/\
  (r.isEmpty=true↔∀(k:Nat) (w:Str),ws[k]? =some w->w ∉ ws.take k):=by
 have hl' :(rng 0 ws.length).length<=bnd:=by unfold rng;rw[ac,a_];exact aq hl (by decide)
 let p:T->Bool:=λt=>match t with
  | .int i=>match ws[i.toNat]? with | some w=>decide (w∈ws.take i.toNat) | none=>false
  | _=>false
 have key:=zW (ft:=zi inC (zb ixT (vE 1) (vE 0)) (slE (vE 1) noO (Z5 (vE 0)))) (fe:=vE 0) (p:=p) (h:=id) (rng 0 ws.length) (Jp 1 [5] [a,b,c,d,e,.vl (.lst (ws.map T.str))]) λt ht=>by
  unfold rng at ht;obtain⟨k,hk,rfl⟩:=aw.mp ht;have hk' :k < ws.length:=ba.mp hk;refine⟨?_,λ_=>rfl⟩;show zi inC (zb ixT (vE 1) (vE 0)) (slE (vE 1) noO (Z5 (vE 0))) [.vl (.int (0+(k:Int))),.vl (.lst (ws.map T.str))]=_;rw[show (0:Int)+(k:Int)=(k:Int) by omega]
  have e1:ixT (.lst (ws.map T.str)) (.int k)= .ok (.str ws[k]):=kW (by rw[aG,ad hk'];rfl)
  have e2:slE (vE 1) noO (Z5 (vE 0)) [.vl (.int (k:Int)),.vl (.lst (ws.map T.str))]=slT (.lst (ws.map T.str)) none (some (k:Int)):=rfl;simp only[zj,zf,v1,v0,bOk,e1,e2,Qh];show inC (.str ws[k]) (.lst ((ws.map T.str).take k))=R.ok (p (.int (k:Int)));have e3:inC (.str ws[k]) (.lst ((ws.map T.str).take k))= .ok (decide (ws[k]∈ws.take k)):=by
   show (match wG (λy=>eqF 30 y (.str ws[k])) ((ws.map T.str).take k) with | some b=>R.ok b | none=> .bad)=_
   rw[← List.map_take,Js]
  rw[e3];show _=R.ok (match ws[((k:Int)).toNat]? with | some w=>decide (w∈ws.take ((k:Int)).toNat) | none=>false)
  rw[aV,ad hk']
 refine⟨((rng 0 ws.length).filter p).map id, ?_, ?_⟩
 ·unfold zF;rw[if_pos hl',key];rfl
 ·rw[eQ,List.isEmpty_iff,List.filter_eq_nil_iff];constructor
  ·intro H k w e;have hk:k < ws.length:=(az.mp e).1;have:=H (.int (0+(k:Int))) (aw.mpr ⟨k,ba.mpr hk,rfl⟩);rw[show (0:Int)+(k:Int)=(k:Int) by omega]at this
   have q:p (.int (k:Int))=decide (w∈ws.take k):=by
    show (match ws[((k:Int)).toNat]? with | some w=>decide (w∈ws.take ((k:Int)).toNat) | none=>false)=_
    rw[aV,e]
   rw[q]at this;simpa using this
  ·intro H t ht;unfold rng at ht;obtain⟨k,hk,rfl⟩:=aw.mp ht;have hk' :k < ws.length:=ba.mp hk;rw[show (0:Int)+(k:Int)=(k:Int) by omega]
   have q:p (.int (k:Int))=decide (ws[k]∈ws.take k):=by
    show (match ws[((k:Int)).toNat]? with | some w=>decide (w∈ws.take ((k:Int)).toNat) | none=>false)=_
    rw[aV,ad hk']
   rw[q];simpa using H k ws[k] (ad hk')
theorem GY {cs:List T}(h:cs.all zk=true):(cs.filter zk).map ue=(cs.map zR).map T.str:=by
 rw[cU.mpr (λc hc=>aJ.mp h c hc),aQ];refine bN λc hc=> ?_;obtain⟨w,n,rfl⟩:=Jd (aJ.mp h c hc);rfl
theorem jA {α:Type}(p:α->Bool):∀xs:List α,((xs.filter p).length=xs.length)↔xs.all p=true
 | []=>by simp
 | x :: xs=>by
  have ih:=jA p xs;have hl:=aW p xs;cases hp:p x with
  | true=>rw[dl hp,bc,hp,bA,← ih];simp
  | false=>
   rw[dm (by rw[hp];exact ao),bc,hp,Bool.false_and]
   simp only[al];constructor
   ·intro z;omega
   ·intro z;cases z
theorem WC (lo hi:Int)(a b:T):(if inR lo hi a=true then f_m [b,a,.int hi] else R.ok (.bl false))= .ok (.bl (ja lo hi a b)):=by
 cases a with
 | int i=>
  rw[ZS];show (if (decide (lo<=i) && decide (i<=hi))=true then R.ok (T.bl (inR i hi b)) else R.ok (T.bl false))=_
  cases b with
  | int j=>
   show (if (decide (lo<=i) && decide (i<=hi))=true then R.ok (T.bl (decide (i<=j) && decide (j<=hi))) else R.ok (T.bl false))=R.ok (T.bl (decide (lo<=i) && decide (i<=j) && decide (j<=hi)))
   by_cases h1:lo<=i
   ·by_cases h2:i<=hi
    ·rw[decide_eq_true h1,decide_eq_true h2];rfl
    ·rw[decide_eq_true h1,decide_eq_false h2];show R.ok (T.bl false)=R.ok (T.bl (decide (i<=j) && decide (j<=hi)))
     by_cases h3:i<=j
     ·rw[decide_eq_true h3,decide_eq_false (show ¬ j<=hi by omega)];rfl
     ·rw[decide_eq_false h3];rfl
   ·rw[decide_eq_false h1];rfl
  | _=>
   show (if (decide (lo<=i) && decide (i<=hi))=true then R.ok (T.bl false) else R.ok (T.bl false))=R.ok (T.bl false)
   cases (decide (lo<=i) && decide (i<=hi)) <;> rfl
 | _=>cases b <;> rfl
theorem xx {xs:List T}(h:xs.length<=4){a b c d e:Sl}:Zd (ap1 zK (vB 5)) [a,b,c,d,e,.vl (.lst xs)]= .ok (rng 0 xs.length):=by
 have e1:Zd (ap1 zK (vB 5)) [a,b,c,d,e,.vl (.lst xs)]=(R.ok (T.int (xs.length:Int))).bind λt=>match t with | .int j=>if -1000000 < j/\j < 1000000 then .ok (rng 0 j.toNat) else .bad | _=> .bad:=rfl
 rw[e1,bOk];dsimp only;rw[if_pos ⟨by omega,by omega⟩,aV]
theorem wO {c:T}(hc:sOk c){a b d e f:Sl}:
  zg (match (((jo "tuple" c).bind tru).bind λx=>R.ok (!x)).bind (λx=>if x=true then R.ok true else ((zK c).bind λy=>(leC (.int 1) y).bind λk=>if k=true then leC y (.int 4) else R.ok false).bind λx=>R.ok (!x)) with
   | .ok k=>if k=true then RS.rt (T.bl false) else (zt (Ja (Zi eqC (ap1 zK (vB 5)) (ap1 zK (zb ixT (vE 3) (cE (.int 0))))) (Zi eqC (zC (Zd (ap1 zK (vB 5))) (zo 0) (zi inC (zb ixT (vE 1) (vE 0)) (slE (vE 1) (noO) (Z5 (vE 0)))) (vE 0) 1 [5]) (Zp (zc)))) [a,b,d,.vl (.tup [c]),f,.vl (.lst (match c with | .tup cs=>(cs.filter zk).map ue | _=>[]))])
   | .ex c=> .ex c
   | .bad=> .bad)= .ok (.bl (Wy c)):=by
 cases c with
 | tup cs=>
  have e1:(leC (.int 1) (.int (cs.length:Int))).bind (λk=>if k=true then leC (.int (cs.length:Int)) (.int 4) else R.ok false)= .ok (decide (1<=cs.length) && decide (cs.length<=4)):=by
   show (if decide ((1:Int)<=(cs.length:Int))=true then R.ok (decide ((cs.length:Int)<=4)) else R.ok false)=_
   by_cases h:1<=cs.length
   ·rw[decide_eq_true h,decide_eq_true (show (1:Int)<=(cs.length:Int) by omega)]
    show R.ok (decide ((cs.length:Int)<=4))=R.ok (decide (cs.length<=4))
    by_cases h4:cs.length<=4
    ·rw[decide_eq_true h4,decide_eq_true (show (cs.length:Int)<=4 by omega)]
    ·rw[decide_eq_false h4,decide_eq_false (show ¬ (cs.length:Int)<=4 by omega)]
   ·rw[decide_eq_false h,decide_eq_false (show ¬ (1:Int)<=(cs.length:Int) by omega)];rfl
  simp only[jX,bOk,Zn,bi,au,if_false,ZD,e1];show _=R.ok (T.bl (decide (1<=cs.length) && decide (cs.length<=4) && cs.all zk && decide ((dd [] (cs.map zR)).length=cs.length)));cases h14:(decide (1<=cs.length) && decide (cs.length<=4)) with
  | false=>rfl
  | true=>
   rw[af,decide_eq_true_eq,decide_eq_true_eq]at h14;simp only[bi,au,if_false,zO,ZH,ZC,JJ,Z3,zY];have ef:frz [a,b,d,.vl (.tup [.tup cs]),f,.vl (.lst ((cs.filter zk).map ue))]=[wn a,wn b,wn d,.vl (.tup [.tup cs]),wn f,.vl (.lst ((cs.filter zk).map ue))]:=rfl;rw[ef];simp only[w5,zf,v3,zq,bOk,at0,wb,ZD,eqI,ac,zE];rw[JM,Zx]
   by_cases hall:cs.all zk=true
   ·rw[decide_eq_true ((jA zk cs).mpr hall),if_pos rfl,hall];have hw:(cs.map zR).length<=4:=by rw[ac];exact h14.2
    obtain⟨r,er,hr⟩:=GX hw (a:=wn a) (b:=wn b) (c:=wn d) (d:= .vl (.tup [.tup cs])) (e:=wn f);rw[GY hall];have ei:Zd (ap1 zK (vB 5)) [wn a,wn b,wn d,.vl (.tup [.tup cs]),wn f,.vl (.lst ((cs.map zR).map T.str))]= .ok (rng 0 (cs.map zR).length):=by
     rw[xx (by rw[ac];exact hw),ac]
    rw[ei];simp only[bOk,er];have el:Zp zc [wn a,wn b,wn d,.vl (.tup [.tup cs]),wn f,.vl (.lst ((cs.map zR).map T.str))]= .ok (.lst []):=rfl;rw[el];rw[bOk,Yb,bOk];rw[bA,bA];refine congrArg (λz=>R.ok (T.bl z)) ?_;have hdd:=JN (cs.map zR) [];rw[aP,ie,ac]at hdd;simp only[bG]at hdd
    by_cases hq:(dd [] (cs.map zR)).length=cs.length
    ·rw[decide_eq_true hq];exact hr.mpr (hdd.mp hq)
    ·rw[decide_eq_false hq];cases hre:r.isEmpty with
     | false=>rfl
     | true=>exact absurd (hdd.mpr (hr.mp hre)) hq
   ·have hn:¬ (cs.filter zk).length=cs.length:=λz=>hall ((jA zk cs).mp z);rw[decide_eq_false hn,if_neg ao];have:cs.all zk=false:=by simpa using hall
    rw[this];rfl
 | _=>rfl
theorem kX {i j:Nat}{f f' :En->R T}{ρ:En}:uJ i j (z9 f (z9 f' zc)) ρ=(f ρ).s λx=>(f' ρ).s λy=> .nx ((ρ.set i (.vl x)).set j (.vl y)):=by
 unfold uJ z9 zc;cases f ρ with
 | ok a=>cases f' ρ <;> rfl
 | ex c=>rfl
 | bad=>rfl
theorem Jo {f:En->R T}{l h:En->R (Option Int)}{ρ:En}:slE f l h ρ=(f ρ).bind λt=>(l ρ).bind λlo=>(h ρ).bind λhi=>slT t lo hi:=rfl
theorem vw {i:Int}{ρ:En}:Z5 (cE (.int i)) ρ= .ok (some i):=rfl
theorem Yd {ρ:En}:noO ρ= .ok none:=rfl
theorem Ye (t:T):jo "str" t= .ok (.bl (match t with | .str _=>true | _=>false)):=by cases t <;> rfl
theorem btw {n m:Nat}{M:Int}(hM:M=(m:Int)):(if decide ((1:Int)<=(n:Int))=true then R.ok (decide ((n:Int)<=M)) else R.ok false)=R.ok (decide (1<=n) && decide (n<=m)):=by
 subst hM
 by_cases h:1<=n
 ·rw[decide_eq_true h,decide_eq_true (show (1:Int)<=(n:Int) by omega),if_pos rfl,bA]
  by_cases h4:n<=m
  ·rw[decide_eq_true h4,decide_eq_true (show (n:Int)<=m by omega)]
  ·rw[decide_eq_false h4,decide_eq_false (show ¬ (n:Int)<=m by omega)]
 ·rw[decide_eq_false h,decide_eq_false (show ¬ (1:Int)<=(n:Int) by omega)];rfl
set_option maxHeartbeats 1000000 in
theorem Qi {n:Nat}{d:Nat}{k:T->Bool}(H0:∀t,sOk t->S_a n 0 [t,.int d]= .ok (.bl (k t)))(t:T)(ht:sOk t):
  S_a (n+1) 0 [t,.int ((d+1:Nat):Int)]= .ok (.bl (wN k t)):=by
 have e:S_a (n+1) 0 [t,.int ((d+1:Nat):Int)]=zg (b_a f_m f_s (S_a n 0) [.vl t,.vl (.int ((d+1:Nat):Int)),.un,.un,.un,.un]):=rfl;have hL:decide (((d+1:Nat):Int) < 1)=false:=decide_eq_false (by omega)
 have hL1:((d+1:Nat):Int) - 1=(d:Int):=by omega
 rw[e,b_a];simp only[zv,Zr,jW,JK,jb,zj,w0,w1,v0,zq,bOk,zY,jX,Zn,zf];cases t with
 | tup xs=>
  match xs,ht with
  | [],_=>rfl
  | [h],_=>
   have:wN k (.tup [h])=false:=by
    unfold wN;simp[Je,Wz,vt,WA]
   rw[this];rfl
  | h :: a :: r,ht=>
   have hs:=ZN ht;have hm:∀u∈a :: r,sOk u:=λu hu=>ZJ hs (ae _ hu);have z0:decide (((h :: a :: r).length:Int) < 2)=false:=decide_eq_false (by simp only[al];omega)
   simp only[bi,au,if_false,ZD,ltI,z0,bOk,at0,Ye,Zn,hL];cases h with
   | str s=>
    simp only[bi,au,if_false,Z9,bOk,hL,kX,zf,v0,zq,at0,Jo,vw,Yd,cut1,nxS];have hset:(([Sl.vl (T.tup (T.str s :: a :: r)),Sl.vl (.int ((d+1:Nat):Int)),.un,.un,.un,.un]:En).set 2 (.vl (.str s))).set 3 (.vl (.tup (a :: r)))=[Sl.vl (T.tup (T.str s :: a :: r)),Sl.vl (.int ((d+1:Nat):Int)),.vl (.str s),.vl (.tup (a :: r)),.un,.un]:=rfl;simp only[hset,w2,zq,bOk,eqS,neS,Z9];have l2:(((a :: r).length:Int) == 2)=decide ((a :: r).length=2):=JM (a :: r) 2;have l1:(((a :: r).length:Int) == 1)=decide ((a :: r).length=1):=JM (a :: r) 1;have l3:(((a :: r).length:Int) == 3)=decide ((a :: r).length=3):=JM (a :: r) 3;show _=R.ok (T.bl (if isS "whole" (.str s)=true then Je (a :: r) else if isS "pick" (.str s)=true then Wz (a :: r) else if isS "row" (.str s)=true then vt k (a :: r) else if isS "many" (.str s)=true then WA k (a :: r) else false))
    cases hw:isS "whole" (.str s) with
    | true=>
     simp only[if_true,zO,ZC,jV,ZW,JJ,Z3,zY,w3,v3,bOk,ZD,zq,eqI,l2,Zx,zD,zf,vv]
     match r,hm with
     | [],_=>rfl
     | _ :: _ :: _,_=>simp[Je,Z9,zg]
     | [b],_=>
      simp only[at0,at1,bOk,ZS,Zx];rw[WC];rfl
    | false=>
     simp only[au,if_false,w2,w3,v3,bOk,Z9,ZD,neI,l1];cases hp:isS "pick" (.str s) with
     | true=>
      simp only[if_true]
      match r,hm with
      | _ :: _,_=>simp[Wz,Z9,zg,zq];rfl
      | [],hm=>
       simp only[al,aP,decide_true,bi,au,if_false,at0,bOk];cases a with
       | tup cs=>
        have hc:sOk (.tup cs):=hm _ (by simp)
        have P:=wO hc (a:= .vl (.tup [.str s,.tup cs])) (b:= .vl (.int ((d+1:Nat):Int))) (d:= .vl (.str s)) (e:= .un) (f:= .vl (.lst (cs.filter WS)));simp only[jX,bOk,Zn,bi,au,if_false,Yc,zY,zf,v3,zq,at0,ZD,ub,btw (m:=4) (M:=4) rfl]at P ⊢;cases h14:(decide (1<=cs.length) && decide (cs.length<=4)) with
        | false=>
         rw[h14]at P;exact P
        | true=>
         rw[h14]at P;have h4:cs.length<=4:=by
          rw[af,decide_eq_true_eq,decide_eq_true_eq]at h14;exact h14.2
         simp only[bi,au,if_false,Z9]at P ⊢;have s4:∀(x0 x1 x2:Sl),zx 4 (zC (Zm (zb ixT (vE 3) (cE (T.int 0)))) (zo 0) (jt (ZI (ap1 (jo "tuple") (vB 0))) (zi eqC (ap1 zK (vB 0)) (cE (T.int 2)))) (vE 0) 1 []) [x0,x1,x2,.vl (.tup [.tup cs]),.un,.un]= .nx [x0,x1,x2,.vl (.tup [.tup cs]),.vl (.lst (cs.filter WS)),.un]:=by
          intro x0 x1 x2;simp only[ZE,zE,Zs,zf,v3,zq,bOk,at0];show ((zF (zo 0) _ _ 1 [] _ cs).bind λvs=>R.ok (T.lst vs)).s _=_;rw[GV h4];rfl
         have s5:∀(x0 x1 x2:Sl),zx 5 (zC (Zm (vE 4)) (zo 0) (jt (ZI (za 1 f_s (z9 (zb ixT (vE 0) (cE (T.int 0))) zc))) (ZI (za 3 f_m (z9 (zb ixT (vE 0) (cE (T.int 1))) (z9 (cE (T.int 1)) (z9 (cE (T.int 20)) zc)))))) (zb ixT (vE 0) (cE (T.int 0))) 1 []) [x0,x1,x2,.vl (.tup [.tup cs]),.vl (.lst (cs.filter WS)),.un]= .nx [x0,x1,x2,.vl (.tup [.tup cs]),.vl (.lst (cs.filter WS)),.vl (.lst ((cs.filter zk).map ue))]:=by
          intro x0 x1 x2;simp only[ZE,zE,Zs,v4,bOk];show ((zF (zo 0) _ _ 1 [] _ (cs.filter WS)).bind λvs=>R.ok (T.lst vs)).s _=_;rw[GW (λc hc' =>ZJ (ZN hc) hc') h4];rfl
         simp only[s4,s5];revert P;simp only[zO];generalize Ja _ _ _=z;intro P;cases z with
         | ok t=>exact P
         | ex c=>exact P
         | bad=>exact P
       | _=>rfl
     | false=>
      simp only[au,if_false,w2,w3,v3,bOk,Z9,ZD,neI,l1];cases hr:isS "row" (.str s) with
      | true=>
       simp only[if_true]
       match r,hm with
       | _ :: _,_=>simp[vt,Z9,zg,zq];rfl
       | [],hm=>
        simp only[al,aP,decide_true,bi,au,if_false,at0,bOk];cases a with
        | tup cs=>
         have hc:sOk (.tup cs):=hm _ (by simp)
         simp only[jX,bOk,Zn,bi,au,if_false,Yc,zY,zf,v3,zq,at0,ZD,ub,btw (m:=3) (M:=3) rfl];show _=R.ok (T.bl (decide (1<=cs.length) && decide (cs.length<=3) && cs.all k));cases h14:(decide (1<=cs.length) && decide (cs.length<=3)) with
         | false=>rfl
         | true=>
          have h4:cs.length<=3:=by
           rw[af,decide_eq_true_eq,decide_eq_true_eq]at h14;exact h14.2
          simp only[bi,au,if_false,Z9,zO,ZC,jV,ZW,Z3,zE,Zs,zf,v3,zq,bOk,at0,bA];have ia:jJ (.tup cs)= .ok cs:=rfl;simp only[ia,bOk,xw H0 (λu hu=>ZJ (ZN hc) hu) h4 (x:= .vl (.tup [.str s,.tup cs])) (y:= .un) (z:= .un) hL1];have el:∀ρ,Zp zc ρ= .ok (.lst []):=λ_=>rfl;simp only[el,bOk,Yb,jd,Z9,zg]
        | _=>rfl
      | false=>
       simp only[au,if_false,w2,w3,v3,bOk,Z9,ZD,neI,l3];cases hy:isS "many" (.str s) with
       | true=>
        simp only[bi,au,if_false,bOk]
        match r,hm with
        | [],_=>rfl
        | [_],_=>rfl
        | _ :: _ :: _ :: _,_=>simp[WA,Z9,zg,zq];rfl
        | [b,c],hm=>
         simp only[zD,Zq,zf,v3,zq,bOk,at0,at1,at2,ZS,Zn];have S:=WC 0 3 b c;show _=R.ok (T.bl (ja 0 3 b c && k a));cases hb:inR 0 3 b with
         | false=>
          rw[hb]at S;injection S with S;injection S with S;rw[← S];rfl
         | true=>
          rw[hb,if_pos rfl]at S;simp only[S,bOk,Zn];cases ja 0 3 b c with
          | false=>rfl
          | true=>
           have hk:=H0 a (hm a (by simp))
           simp only[zO,ZC,jV,ZW,v1,v3,j4,bOk,at0,hL1,hk,bi,au,if_false,Z9,zg,al,aP,decide_true,bA,Zq,zf,zq]
       | false=>rfl
   | _=>rfl
 | _=>rfl
theorem Yf {n:Nat}(t:T):S_a (n+1) 0 [t,.int 0]= .ok (.bl false):=by
 have e:S_a (n+1) 0 [t,.int 0]=zg (b_a f_m f_s (S_a n 0) [.vl t,.vl (.int 0),.un,.un,.un,.un]):=rfl;rw[e,b_a];simp only[zv,Zr,jW,JK,jb,zj,w0,w1,v0,zq,bOk,zY,jX,Zn,zf];cases t with
 | tup xs=>
  match xs with
  | []=>rfl
  | [h]=>rfl
  | h :: a :: r=>
   have z0:decide (((h :: a :: r).length:Int) < 2)=false:=decide_eq_false (by simp only[al];omega)
   have hL:decide ((0:Int) < 1)=true:=rfl;simp only[bi,au,if_false,ZD,ltI,z0,bOk,at0,Ye,Zn,hL];cases h <;> rfl
 | _=>rfl
theorem JO:∀(d n:Nat),d+1<=n->∀t,sOk t->S_a n 0 [t,.int d]= .ok (.bl (isK d t))
 | 0,n+1,_,t,_=>Yf t
 | d+1,n+1,h,t,ht=>Qi (λt ht=>JO d n (by omega) t ht) t ht
theorem wc (t:T)(ht:sOk t):f_a 12 [t,.int 3]= .ok (.bl (isK 3 t)):=JO 3 12 (by omega) t ht
theorem gtI (i j:Int):gtC (.int i) (.int j)= .ok (decide (i > j)):=rfl
theorem zJ (i j:Int):zl (.int i) (.int j)= .ok (.int (i+j)):=rfl
theorem kY (p:Int)(h0:0<=p)(h1:p < 26):ixT (.str "abcdefghijklmnopqrstuvwxyz") (.int p)= .ok (.str ⟨#[97+p.toNat]⟩):=by
 have h:p=0\/p=1\/p=2\/p=3\/p=4\/p=5\/p=6\/p=7\/p=8\/p=9\/p=10\/p=11\/p=12\/p=13\/p=14\/p=15\/p=16\/p=17\/p=18\/p=19\/p=20\/p=21\/p=22\/p=23\/p=24\/p=25:=by omega
 rcases h with rfl|rfl|rfl|rfl|rfl|rfl|rfl|rfl|rfl|rfl|rfl|rfl|rfl|rfl|rfl|rfl|rfl|rfl|rfl|rfl|rfl|rfl|rfl|rfl|rfl|rfl <;> rfl
abbrev gq:En->R T:=zb ixT (vE 3) (za 3 f_2 (z9 (vE 1) (z9 (zb zl (zb zl (vE 2) (cE (.int 2))) (vE 0)) (z9 (cE (.int 26)) (zc)))))
theorem kZ (ns:List Int)(k:Int)(h0:0<=k)(j:Nat):∃c:Nat,(97<=c/\c<=122)/\gq [.vl (.int (j:Int)),.vl (scr ns),.vl (.int k),.vl (.str "abcdefghijklmnopqrstuvwxyz")]= .ok (.str ⟨#[c]⟩):=by
 obtain⟨p,e,p0,p1⟩:=zL ns (k+2+j) 26 (by omega) (by omega)
 refine⟨97+p.toNat,⟨by omega,by omega⟩, ?_⟩
 simp only[gq,zf,v3,bOk,zD,v1,v2,v0,zq,zJ,e];exact kY p p0 p1
theorem Ux (ns:List Int)(k:Int)(h0:0<=k):∃w:Str,f_w [scr ns,.int k]= .ok (.str w)/\zQ (.str w)=true:=by
 have e:f_w [scr ns,.int k]=zg (b_w f_2 [.vl (scr ns),.vl (.int k),.un]):=rfl;obtain⟨p,e0,p0,p1⟩:=zL ns k 6 h0 (by omega)
 have hset:∀t,([Sl.vl (scr ns),Sl.vl (.int k),.un]:En).set 2 (.vl t)=[Sl.vl (scr ns),Sl.vl (.int k),.vl t]:=λ_=>rfl;rw[e,b_w];simp only[zv,Zr,ZE,zq,Z9,hset,zj,zD,v0,v1,bOk,e0,gtI];cases hp:decide (p > 0) with
 | true=>
  obtain⟨q,e1,q0,q1⟩:=zL ns (k+1) 4 (by omega) (by omega)
  simp only[if_true,zO,ZC,ZW,zf,zD,v0,v1,zq,bOk,zJ,e1];have hq:q=0\/q=1\/q=2\/q=3:=by omega
  rcases hq with rfl | rfl | rfl | rfl
  ·exact⟨"a",rfl,by decide⟩
  ·exact⟨"b",rfl,by decide⟩
  ·exact⟨"ab",rfl,by decide⟩
  ·exact⟨"cab",rfl,by decide⟩
 | false=>
  obtain⟨q,e1,q0,q1⟩:=zL ns (k+1) 3 (by omega) (by omega)
  simp only[au,if_false,nxS,zO,ZH,ZC,ZW,zY,zE];obtain⟨g,hg⟩:=iu.mp (kZ ns k h0);have ei:Zd (zb zl (cE (.int 1)) (za 3 f_2 (z9 (vE 0) (z9 (zb zl (vE 1) (cE (.int 1))) (z9 (cE (.int 3)) (zc)))))) [Sl.vl (scr ns),Sl.vl (.int k),.vl (.str "abcdefghijklmnopqrstuvwxyz")]= .ok (rng 0 (1+q).toNat):=by
   unfold Zd;simp only[zf,zD,v0,v1,zq,bOk,zJ,e1];rw[if_pos ⟨by omega,by omega⟩]
  have ec:∀n:Nat,n<=3->zF (zo 0) Z1 gq 1 [0,1,2] [Sl.vl (scr ns),Sl.vl (.int k),.vl (.str "abcdefghijklmnopqrstuvwxyz")] (rng 0 n)= .ok ((rng 0 n).map λt=>match t with | .int j=> .str ⟨#[g j.toNat]⟩ | t=>t):=λn hn=>
   Z2 (rng 0 n) (by unfold rng;rw[ac,a_];exact aq hn (by decide)) λt ht=>by
    unfold rng at ht;obtain⟨j,_,rfl⟩:=aw.mp ht;show gq [.vl (.int (0+(j:Int))),.vl (scr ns),.vl (.int k),.vl (.str "abcdefghijklmnopqrstuvwxyz")]= .ok (.str ⟨#[g (0+(j:Int)).toNat]⟩);rw[dR,aV];exact(hg j).2
  rw[ei,bOk,ec _ (by omega),bOk,bOk]
  have hw:∀j,zX (g j)=true:=λj=>by
   obtain⟨a,b⟩:=(hg j).1;unfold zX;rw[decide_eq_true a,decide_eq_true b];rfl
  have hq:q=0\/q=1\/q=2:=by omega
  rcases hq with rfl | rfl | rfl
  ·refine⟨⟨#[g 0]⟩,rfl, ?_⟩;show (zX (g 0) && true)=true;rw[hw 0];rfl
  ·refine⟨⟨#[g 0,g 1]⟩,rfl, ?_⟩;show (zX (g 0) && (zX (g 1) && true))=true;rw[hw 0,hw 1];rfl
  ·refine⟨⟨#[g 0,g 1,g 2]⟩,rfl, ?_⟩;show (zX (g 0) && (zX (g 1) && (zX (g 2) && true)))=true;rw[hw 0,hw 1,hw 2];rfl
theorem GZ (j:Int):Z0 (.int 5) (.int j)= .ok (.int (5*j)):=by
 show (if W3 5 j then R.ok (T.int (5*j)) else .bad)=_
 rw[if_pos (.inl ⟨by decide,by decide⟩)]
theorem wP {f g:En->R T}{ρ:En}{x y:T}(hf:f ρ= .ok x)(hg:g ρ= .ok y):zp (z9 f (z9 g zc)) ρ= .ok (.tup [x,y]):=by
 unfold zp z9 zc;rw[hf,hg];rfl
theorem K0 {f g h:En->R T}{ρ:En}{x y z:T}(hf:f ρ= .ok x)(hg:g ρ= .ok y)(hh:h ρ= .ok z):zp (z9 f (z9 g (z9 h zc))) ρ= .ok (.tup [x,y,z]):=by
 unfold zp z9 zc;rw[hf,hg,hh];rfl
theorem Qj {f g h i:En->R T}{ρ:En}{x y z w:T}(hf:f ρ= .ok x)(hg:g ρ= .ok y)(hh:h ρ= .ok z)(hi:i ρ= .ok w):zp (z9 f (z9 g (z9 h (z9 i zc)))) ρ= .ok (.tup [x,y,z,w]):=by
 unfold zp z9 zc;rw[hf,hg,hh,hi];rfl
def Dst (ws:List Str):Prop:=∀(k:Nat) (w:Str),ws[k]? =some w->w ∉ ws.take k
theorem Dst.add {ws:List Str}(h:Dst ws){w:Str}(hw:w ∉ ws):Dst (ws++[w]):=λk x hx=>by
 by_cases hk:k < ws.length
 ·rw[bq hk]at hx;rw[List.take_append_of_le_length (by omega)]
  exact h k x hx
 ·rw[bo (by omega)]at hx
  have hk' :k=ws.length:=by
   rcases Nat.lt_or_ge (k - ws.length) 1 with z | z
   ·omega
   ·rw[bP (by simpa using z)]at hx;cases hx
  subst hk';rw[Nat.sub_self]at hx;cases hx;rw[List.take_left']
  ·exact hw
  ·rfl
abbrev WD:En->RS:=zm (zx 5 (za 2 f_w (z9 (vE 0) (z9 (zb zl (zb zl (vE 1) (cE (.int 5))) (zb Z0 (cE (.int 5)) (vE 4))) (zc)))))
  (ifS (zi qN (vB 5) (vB 3)) (KT 3 (vE 5)) (nxS))
theorem JP (ns:List Int)(k:Int)(h0:0<=k):∀(js:List Nat) (ws:List Str) (x4 x5:Sl),js.length+ws.length<=4->Dst ws->(∀w∈ws,zQ (.str w)=true)->
  ∃ws' y4 y5,ZK (zo 4) WD (js.map λ(j:Nat)=>T.int (0+(j:Int))) [.vl (scr ns),.vl (.int k),.un,.ow (ws.map T.str),x4,x5]= .nx [.vl (scr ns),.vl (.int k),.un,.ow (ws'.map T.str),y4,y5]/\ws'.length<=4/\Dst ws' /\(∀w∈ws',zQ (.str w)=true)/\(0 < js.length+ws.length->0 < ws'.length)
 | [],ws,x4,x5,hl,hd,hw=>⟨ws,x4,x5,rfl,by simpa using hl,hd,hw,λh=>by simpa using h⟩
 | j :: js,ws,x4,x5,hl,hd,hw=>by
  obtain⟨w,ew,hw'⟩:=Ux ns (k+5+5*(0+(j:Int))) (by omega)
  have hl' :js.length+ws.length+1<=4:=by simpa[al,Nat.add_right_comm] using hl
  have e:ZK (zo 4) WD ((j :: js).map λ(j:Nat)=>T.int (0+(j:Int))) [.vl (scr ns),.vl (.int k),.un,.ow (ws.map T.str),x4,x5]=match WD [.vl (scr ns),.vl (.int k),.un,.ow (ws.map T.str),.vl (.int (0+(j:Int))),x5] with
   | .nx ρ2=>ZK (zo 4) WD (js.map λ(j:Nat)=>T.int (0+(j:Int))) ρ2
   | .ct ρ2=>ZK (zo 4) WD (js.map λ(j:Nat)=>T.int (0+(j:Int))) ρ2
   | .bk ρ2=> .nx ρ2
   | r=>r:=rfl
  have eb:WD [.vl (scr ns),.vl (.int k),.un,.ow (ws.map T.str),.vl (.int (0+(j:Int))),x5]= .nx [.vl (scr ns),.vl (.int k),.un,.ow ((if w∈ws then ws else ws++[w]).map T.str),.vl (.int (0+(j:Int))),.vl (.str w)]:=by
   have w3o:∀(a b c:Sl) (ts:List T) (ρ:En),vB 3 (a :: b :: c :: .ow ts :: ρ)= .ok (.lst ts):=λ_ _ _ _ _=>rfl;have hset:∀t,([.vl (scr ns),.vl (.int k),.un,.ow (ws.map T.str),.vl (.int (0+(j:Int))),x5]:En).set 5 (.vl t)=[.vl (scr ns),.vl (.int k),.un,.ow (ws.map T.str),.vl (.int (0+(j:Int))),.vl t]:=λ_=>rfl;have en:qN (.str w) (.lst (ws.map T.str))= .ok (!decide (w∈ws)):=by
    show ((match wG (λy=>eqF 30 y (.str w)) (ws.map T.str) with | some b=>R.ok b | none=> .bad)).bind (λb=>R.ok (!b))=_
    rw[Js];rfl
   simp only[WD,zv,ZE,Zq,v0,v1,v4,zf,zq,bOk,zJ,GZ,ew,Z9,hset,Zr,zj,w5,w3o,en]
   by_cases hm:w∈ws
   ·rw[decide_eq_true hm,if_pos hm];rfl
   ·rw[decide_eq_false hm,if_neg hm];have hb:(ws.map T.str).length < bnd:=by rw[ac];exact c9 (show ws.length<=4 by omega) (by decide)
    show (if (ws.map T.str).length < bnd then RS.nx _ else .bad)=_
    rw[if_pos hb,df];rfl
  rw[e,eb]
  by_cases hm:w∈ws
  ·rw[if_pos hm];obtain⟨ws',y4,y5,r1,r2,r3,r4,r5⟩:=JP ns k h0 js ws (.vl (.int (0+(j:Int)))) (.vl (.str w)) (by omega) hd hw
   exact⟨ws',y4,y5,r1,r2,r3,r4,λ_=>r5 (by have:=List.length_pos_of_mem hm;omega)⟩
  ·rw[if_neg hm];obtain⟨ws',y4,y5,r1,r2,r3,r4,r5⟩:=JP ns k h0 js (ws++[w]) (.vl (.int (0+(j:Int)))) (.vl (.str w)) (by simp only[aA,al,aP];omega) (hd.add hm) (λx hx=>by
    rcases bV.mp hx with z | z
    ·exact hw x z
    ·rw[aT.mp z];exact hw')
   exact⟨ws',y4,y5,r1,r2,r3,r4,λ_=>r5 (by simp only[aA,al,aP];omega)⟩
abbrev K1:En->R T:=zp (z9 (vE 1) (z9 (zb zl (cE (.int 1)) (za 3 f_2 (z9 (vE 2) (z9 (zb zl (zb zl (vE 3) (cE (.int 30))) (vE 0)) (z9 (cE (.int 20)) (zc)))))) (zc)))
theorem uT (ns:List Int)(k:Int)(h0:0<=k):∀(ws:List Str) (i:Nat) (x0 x1:Sl),(∀w∈ws,zQ (.str w)=true)->∃cs:List T,zI (Zb 0 1) Z1 K1 (((ws.map T.str).zipIdx i).map λp=>T.tup [.int (p.2:Nat),p.1]) [x0,x1,.vl (scr ns),.vl (.int k)]= .ok cs/\cs.all zk=true/\cs.map zR=ws
 | [],i,x0,x1,_=>⟨[],rfl,rfl,rfl⟩
 | w :: ws,i,x0,x1,hw=>by
  obtain⟨p,e,p0,p1⟩:=zL ns (k+30+i) 20 (by omega) (by omega)
  obtain⟨cs,r1,r2,r3⟩:=uT ns k h0 ws (i+1) (.vl (.int (i:Int))) (.vl (.str w)) λx hx=>hw x (ae _ hx);have ec:K1 [.vl (.int (i:Int)),.vl (.str w),.vl (scr ns),.vl (.int k)]= .ok (.tup [.str w,.int (1+p)]):=by
   have ea:za 3 f_2 (z9 (vE 2) (z9 (zb zl (zb zl (vE 3) (cE (.int 30))) (vE 0)) (z9 (cE (.int 20)) (zc)))) [.vl (.int (i:Int)),.vl (.str w),.vl (scr ns),.vl (.int k)]= .ok (.int p):=by
    simp only[zD,v2,v3,v0,zf,zq,bOk,zJ,e]
   have eb:zb zl (cE (.int 1)) (za 3 f_2 (z9 (vE 2) (z9 (zb zl (zb zl (vE 3) (cE (.int 30))) (vE 0)) (z9 (cE (.int 20)) (zc))))) [.vl (.int (i:Int)),.vl (.str w),.vl (scr ns),.vl (.int k)]= .ok (.int (1+p)):=by
    rw[zf,ea];rfl
   exact wP v1 eb
  refine⟨.tup [.str w,.int (1+p)] :: cs, ?_, ?_, ?_⟩
  ·show ((K1 [.vl (.int (i:Int)),.vl (.str w),.vl (scr ns),.vl (.int k)]).bind λv=>(zI (Zb 0 1) Z1 K1 (((ws.map T.str).zipIdx (i+1)).map λp=>T.tup [.int (p.2:Nat),p.1]) [.vl (.int (i:Int)),.vl (.str w),.vl (scr ns),.vl (.int k)]).bind λvs=>R.ok (v :: vs))=_;rw[ec,r1];rfl
  ·rw[bc,r2,Bool.and_true];show (zQ (.str w) && decide (1<=1+p) && decide (1+p<=20))=true;rw[hw w ah,decide_eq_true (by omega),decide_eq_true (by omega)];rfl
  ·rw[aB,r3];rfl
theorem vx (i j:Int):ZY (.int i) (.int j)= .ok (.int (if j < i then j else i)):=rfl
theorem Yg (ns:List Int)(k:Int)(h0:0<=k):∃t,f_k [scr ns,.int k]= .ok t/\∀d,isK (d+1) t=true:=by
 have e:f_k [scr ns,.int k]=zg (b_k f_2 f_w [.vl (scr ns),.vl (.int k),.un,.un,.un,.un]):=rfl;obtain⟨p,e0,p0,p1⟩:=zL ns k 3 h0 (by omega)
 rw[e,b_k,zv];simp only[Zr,zj,zD,v0,v1,zq,bOk,e0,gtI,Z9];cases hp:decide (p > 0) with
 | true=>
  obtain⟨q,e1,q0,q1⟩:=zL ns (k+1) 7 (by omega) (by omega)
  obtain⟨q3,e3,_,_⟩:=zL ns (k+3) 8 (by omega) (by omega)
  obtain⟨q4,e4,a4,b4⟩:=zL ns (k+4) 3 (by omega) (by omega)
  obtain⟨q2,e2,a2,b2⟩:=zL ns (k+2) 4 (by omega) (by omega)
  have hset:∀t x,([.vl (scr ns),.vl (.int k),x,.un,.un,.un]:En).set 2 (.vl t)=[.vl (scr ns),.vl (.int k),.vl t,.un,.un,.un]:=λ_ _=>rfl;have fin:∀low:Int, -20<=low->low<=20->∃t,zg (zt (zp (z9 (cE (.str "whole")) (z9 (vE 2) (z9 (zb ZY (cE (.int 20)) (zb zl (vE 2) (za 3 f_2 (z9 (vE 0) (z9 (zb zl (vE 1) (cE (.int 2))) (z9 (cE (.int 4)) (zc))))))) (zc))))) [.vl (scr ns),.vl (.int k),.vl (.int low),.un,.un,.un])= .ok t/\∀d,isK (d+1) t=true:=by
   intro low hl1 hl2;refine⟨.tup [.str "whole",.int low,.int (if low+q2 < 20 then low+q2 else 20)], ?_,λd=> ?_⟩
   ·rw[zO,ZH];refine K0 rfl rfl ?_;simp only[ZC,jV,ZW,zf,v2,v0,v1,zD,zq,bOk,zJ,e2,vx]
   ·show (decide (-20<=low) && decide (low<=_) && decide (_<=(20:Int)))=true;rw[decide_eq_true hl1,decide_eq_true (by split <;> omega),decide_eq_true (by split <;> omega)];rfl
  simp only[if_true,zv,ZE,Zr,zf,zD,v0,v1,zq,bOk,zJ,e1,j4,Z9,hset,zj,e3,eqI];cases hq:(q3 == 0) with
  | true=>
   have h3:q4=0\/q4=1\/q4=2:=by omega
   rcases h3 with rfl | rfl | rfl
   ·obtain⟨t,r,s⟩:=fin (-20) (by omega) (by omega)
    refine⟨t, ?_,s⟩;rw[← r];simp only[if_true,e4,bOk];have hv:∀ρ,(Zp (z9 (uE (cE (.int 20))) (z9 (cE (.int 17)) (z9 (cE (.int 20)) (zc)))) ρ)= .ok (.lst [.int (-20),.int 17,.int 20]):=λ_=>rfl;simp only[hv,bOk];have hx:ixT (.lst [.int (-20),.int 17,.int 20]) (.int 0)= .ok (.int (-20)):=rfl;simp only[hx,Z9,hset,zO];generalize zp _ _=z;cases z <;> rfl
   ·obtain⟨t,r,s⟩:=fin (17) (by omega) (by omega)
    refine⟨t, ?_,s⟩;rw[← r];simp only[if_true,e4,bOk];have hv:∀ρ,(Zp (z9 (uE (cE (.int 20))) (z9 (cE (.int 17)) (z9 (cE (.int 20)) (zc)))) ρ)= .ok (.lst [.int (-20),.int 17,.int 20]):=λ_=>rfl;simp only[hv,bOk];have hx:ixT (.lst [.int (-20),.int 17,.int 20]) (.int 1)= .ok (.int (17)):=rfl;simp only[hx,Z9,hset,zO];generalize zp _ _=z;cases z <;> rfl
   ·obtain⟨t,r,s⟩:=fin (20) (by omega) (by omega)
    refine⟨t, ?_,s⟩;rw[← r];simp only[if_true,e4,bOk];have hv:∀ρ,(Zp (z9 (uE (cE (.int 20))) (z9 (cE (.int 17)) (z9 (cE (.int 20)) (zc)))) ρ)= .ok (.lst [.int (-20),.int 17,.int 20]):=λ_=>rfl;simp only[hv,bOk];have hx:ixT (.lst [.int (-20),.int 17,.int 20]) (.int 2)= .ok (.int (20)):=rfl;simp only[hx,Z9,hset,zO];generalize zp _ _=z;cases z <;> rfl
  | false=>
   obtain⟨t,r,s⟩:=fin (q - 3) (by omega) (by omega)
   refine⟨t, ?_,s⟩;rw[← r];simp only[au,if_false,nxS,zO];generalize zp _ _=z;cases z <;> rfl
 | false=>
  obtain⟨q,e1,q0,q1⟩:=zL ns (k+1) 4 (by omega) (by omega)
  simp only[au,if_false,nxS,zv];have ei:Zd (zb zl (cE (.int 1)) (za 3 f_2 (z9 (vE 0) (z9 (zb zl (vE 1) (cE (.int 1))) (z9 (cE (.int 4)) (zc)))))) [.vl (scr ns),.vl (.int k),.un,.ow [],.un,.un]= .ok (rng 0 (1+q).toNat):=by
   unfold Zd;simp only[zf,zD,v0,v1,zq,bOk,zJ,e1];rw[if_pos ⟨by omega,by omega⟩]
  have el:yB 3 zc [.vl (scr ns),.vl (.int k),.un,.un,.un,.un]= .nx [.vl (scr ns),.vl (.int k),.un,.ow [],.un,.un]:=rfl;rw[el];have hn:(aC (1+q).toNat).length=(1+q).toNat:=a_;obtain⟨ws,y4,y5,r1,r2,r3,r4,r5⟩:=JP ns k h0 (aC (1+q).toNat) [] .un .un (by rw[hn,aP];omega) (λk w h=>by cases h) (λw h=>by cases h)
  have hpos:0 < ws.length:=r5 (by rw[hn,aP];omega)
  have ef:ju (Zd (zb zl (cE (.int 1)) (za 3 f_2 (z9 (vE 0) (z9 (zb zl (vE 1) (cE (.int 1))) (z9 (cE (.int 4)) (zc))))))) (zo 4) WD [.vl (scr ns),.vl (.int k),.un,.ow [],.un,.un]= .nx [.vl (scr ns),.vl (.int k),.un,.ow (ws.map T.str),y4,y5]:=by
   unfold ju;rw[ei,Z9];exact r1
  obtain⟨cs,s1,s2,s3⟩:=uT ns k h0 ws 0 .un .un r4;have hcl:cs.length=ws.length:=by rw[← s3,ac]
  refine⟨.tup [.str "pick",.tup cs], ?_,λd=> ?_⟩
  ·dsimp only;rw[ef];dsimp only;rw[zO,ZH];refine wP rfl ?_;rw[zY,zE];have ee:VD (vE 3) (frz [.vl (scr ns),.vl (.int k),.un,.ow (ws.map T.str),y4,y5])= .ok (wa (ws.map T.str)):=rfl;rw[ee,bOk];unfold zF;rw[if_pos (by unfold wa;rw[ac,List.length_zipIdx,ac];exact aq r2 (by decide))]
   have ec:zI (Zb 0 1) Z1 K1 (wa (ws.map T.str)) (Jp 2 [0,1] (frz [.vl (scr ns),.vl (.int k),.un,.ow (ws.map T.str),y4,y5]))= .ok cs:=s1;rw[ec];rfl
  ·show (decide (1<=cs.length) && decide (cs.length<=4) && cs.all zk && decide ((dd [] (cs.map zR)).length=cs.length))=true;have hd:(dd [] (cs.map zR)).length=cs.length:=by
    rw[s3,hcl];have:=(JN ws []).mpr (λk w h=>by simpa using r3 k w h)
    simpa using this
   rw[decide_eq_true (by omega),decide_eq_true (by omega),s2,decide_eq_true hd];rfl
theorem Yh (c:Int)(j:Int)(hc:W3 c j):Z0 (.int c) (.int j)= .ok (.int (c*j)):=by
 show (if W3 c j then R.ok (T.int (c*j)) else .bad)=_
 rw[if_pos hc]
theorem K2 (j:Int):Z0 (.int 3) (.int j)= .ok (.int (3*j)):=Yh _ _ (.inl ⟨by decide,by decide⟩)
theorem K3 (j:Int):Z0 (.int 50) (.int j)= .ok (.int (50*j)):=Yh _ _ (.inl ⟨by decide,by decide⟩)
abbrev gr (c:List T->R T):En->R T:=za 3 c (z9 (vE 1) (z9 (zb zl (zb zl (zb Z0 (cE (.int 3)) (vE 2)) (cE (.int 40))) (zb Z0 (cE (.int 50)) (vE 0))) (z9 (zb jN (vE 3) (cE (.int 1))) (zc))))
theorem uf (ns:List Int):∀(d n:Nat),d<=n->1<=d->∀k:Int,0<=k->∃t,S_g n 0 [scr ns,.int k,.int (d:Int)]= .ok t/\isK d t=true
 | d+1,n+1,hn,_,k,h0=>by
  have e:S_g (n+1) 0 [scr ns,.int k,.int ((d+1:Nat):Int)]=zg (b_g f_2 f_k (S_g n 0) [.vl (scr ns),.vl (.int k),.vl (.int ((d+1:Nat):Int)),.un,.un,.un]):=rfl;obtain⟨p,e0,p0,p1⟩:=zL ns k 5 h0 (by omega)
  obtain⟨l,el,hl⟩:=Yg ns (k+1) (by omega)
  have hset:([.vl (scr ns),.vl (.int k),.vl (.int ((d+1:Nat):Int)),.un,.un,.un]:En).set 3 (.vl (.int p))=[.vl (scr ns),.vl (.int k),.vl (.int ((d+1:Nat):Int)),.vl (.int p),.un,.un]:=rfl;rw[e,b_g];simp only[zv,ZE,Zr,jW,zj,zD,Zq,v0,v1,v2,zq,bOk,e0,Z9,hset,w2,w3,eqI,ltI,zJ,zO,ZC,jV,ZW,zf,el];have hd1:((((d+1:Nat):Int) == 1))=decide (d=0):=by
   by_cases h:d=0
   ·subst h;rfl
   ·rw[decide_eq_false h,beq_eq_false_iff_ne];omega
  rw[hd1]
  by_cases hleaf:d=0\/p < 2
  ·refine⟨l, ?_,hl d⟩;rcases hleaf with h | h
   ·rw[decide_eq_true h];rfl
   ·rw[decide_eq_true h];cases decide (d=0) <;> rfl
  ·have hd0:¬ d=0:=λz=>hleaf (.inl z);have hp2:¬ p < 2:=λz=>hleaf (.inr z);have hsub:((d+1:Nat):Int) - 1=(d:Int):=by omega
   rw[decide_eq_false hd0,decide_eq_false hp2];simp only[au,if_false,Z9,nxS,w3,v0,v1,v2,bOk,ltI,zq];cases hp:decide (p < 4) with
   | true=>
    obtain⟨q,e1,q0,q1⟩:=zL ns (k+1) 3 (by omega) (by omega)
    have hj:∀j:Nat,∃t,gr (S_g n 0) [.vl (.int (0+(j:Int))),.vl (scr ns),.vl (.int k),.vl (.int ((d+1:Nat):Int))]= .ok t/\isK d t=true:=λj=>by
     obtain⟨t,r,s⟩:=uf ns d n (by omega) (by omega) (3*k+40+50*(0+(j:Int))) (by omega)
     refine⟨t, ?_,s⟩;simp only[gr,zD,v0,v1,v2,v3,zf,zq,bOk,K2,K3,zJ,j4,hsub,r]
    obtain⟨g,hg⟩:=iu.mp hj;have ei:Zd (zb zl (cE (.int 1)) (za 3 f_2 (z9 (vE 0) (z9 (zb zl (vE 1) (cE (.int 1))) (z9 (cE (.int 3)) (zc)))))) [.vl (scr ns),.vl (.int k),.vl (.int ((d+1:Nat):Int)),.vl (.int p),.un,.un]= .ok (rng 0 (1+q).toNat):=by
     unfold Zd;simp only[zf,zD,v0,v1,zq,bOk,zJ,e1];rw[if_pos ⟨by omega,by omega⟩]
    have ec:zF (zo 0) Z1 (gr (S_g n 0)) 1 [0,1,2] [.vl (scr ns),.vl (.int k),.vl (.int ((d+1:Nat):Int)),.vl (.int p),.un,.un] (rng 0 (1+q).toNat)= .ok ((rng 0 (1+q).toNat).map λt=>match t with | .int j=>g j.toNat | t=>t):=
     Z2 (rng 0 (1+q).toNat) (by unfold rng;rw[ac,a_];exact aq (show (1+q).toNat<=3 by omega) (by decide)) λt ht=>by
      unfold rng at ht;obtain⟨j,_,rfl⟩:=aw.mp ht;show gr (S_g n 0) [.vl (.int (0+(j:Int))),.vl (scr ns),.vl (.int k),.vl (.int ((d+1:Nat):Int))]= .ok (g (0+(j:Int)).toNat);rw[(hg j).1,dR,aV]
    generalize hcs:((rng 0 (1+q).toNat).map λt=>match t with | .int j=>g j.toNat | t=>t)=cs at ec
    have hlen:cs.length=(1+q).toNat:=by rw[← hcs];unfold rng;rw[ac,ac,a_]
    have hall:∀t∈cs,isK d t=true:=λt ht=>by
     rw[← hcs]at ht;obtain⟨u,hu,rfl⟩:=aw.mp ht;unfold rng at hu;obtain⟨j,_,rfl⟩:=aw.mp hu;exact(hg _).2
    refine⟨.tup [.str "row",.tup cs], ?_, ?_⟩
    ·have hs4:([.vl (scr ns),.vl (.int k),.vl (.int ((d+1:Nat):Int)),.vl (.int p),.un,.un]:En).set 4 (.vl (.lst cs))=[.vl (scr ns),.vl (.int k),.vl (.int ((d+1:Nat):Int)),.vl (.int p),.vl (.lst cs),.un]:=rfl;simp only[if_true,zE,ei,bOk,ec,Z9,hs4,ZC,jV,ZW];rfl
    ·show (decide (1<=cs.length) && decide (cs.length<=3) && cs.all (isK d))=true;rw[decide_eq_true (by omega),decide_eq_true (by omega),aJ.mpr hall];rfl
   | false=>
    obtain⟨q,e1,q0,q1⟩:=zL ns (k+1) 3 (by omega) (by omega)
    obtain⟨q2,e2,_,_⟩:=zL ns (k+2) 3 (by omega) (by omega)
    obtain⟨t,r,s⟩:=uf ns d n (by omega) (by omega) (3*k+40) (by omega)
    refine⟨.tup [.str "many",t,.int q,.int (if q+q2 < 3 then q+q2 else 3)], ?_, ?_⟩
    ·have hs5:([.vl (scr ns),.vl (.int k),.vl (.int ((d+1:Nat):Int)),.vl (.int p),.un,.un]:En).set 5 (.vl (.int q))=[.vl (scr ns),.vl (.int k),.vl (.int ((d+1:Nat):Int)),.vl (.int p),.un,.vl (.int q)]:=rfl;simp only[au,if_false,v0,v1,zf,zq,bOk,zJ,e1,Z9,hs5,ZC,jV,ZW,ZH];refine Qj rfl ?_ rfl ?_
     ·simp only[zD,v0,v1,v2,zf,zq,bOk,K2,zJ,j4,hsub,r]
     ·have v5:∀{t:T} {a b c d e:Sl} {ρ:En},vE 5 (a :: b :: c :: d :: e :: .vl t :: ρ)= .ok t:=rfl;simp only[zD,v0,v1,v5,zf,zq,bOk,zJ,e2,vx]
    ·show (ja 0 3 (.int q) (.int _) && isK d t)=true;rw[s,Bool.and_true];show (decide (0<=q) && decide (q<=_) && decide (_<=(3:Int)))=true;rw[decide_eq_true (by omega),decide_eq_true (by split <;> omega),decide_eq_true (by split <;> omega)];rfl
mutual
def dep:T->Nat
 | .tup xs=>jp xs+1
 | .lst xs=>jp xs+1
 | _=>1
def jp:List T->Nat
 | []=>0
 | t :: ts=>max (dep t) (jp ts)
end
mutual
def siz:T->Nat
 | .tup xs=>j6 xs+1
 | .lst xs=>j6 xs+1
 | _=>1
def j6:List T->Nat
 | []=>0
 | t :: ts=>siz t+j6 ts
end
theorem Jf {w:Str}{t:T}(h:isS w t=true):t= .str w:=by
 cases t with
 | str s=>
  have:(s == w)=true:=h;rw[eq_of_beq this]
 | _=>cases h
theorem jY {lo hi:Int}{t:T}(h:inR lo hi t=true):∃i,t= .int i:=by
 cases t with
 | int i=>exact⟨i,rfl⟩
 | _=>cases h
theorem Jt {lo hi:Int}{a b:T}(h:ja lo hi a b=true):∃i j,a= .int i/\b= .int j:=by
 cases a with
 | int i=>
  cases b with
  | int j=>exact⟨i,j,rfl,rfl⟩
  | _=>cases h
 | _=>cases h
structure Fit (D S:Nat) (t:T):Prop where
 so:sOk t
 dp:dep t<=D
 sz:siz t<=S
theorem Uy {c:T}(h:zk c=true):Fit 2 3 c:=by
 unfold zk at h;split at h
 ·rename_i w i;have hw:zQ w=true:=by
   rw[af,af]at h;exact h.1.1
  cases w with
  | str x=>
   have hx:(decide (1<=x.length) && decide (x.length<=3) && x.cps.toList.all zX)=true:=hw;rw[af,af,decide_eq_true_eq,decide_eq_true_eq]at hx;refine⟨?_, ?_, ?_⟩
   ·simp only[sOk,jj,and_true];exact aq hx.1.2 (by decide)
   ·simp[dep,jp]
   ·simp[siz,j6]
  | _=>cases hw
 ·cases h
theorem z00 {D S:Nat}:∀{cs:List T},(∀c∈cs,Fit D S c)->jj cs/\jp cs<=D/\j6 cs<=S*cs.length
 | [],_=>⟨by simp only[jj],bT _,bT _⟩
 | c :: cs,h=>by
  obtain⟨a,b,d⟩:=z00 (cs:=cs) λx hx=>h x (ae _ hx);obtain⟨x,y,z⟩:=h c ah;refine⟨?_, ?_, ?_⟩
  ·simp only[jj];exact⟨x,a⟩
  ·simp only[jp];omega
  ·simp only[j6,al,Nat.mul_add,Nat.mul_one];omega
theorem jK:∀(d:Nat) (t:T),isK d t=true->Fit (2*d+2) (15*4 ^ d) t
 | 0,_,h=>by cases h
 | d+1,t,h=>by
  have hpow:4 ^ (d+1)=4*4 ^ d:=by rw[dS,dt]
  have hone:1<=4 ^ d:=Nat.pow_pos (by omega)
  have h:wN (isK d) t=true:=h;unfold wN at h;split at h
  ·rename_i hd r;split at h
   ·rename_i e;rw[Jf e];unfold Je at h;split at h
    ·obtain⟨i,j,rfl,rfl⟩:=Jt h;refine⟨by simp only[sOk,jj,and_true];decide,by simp only[dep,jp];omega,by simp only[siz,j6];omega⟩
    ·cases h
   ·split at h
    ·rename_i e;rw[Jf e];unfold Wz at h;split at h
     ·rename_i c;unfold Wy at h;split at h
      ·rename_i cs;rw[af,af,af,decide_eq_true_eq,decide_eq_true_eq]at h;obtain⟨a,b,z⟩:=z00 (D:=2) (S:=3) (cs:=cs) λc hc=>Uy (aJ.mp h.1.2 c hc);refine⟨by simp only[sOk,jj,and_true];exact⟨by decide,a⟩,by simp only[dep,jp];omega,by simp only[siz,j6];omega⟩
      ·cases h
     ·cases h
    ·split at h
     ·rename_i e;rw[Jf e];unfold vt at h;split at h
      ·rename_i c;unfold JL at h;split at h
       ·rename_i cs;rw[af,af,decide_eq_true_eq,decide_eq_true_eq]at h;obtain⟨a,b,z⟩:=z00 (D:=2*d+2) (S:=15*4 ^ d) (cs:=cs) λc hc=>jK d c (aJ.mp h.2 c hc);have:15*4 ^ d*cs.length<=15*4 ^ d*3:=dP _ h.1.2;refine⟨by simp only[sOk,jj,and_true];exact⟨by decide,a⟩,by simp only[dep,jp];omega,by simp only[siz,j6];omega⟩
       ·cases h
      ·cases h
     ·split at h
      ·rename_i e;rw[Jf e];unfold WA at h;split at h
       ·rename_i c a b;rw[af]at h;obtain⟨i,j,rfl,rfl⟩:=Jt h.1;obtain⟨x,y,z⟩:=jK d c h.2;refine⟨by simp only[sOk,jj,and_true];exact⟨by decide,x⟩,by simp only[dep,jp];omega,by simp only[siz,j6];omega⟩
       ·cases h
      ·cases h
  ·cases h
def W5:T->List Nat->Option T
 | t,[]=>some t
 | .tup xs,i :: r=>match xs[i]? with | some x=>W5 x r | none=>none
 | _,_ :: _=>none
abbrev pth (p:List Nat):T:= .tup (p.map λ(i:Nat)=>T.int (i:Int))
abbrev vy (c:List T->R T):En->RS:=qT 1 (zC (Zm (za 1 c (z9 (zb ixT (vE 0) (vE 2)) (zc)))) (zo 0) (Z1) (zb zl (zp (z9 (vE 1) (zc))) (vE 0)) 1 [2])
def Uz (xs:List T)(j:Nat):Nat:=match xs[j]? with | some x=>siz x | none=>0
theorem ug:∀xs:List T,((aC xs.length).map (Uz xs)).sum=j6 xs
 | []=>rfl
 | x :: xs=>by
  rw[al,cF,aB,cY,aQ];show siz x+((aC xs.length).map (Uz xs)).sum=siz x+j6 xs;rw[ug xs]
theorem wQ:∀{xs:List T} {x:T},x∈xs->siz x<=j6 xs
 | y :: ys,x,h=>by
  simp only[j6];rcases ax.mp h with rfl | h
  ·omega
  ·have:=wQ h;omega
theorem uh (t:T):1<=siz t:=by cases t <;> simp[siz]
theorem uU:∀{t u:T} (p:List Nat),W5 t p=some u->p.length < siz t
 | t,_,[],_=>uh t
 | .tup xs,u,i :: r,h=>by
  have h:(match xs[i]? with | some x=>W5 x r | none=>none)=some u:=h
  cases hx:xs[i]? with
  | none=>rw[hx]at h;cases h
  | some x=>
   rw[hx]at h;have a:=uU r h;have b:=wQ (bx hx);simp only[siz,al];omega
 | .non,_,_ :: _,h=>by cases h
 | .bl _,_,_ :: _,h=>by cases h
 | .int _,_,_ :: _,h=>by cases h
 | .str _,_,_ :: _,h=>by cases h
 | .lst _,_,_ :: _,h=>by cases h
 | .fz _,_,_ :: _,h=>by cases h
theorem X9 {f:En->R T}{ρ:En}{x:T}(hf:f ρ= .ok x):zp (z9 f zc) ρ= .ok (.tup [x]):=by
 unfold zp z9 zc;rw[hf];rfl
theorem uV {c:List T->R T}{xs:List T}(H:∀x∈xs,∃ps:List (List Nat),c [x]= .ok (.lst (ps.map pth))/\ps.length<=siz x/\∀p∈ps,∃u,W5 x p=some u):
  ∀(js:List Nat),(∀j∈js,j < xs.length)->∀(acc:List (List Nat)) (x2:Sl),(∀p∈acc,∃u,W5 (.tup xs) p=some u)->acc.length+(js.map (Uz xs)).sum<=bnd->
  ∃(acc' :List (List Nat)) (y2:Sl),ZK (zo 2) (vy c) (js.map λ(j:Nat)=>T.int (0+(j:Int))) [.vl (.tup xs),.ow (acc.map pth),x2]= .nx [.vl (.tup xs),.ow (acc'.map pth),y2]/\acc.length<=acc'.length/\acc'.length<=acc.length+(js.map (Uz xs)).sum/\∀p∈acc',∃u,W5 (.tup xs) p=some u
 | [],_,acc,x2,ha,hl=>⟨acc,x2,rfl,am _,by simp,ha⟩
 | j :: js,hj,acc,x2,ha,hl=>by
  have hjl:j < xs.length:=hj j ah;have hx:xs[j]? =some xs[j]:=ad hjl;obtain⟨ps,e1,e2,e3⟩:=H xs[j] (iw hjl);have hsz:Uz xs j=siz xs[j]:=by unfold Uz;rw[hx]
  rw[aB,cY,hsz]at hl;have e:ZK (zo 2) (vy c) ((j :: js).map λ(j:Nat)=>T.int (0+(j:Int))) [.vl (.tup xs),.ow (acc.map pth),x2]=match vy c [.vl (.tup xs),.ow (acc.map pth),.vl (.int (0+(j:Int)))] with
   | .nx ρ2=>ZK (zo 2) (vy c) (js.map λ(j:Nat)=>T.int (0+(j:Int))) ρ2
   | .ct ρ2=>ZK (zo 2) (vy c) (js.map λ(j:Nat)=>T.int (0+(j:Int))) ρ2
   | .bk ρ2=> .nx ρ2
   | r=>r:=rfl
  have eb:vy c [.vl (.tup xs),.ow (acc.map pth),.vl (.int (0+(j:Int)))]= .nx [.vl (.tup xs),.ow ((acc++ps.map (j :: ·)).map pth),.vl (.int (0+(j:Int)))]:=by
   have ex:ixT (.tup xs) (.int (0+(j:Int)))= .ok xs[j]:=by
    rw[dR];show atT xs j=_;unfold atT;rw[ZL hx]
   have ei:Zm (za 1 c (z9 (zb ixT (vE 0) (vE 2)) (zc))) [.vl (.tup xs),.ow (acc.map pth),.vl (.int (0+(j:Int)))]= .ok (ps.map pth):=by
    simp only[Zs,zM,zf,v0,v2,bOk,ex,e1];rfl
   have ec:zF (zo 0) Z1 (zb zl (zp (z9 (vE 1) (zc))) (vE 0)) 1 [2] [.vl (.tup xs),.ow (acc.map pth),.vl (.int (0+(j:Int)))] (ps.map pth)= .ok ((ps.map pth).map λt=>match t with | .tup q=> .tup (.int (0+(j:Int)) :: q) | t=>t):=
    Z2 _ (by rw[ac];omega) λt ht=>by
     obtain⟨p,hp,rfl⟩:=aw.mp ht;show zb zl (zp (z9 (vE 1) (zc))) (vE 0) [.vl (pth p),.vl (.int (0+(j:Int)))]=_;rw[zf,X9 v1,bOk,v0,bOk];obtain⟨u,hu⟩:=e3 p hp;have hpl:=uU p hu;show (if [T.int (0+(j:Int))].length+(p.map λ(i:Nat)=>T.int (i:Int)).length<=bnd then R.ok (T.tup _) else .bad)=_
     rw[if_pos (by rw[ac,aD];omega)]
     rfl
   show ((zC _ _ _ _ _ _ _).s λt=>match t with | .lst us=>if (acc.map pth).length+us.length<=bnd then RS.nx _ else .bad | _=> .bad)=_
   rw[zE,ei,bOk,ec,bOk,Z9];show (if _ then _ else _)=_
   rw[if_pos (by simp only[ac];omega)]
   rw[df,aQ,aQ];show RS.nx [.vl (.tup xs),.ow (acc.map pth++_),.vl (.int (0+(j:Int)))]=_;have hm:List.map ((λt=>match t with | .tup q=>T.tup (.int (0+(j:Int)) :: q) | t=>t) ∘ pth) ps=List.map (pth ∘ λx=>j :: x) ps:=by
    refine bN λp _=> ?_;show T.tup (T.int (0+(j:Int)) :: _)=T.tup (T.int (j:Int) :: _);rw[dR]
   rw[← hm]
  rw[e,eb];obtain⟨acc',y2,r1,r2,r3,r4⟩:=uV H js (λi hi=>hj i (ae _ hi)) (acc++ps.map (j :: ·)) (.vl (.int (0+(j:Int)))) (λp hp=>by
   rcases bV.mp hp with z | z
   ·exact ha p z
   ·obtain⟨q,hq,rfl⟩:=aw.mp z;obtain⟨u,hu⟩:=e3 q hq;refine⟨u, ?_⟩;show (match xs[j]? with | some x=>W5 x q | none=>none)=some u
    rw[hx];exact hu) (by rw[aA,ac];omega)
  rw[aA,ac]at r2 r3;refine⟨acc',y2,r1,by omega, ?_,r4⟩
  rw[aB,cY,hsz];omega
theorem Yi:∀{xs:List T} {x:T},x∈xs->dep x<=jp xs
 | y :: ys,x,h=>by
  simp only[jp];rcases ax.mp h with rfl | h
  ·omega
  ·have:=Yi h;omega
def lim:Nat:=900000
theorem ui:lim+lim+lim+10<=bnd:=by decide
theorem xy:(lim:Int)+10 < 1000000:=by decide
abbrev UA (c:List T->R T)(t:T):Prop:=∃ps:List (List Nat),c [t]= .ok (.lst (ps.map pth))/\0 < ps.length/\ps.length<=siz t/\∀p∈ps,∃u,W5 t p=some u
theorem Ju:∀xs:List T,xs.length<=j6 xs
 | []=>bT _
 | x :: xs=>by
  have:=uh x;have:=Ju xs;simp only[j6,al];omega
theorem K4 {xs:List T}{a b:Sl}(h:(xs.length:Int) < 1000000):Zd (ap1 zK (vB 0)) [.vl (.tup xs),a,b]= .ok (rng 0 xs.length):=by
 unfold Zd;rw[zY,w0,bOk,ZD,bOk];dsimp only;rw[if_pos ⟨by omega,by omega⟩,aV]
theorem Yj (t:T)(ps:List (List Nat))(y:Sl):zg (zt (vE 1) [.vl t,.ow (ps.map pth),y])= .ok (.lst (ps.map pth)):=rfl
theorem K5 (t:T):yB 1 (z9 (zp zc) zc) [.vl t,.un,.un]= .nx [.vl t,.ow [.tup []],.un]:=rfl
theorem vz {c:List T->R T}(t:T):zg (b_i c (en0 3 [t]))=zg (match (tru (.bl (isT "tuple" t))).s λk=>if k=true then ju (Zd (ap1 zK (vB 0))) (zo 2) (vy c) [.vl t,.ow [.tup []],.un] else nxS [.vl t,.ow [.tup []],.un] with | .nx ρ=>zt (vE 1) ρ | r=>r):=by
 have e:zg (b_i c (en0 3 [t]))=zg (b_i c [.vl t,.un,.un]):=rfl;rw[e,b_i,zv,K5];dsimp only;rw[zv,Zr,jb,zY,w0,bOk];rfl
theorem UB {c:List T->R T}(xs:List T)(hs:j6 xs+1<=lim)(H:∀x∈xs,UA c x):UA (λts=>zg (b_i c (en0 3 ts))) (.tup xs):=by
 have hb:=ui;have hm:=xy;have H:∀x∈xs,∃ps:List (List Nat),c [x]= .ok (.lst (ps.map pth))/\ps.length<=siz x/\∀p∈ps,∃u,W5 x p=some u:=λx hx=>by
  obtain⟨ps,r1,r2,r3,r4⟩:=H x hx;exact⟨ps,r1,r3,r4⟩
 have hlen:=Ju xs;obtain⟨acc,y,r1,r2,r3,r4⟩:=uV H (aC xs.length) (λj hj=>ba.mp hj) [[]] .un (λp hp=>by
  rw[aT.mp hp];exact⟨_,rfl⟩) (by rw[ug,aD];omega)
 rw[ug,aD]at r3;rw[aD]at r2;refine⟨acc, ?_,by omega,by simp only[siz];omega,r4⟩
 have ef:ju (Zd (ap1 zK (vB 0))) (zo 2) (vy c) [.vl (.tup xs),.ow [.tup []],.un]= .nx [.vl (.tup xs),.ow (acc.map pth),y]:=by
  unfold ju;rw[K4 (by omega),Z9]
  exact r1
 dsimp only;rw[vz,show isT "tuple" (.tup xs)=true from rfl,Zn,Z9,if_pos rfl,ef];exact Yj _ acc y
theorem UC {c:List T->R T}(t:T)(ht:∀xs,t ≠ .tup xs):UA (λts=>zg (b_i c (en0 3 ts))) t:=by
 have e:isT "tuple" t=false:=by
  cases t with
  | tup xs=>exact(ht xs rfl).elim
  | _=>rfl
 refine⟨[[]], ?_,by decide,uh t,λp hp=> ?_⟩
 ·dsimp only;rw[vz,e,Zn,Z9,if_neg ao];exact Yj t [[]] .un
 rw[aT.mp hp];exact⟨t,by cases t <;> rfl⟩
theorem uj {c:List T->R T}(t:T)(hs:siz t<=lim)(H:∀xs,t= .tup xs->∀x∈xs,UA c x):UA (λts=>zg (b_i c (en0 3 ts))) t:=by
 by_cases ht:∃xs,t= .tup xs
 ·obtain⟨xs,rfl⟩:=ht;simp only[siz]at hs;exact UB xs hs (H xs rfl)
 ·exact UC t λxs z=>ht ⟨xs,z⟩
theorem Yk (n:Nat):∀(t:T),dep t<=n->siz t<=lim->UA (S_i n 0) t:=by
 induction n with
 | zero=>intro t h;cases t <;> simp[dep]at h
 | succ n ih=>
  intro t h hs;exact uj t hs λxs e x hx=>by
   subst e;simp only[dep,siz]at h hs;have a:=Yi hx;have b:=wQ hx;exact ih x (by omega) (by omega)
theorem vA {xs:List T}{j:Nat}{x:T}(h:xs[j]? =some x):ixT (.tup xs) (.int (j:Int))= .ok x:=by
 show atT xs j=_;unfold atT;rw[ZL h]
theorem JQ {xs:List T}{i:Nat}{r:List Nat}{u:T}(h:W5 (.tup xs) (i :: r)=some u):∃x,xs[i]? =some x/\W5 x r=some u:=by
 have h:(match xs[i]? with | some x=>W5 x r | none=>none)=some u:=h
 cases hx:xs[i]? with
 | none=>rw[hx]at h;cases h
 | some x=>rw[hx]at h;exact⟨x,rfl,h⟩
theorem wR {t:T}{i:Nat}{r:List Nat}{u:T}(h:W5 t (i :: r)=some u):∃xs,t= .tup xs:=by
 cases t with
 | tup xs=>exact⟨xs,rfl⟩
 | _=>cases h
theorem uW (t:T):W5 t []=some t:=by cases t <;> rfl
theorem Yl {X:Sl}:∀(p:List Nat) (t u:T) (y:Sl),W5 t p=some u->∃y',ZK (zo 2) (zx 0 (zb ixT (vE 0) (vE 2))) (p.map λ(i:Nat)=>T.int (i:Int)) [.vl t,X,y]= .nx [.vl u,X,y']
 | [],t,u,y,h=>by
  rw[uW]at h;cases h;exact⟨y,rfl⟩
 | i :: r,t,u,y,h=>by
  obtain⟨xs,rfl⟩:=wR h;obtain⟨x,hx,hr⟩:=JQ h;obtain⟨y',e⟩:=Yl (X:=X) r x u (.vl (.int (i:Int))) hr;refine⟨y', ?_⟩;have e1:ZK (zo 2) (zx 0 (zb ixT (vE 0) (vE 2))) ((i :: r).map λ(i:Nat)=>T.int (i:Int)) [.vl (.tup xs),X,y]=match zx 0 (zb ixT (vE 0) (vE 2)) [.vl (.tup xs),X,.vl (.int (i:Int))] with
   | .nx ρ2=>ZK (zo 2) (zx 0 (zb ixT (vE 0) (vE 2))) (r.map λ(j:Nat)=>T.int (j:Int)) ρ2
   | .ct ρ2=>ZK (zo 2) (zx 0 (zb ixT (vE 0) (vE 2))) (r.map λ(j:Nat)=>T.int (j:Int)) ρ2
   | .bk ρ2=> .nx ρ2
   | r=>r:=rfl
  rw[e1,ZE,zf,v0,bOk,v2,bOk,vA hx,Z9];exact e
theorem z01 {t u:T}{p:List Nat}(h:W5 t p=some u):X5 [t,pth p]= .ok u:=by
 obtain⟨y',e⟩:=Yl (X:= .vl (pth p)) p t u .un h;have e0:X5 [t,pth p]=zg (g9 [.vl t,.vl (pth p),.un]):=rfl;have ef:ju (Zm (vE 1)) (zo 2) (zx 0 (zb ixT (vE 0) (vE 2))) [.vl t,.vl (pth p),.un]= .nx [.vl u,.vl (pth p),y']:=e;rw[e0,g9,zv,ef];rfl
def WE:T->List Nat->T->T
 | _,[],v=>v
 | .tup xs,i :: r,v=>match xs[i]? with
  | some x=> .tup (xs.take i++[WE x r v]++xs.drop (i+1))
  | none=> .tup xs
 | t,_ :: _,_=>t
theorem Ym {xs:List T}{i:Nat}(h:i < xs.length):slT (.tup xs) none (some (i:Int))= .ok (.tup (xs.take i)):=by
 show R.ok (T.tup (cut xs none (some (i:Int))))=_;have:cut xs none (some (i:Int))=xs.take i:=by
  unfold cut;rw[HT.sIx_none,HT.sIx_nat,dM (by omega),fA,dZ]
 rw[this]
theorem WF {xs:List T}{i:Nat}(h:i<=xs.length):slT (.tup xs) (some (i:Int)) none= .ok (.tup (xs.drop i)):=by
 show R.ok (T.tup (cut xs (some (i:Int)) none))=_;have:cut xs (some (i:Int)) none=xs.drop i:=by
  unfold cut;rw[HT.sIx_none,HT.sIx_nat,dM h];exact fy (by rw[bB];omega)
 rw[this]
theorem Qk {xs:List T}{i j:Nat}(hi:i<=xs.length)(hj:j<=xs.length):slT (.tup xs) (some (i:Int)) (some (j:Int))= .ok (.tup ((xs.drop i).take (j - i))):=by
 show R.ok (T.tup (cut xs (some (i:Int)) (some (j:Int))))=_;have:cut xs (some (i:Int)) (some (j:Int))=(xs.drop i).take (j - i):=by
  unfold cut;rw[HT.sIx_nat,HT.sIx_nat,dM hi,dM hj]
 rw[this]
theorem Jg {xs ys:List T}(h:xs.length+ys.length<=bnd):zl (.tup xs) (.tup ys)= .ok (.tup (xs++ys)):=if_pos h
theorem je {f:En->R T}{ρ:En}{i:Int}(h:f ρ= .ok (.int i)):Z5 f ρ= .ok (some i):=by
 unfold Z5;rw[h];rfl
theorem Ql {c:List T->R T}{xs:List T}{i:Nat}{r:List Nat}{v x w:T}(hx:xs[i]? =some x)(hl:xs.length<=lim)(hc:c [x,pth r,v]= .ok w):
  zg (b_e c (en0 4 [.tup xs,pth (i :: r),v]))= .ok (.tup (xs.take i++[w]++xs.drop (i+1))):=by
 have hi:i < xs.length:=(az.mp hx).1;have hb:=ui;have e:zg (b_e c (en0 4 [.tup xs,pth (i :: r),v]))=zg (b_e c [.vl (.tup xs),.vl (pth (i :: r)),.vl v,.un]):=rfl;have e1:zi eqC (vB 1) (zp zc) [.vl (.tup xs),.vl (pth (i :: r)),.vl v,.un]= .ok false:=rfl;have e2:zx 3 (zb ixT (vE 1) (cE (.int 0))) [.vl (.tup xs),.vl (pth (i :: r)),.vl v,.un]= .nx [.vl (.tup xs),.vl (pth (i :: r)),.vl v,.vl (.int (i:Int))]:=by
  rw[ZE,zf,v1,bOk,zq,bOk,show ixT (pth (i :: r)) (.int 0)= .ok (.int (i:Int)) from at0,Z9];rfl
 rw[e,b_e,zv,Zr,e1,Z9,if_neg ao];unfold nxS;dsimp only;rw[zv,e2];dsimp only;rw[zO,ZC,ZC,ZC,ZC,ZW,ZH];have ep:slE (vE 1) (Z5 (cE (.int 1))) noO [.vl (.tup xs),.vl (pth (i :: r)),.vl v,.vl (.int (i:Int))]= .ok (pth r):=by
  rw[Jo,v1,bOk,vw,bOk,Yd,bOk];exact cut1
 have ec:za 3 c (z9 (zb ixT (vE 0) (vE 3)) (z9 (slE (vE 1) (Z5 (cE (.int 1))) (noO)) (z9 (vE 2) (zc)))) [.vl (.tup xs),.vl (pth (i :: r)),.vl v,.vl (.int (i:Int))]= .ok w:=by
  rw[zD,zf,v0,bOk,v3,bOk,vA hx,bOk,ep,bOk,v2,bOk,hc]
 have ea:zl (.int (i:Int)) (.int 1)= .ok (.int ((i+1:Nat):Int)):=by
  rw[zJ,fF];rfl
 have eb:zb zl (vE 3) (cE (.int 1)) [.vl (.tup xs),.vl (pth (i :: r)),.vl v,.vl (.int (i:Int))]= .ok (.int ((i+1:Nat):Int)):=by
  rw[zf,v3,bOk,zq,bOk,ea]
 rw[zf,zf,Jo,v0,bOk,Yd,bOk,je v3,bOk,Ym hi,bOk,X9 ec,bOk,Jg (by rw[bn,aD];omega),bOk,Jo,v0,bOk,je eb,bOk,Yd,bOk,WF (by omega),bOk]
 exact Jg (by rw[aA,bn,aD,bB];omega)
theorem K6 (n:Nat):∀(p:List Nat) (t u v:T),p.length < n->siz t<=lim->W5 t p=some u->S_e n 0 [t,pth p,v]= .ok (WE t p v):=by
 induction n with
 | zero=>intro p t u v h;omega
 | succ n ih=>
  intro p t u v h hs hg;cases p with
  | nil=>
   have:WE t [] v=v:=by cases t <;> rfl
   rw[this];rfl
  | cons i r=>
   obtain⟨xs,rfl⟩:=wR hg;obtain⟨x,hx,hr⟩:=JQ hg;simp only[siz]at hs;have hl:=Ju xs;have hz:=wQ (bx hx);rw[al]at h;have hc:=ih r x u v (by omega) (by omega) hr
   have:=Ql (c:=S_e n 0) (r:=r) hx (by omega) hc
   have e:WE (.tup xs) (i :: r) v= .tup (xs.take i++[WE x r v]++xs.drop (i+1)):=by
    show (match xs[i]? with | some x=>T.tup (xs.take i++[WE x r v]++xs.drop (i+1)) | none=> .tup xs)=_
    rw[hx]
   rw[e];exact this
theorem jk:∀(xs ys:List T),j6 (xs++ys)=j6 xs+j6 ys
 | [],ys=>by simp[j6]
 | x :: xs,ys=>by simp only[dH,j6,jk xs ys];omega
theorem jl:∀(xs ys:List T),jp (xs++ys)=max (jp xs) (jp ys)
 | [],ys=>by simp[jp]
 | x :: xs,ys=>by simp only[dH,jp,jl xs ys];omega
theorem jm:∀{xs ys:List T},jj (xs++ys)↔jj xs/\jj ys
 | [],ys=>by simp[jj]
 | x :: xs,ys=>by simp only[dH,jj,jm (xs:=xs) (ys:=ys),and_assoc]
theorem Qm {xs:List T}{i:Nat}{x:T}(h:xs[i]? =some x):xs=xs.take i++([x]++xs.drop (i+1)):=by
 obtain⟨hi,rfl⟩:=az.mp h;rw[List.singleton_append,← cg,List.take_append_drop]
theorem JR {xs:List T}{i:Nat}{x:T}(h:xs[i]? =some x):(jj xs->jj (xs.take i)/\sOk x/\jj (xs.drop (i+1)))/\jp (xs.take i)<=jp xs/\dep x<=jp xs/\jp (xs.drop (i+1))<=jp xs/\j6 (xs.take i)+siz x+j6 (xs.drop (i+1))=j6 xs:=by
 have e:=Qm h;have e1:jj xs↔jj (xs.take i)/\jj [x]/\jj (xs.drop (i+1)):=by
  conv=>lhs;rw[e,jm,jm]
 have e2:jp xs=max (jp (xs.take i)) (max (jp [x]) (jp (xs.drop (i+1)))):=by
  conv=>lhs;rw[e,jl,jl]
 have e3:j6 xs=j6 (xs.take i)+(j6 [x]+j6 (xs.drop (i+1))):=by
  conv=>lhs;rw[e,jk,jk]
 simp only[jp,j6,Nat.add_zero,Nat.max_zero]at e2 e3;refine⟨λq=> ?_,by omega,by omega,by omega,by omega⟩
 have:=e1.mp q;simp only[jj,and_true]at this;exact this
theorem Yn:∀(p:List Nat) (t v:T),sOk t->sOk v->sOk (WE t p v)/\dep (WE t p v)<=dep t+dep v/\siz (WE t p v)<=siz t+siz v
 | [],t,v,ht,hv=>by
  have:WE t [] v=v:=by cases t <;> rfl
  rw[this];exact⟨hv,by omega,by omega⟩
 | i :: r,t,v,ht,hv=>by
  by_cases hx:∃xs x,t= .tup xs/\xs[i]? =some x
  ·obtain⟨xs,x,rfl,hx⟩:=hx;have e:WE (.tup xs) (i :: r) v= .tup (xs.take i++[WE x r v]++xs.drop (i+1)):=by
    show (match xs[i]? with | some x=>T.tup (xs.take i++[WE x r v]++xs.drop (i+1)) | none=> .tup xs)=_
    rw[hx]
   obtain⟨q1,q2,q3,q4,q5⟩:=JR hx;obtain⟨s1,s2,s3⟩:=q1 (ZN ht);obtain⟨i1,i2,i3⟩:=Yn r x v s2 hv;rw[e];refine⟨?_, ?_, ?_⟩
   ·simp only[sOk,jm,jj,and_true];exact⟨⟨s1,i1⟩,s3⟩
   ·simp only[dep,jl,jp,Nat.max_zero];omega
   ·simp only[siz,jk,j6,Nat.add_zero];omega
  ·have:WE t (i :: r) v=t:=by
    cases t with
    | tup xs=>
     show (match xs[i]? with | some x=>T.tup (xs.take i++[WE x r v]++xs.drop (i+1)) | none=> .tup xs)=_
     cases hi:xs[i]? with
     | none=>rfl
     | some x=>exact(hx ⟨xs,x,rfl,hi⟩).elim
    | _=>rfl
   rw[this];exact⟨ht,by omega,by omega⟩
theorem Yo:∀(p:List Nat) (t u:T),W5 t p=some u->(sOk t->sOk u)/\dep u+p.length<=dep t/\siz u<=siz t
 | [],t,u,h=>by
  rw[uW]at h;cases h;exact⟨id,am _,am _⟩
 | i :: r,t,u,h=>by
  obtain⟨xs,rfl⟩:=wR h;obtain⟨x,hx,hr⟩:=JQ h;obtain⟨q1,q2,q3,q4,q5⟩:=JR hx;obtain⟨i1,i2,i3⟩:=Yo r x u hr;refine⟨λq=>i1 (q1 (ZN q)).2.1, ?_, ?_⟩
  ·simp only[dep,al];omega
  ·simp only[siz];omega
theorem Yp (t:T):1<=dep t:=by cases t <;> simp[dep]
theorem xz {xs:List T}{j:Nat}{x:T}(h:xs[j]? =some x):ixT (.lst xs) (.int (j:Int))= .ok x:=by
 show atT xs j=_;unfold atT;rw[ZL h]
theorem ixl {xs:List T}{i:Int}(h0:0<=i)(h1:i < (xs.length:Int)):∃x,ixT (.lst xs) (.int i)= .ok x/\x∈xs:=by
 have hj:i.toNat < xs.length:=by omega
 have e:i=((i.toNat:Nat):Int):=by omega
 have q:=xz (ad hj);rw[← e]at q;exact⟨xs[i.toNat],q,iw hj⟩
def jf (u:T):List T:=[.int 0,.int 1,.int (-21),.int 21,.int 3,.int 4,.bl true,.non,.str "a",.str "abcd",.str "A",.str "",.str "many",.str "row",.tup [],.tup [u],.lst [u],.tup [.str "whole",.int 1,.int 0]]
theorem UD {u:T}{D S:Nat}(h:Fit D S u):∀v∈jf u,Fit (D+2) (2*S+4) v:=by
 obtain⟨h1,h2,h3⟩:=h;have hl:∀n:Nat,n<=10->n<=bnd:=λn h=>aq h (by decide)
 intro v hv;unfold jf at hv;simp only[ax,aY,or_false]at hv;rcases hv with rfl | rfl | rfl | rfl | rfl | rfl | rfl | rfl | rfl | rfl | rfl | rfl | rfl | rfl | rfl | rfl | rfl | rfl
 all_goals first
  | exact⟨by simp only[sOk,jj,and_true];first | decide | exact h1,by simp only[dep,jp];omega,by simp only[siz,j6];omega⟩
  | exact⟨by simp only[sOk,jj],by simp only[dep,jp];omega,by simp only[siz,j6];omega⟩
  | exact⟨hl _ (by decide),by simp only[dep,jp];omega,by simp only[siz,j6];omega⟩
theorem wS {a b t d p e g h i:T}{j:Sl}{f:En->R T}{v w:T}(hj:wn j=j)(hf:f [.vl a,.vl b,.vl t,.vl d,.vl p,.vl e,.vl g,.vl h,j]= .ok v)(hw:f_e 40 [t,p,v]= .ok w):
  zg (zt (za 3 (f_e 40) (z9 (vE 2) (z9 (vE 4) (z9 f zc)))) [.vl a,.vl b,.vl t,.vl d,.vl p,.vl e,.vl g,.vl h,j])= .ok w:=by
 have ez:frz [.vl a,.vl b,.vl t,.vl d,.vl p,.vl e,.vl g,.vl h,j]=[.vl a,.vl b,.vl t,.vl d,.vl p,.vl e,.vl g,.vl h,j]:=by
  show [Sl.vl a,.vl b,.vl t,.vl d,.vl p,.vl e,.vl g,.vl h,wn j]=_;rw[hj]
 rw[zO,ez,ZH,zD,v2,bOk,v4,bOk,hf,bOk];exact hw
theorem z02 (j:Int):Z0 (.int 2) (.int j)= .ok (.int (2*j)):=Yh _ _ (.inl ⟨by decide,by decide⟩)
abbrev Qn:En->R T:=zb zl (slE (vE 5) (noO) (Z5 (vE 8))) (slE (vE 5) (Z5 (zb zl (vE 8) (cE (.int 1)))) (noO))
abbrev Qo:En->R T:=zb zl (zb zl (slE (vE 5) (noO) (Z5 (vE 8))) (slE (vE 5) (Z5 (vE 8)) (Z5 (zb zl (vE 8) (cE (.int 1)))))) (slE (vE 5) (Z5 (vE 8)) (noO))
abbrev en9 (a:T)(k:Int)(t d p e:T)(g:List T)(w:Int)(j:Sl):En:=[.vl a,.vl (.int k),.vl t,.vl d,.vl p,.vl e,.vl (.lst g),.vl (.int w),j]
theorem WG {xs:List T}{i:Nat}{x:T}(h:xs[i]? =some x):xs.drop i=x :: xs.drop (i+1):=by
 obtain⟨hi,rfl⟩:=az.mp h;exact cg hi
theorem xA {a t d p:T}{g xs:List T}{k w:Int}{i:Nat}{x:T}(hx:xs[i]? =some x)(hl:xs.length<=lim):
  Qn (en9 a k t d p (.tup xs) g w (.vl (.int (i:Int))))= .ok (.tup (xs.take i++xs.drop (i+1)))/\
  Qo (en9 a k t d p (.tup xs) g w (.vl (.int (i:Int))))= .ok (.tup (xs.take i++[x]++(x :: xs.drop (i+1)))):=by
 have hi:i < xs.length:=(az.mp hx).1;have hb:=ui;have e5:vE 5 (en9 a k t d p (.tup xs) g w (.vl (.int (i:Int))))= .ok (.tup xs):=rfl;have e8:vE 8 (en9 a k t d p (.tup xs) g w (.vl (.int (i:Int))))= .ok (.int (i:Int)):=rfl;have ea:zl (.int (i:Int)) (.int 1)= .ok (.int ((i+1:Nat):Int)):=by
  rw[zJ,fF];rfl
 have eb:zb zl (vE 8) (cE (.int 1)) (en9 a k t d p (.tup xs) g w (.vl (.int (i:Int))))= .ok (.int ((i+1:Nat):Int)):=by
  rw[zf,e8,bOk,zq,bOk,ea]
 have em:(xs.drop i).take (i+1 - i)=[x]:=by
  rw[WG hx,show i+1 - i=1 from by omega];rfl
 constructor
 ·unfold Qn;rw[zf,Jo,e5,bOk,Yd,bOk,je e8,bOk,Ym hi,bOk,Jo,e5,bOk,je eb,bOk,Yd,bOk,WF (by omega),bOk]
  exact Jg (by rw[bn,bB];omega)
 ·unfold Qo;rw[zf,zf,Jo,e5,bOk,Yd,bOk,je e8,bOk,Ym hi,bOk,Jo,e5,bOk,je e8,bOk,je eb,bOk,Qk (by omega) (by omega),bOk,em,Jg (by rw[bn,aD];omega),bOk,Jo,e5,bOk,je e8,bOk,Yd,bOk,WF (by omega),bOk,← WG hx]
  exact Jg (by rw[aA,bn,aD,bB];omega)
theorem xB {D S:Nat}{xs:List T}{i:Nat}{x:T}(hx:xs[i]? =some x)(h:Fit D S (.tup xs)):Fit (D+2) (2*S+4) (.tup (xs.take i++xs.drop (i+1)))/\Fit (D+2) (2*S+4) (.tup (xs.take i++[x]++(x :: xs.drop (i+1)))):=by
 obtain⟨h1,h2,h3⟩:=h;obtain⟨q1,q2,q3,q4,q5⟩:=JR hx;obtain⟨s1,s2,s3⟩:=q1 (ZN h1);simp only[dep,siz]at h2 h3;refine⟨⟨?_, ?_, ?_⟩,⟨?_, ?_, ?_⟩⟩
 ·simp only[sOk,jm];exact⟨s1,s3⟩
 ·simp only[dep,jl];omega
 ·simp only[siz,jk];omega
 ·simp only[sOk,jm,jj,and_true];exact⟨⟨s1,s2⟩,s2,s3⟩
 ·simp only[dep,jl,jp];omega
 ·simp only[siz,jk,j6];omega
abbrev wd (cp:List T->R T)(cput:List T->R T):En->RS:=
  (zm (ifS (jt (ZI (ap1 (jo "tuple") (vB 5))) (zi neC (vB 5) (zp (zc)))) (zm (zx 8 (za 3 cp (z9 (vE 0) (z9 (zb zl (vE 1) (cE (.int 2))) (z9 (ap1 zK (vB 5)) (zc))))))
  (zt (za 3 cput (z9 (vE 2) (z9 (vE 4) (z9 (zb ixT (Zp (z9 Qn (z9 Qo (zc)))) (zb jB (vE 7) (cE (.int 2)))) (zc))))))) (nxS))
  (zm (ifS (ZI (ap1 (jo "int") (vB 5))) (zt (za 3 cput (z9 (vE 2) (z9 (vE 4) (z9 (zb jN (zb zl (vE 5) (cE (.int 1))) (zb Z0 (cE (.int 2)) (zb jB (vE 7) (cE (.int 2))))) (zc)))))) (nxS))
  (zt (za 3 cput (z9 (vE 2) (z9 (vE 4) (z9 (zp (z9 (cE (.str "row")) (z9 (zp (z9 (vE 5) (z9 (vE 5) (zc)))) (zc)))) (zc))))))))
theorem lst2 {f g:En->R T}{ρ:En}{x y:T}(hf:f ρ= .ok x)(hg:g ρ= .ok y):Zp (z9 f (z9 g zc)) ρ= .ok (.lst [x,y]):=by
 unfold Zp z9 zc;rw[hf,hg];rfl
theorem Qp (ns:List Int){t d p:T}{g xs:List T}{k w:Int}(h0:0<=k){D S:Nat}(hl:S<=lim)(hF:Fit D S (.tup xs))(hne:xs ≠ [])(H:∀v,Fit (D+2) (2*S+4) v->∃r,f_e 40 [t,p,v]= .ok r):
  ∃v r,Fit (D+2) (2*S+4) v/\f_e 40 [t,p,v]= .ok r/\zg (wd f_2 (f_e 40) (en9 (scr ns) k t d p (.tup xs) g w .un))= .ok r:=by
 have hxl:=Ju xs;have hz:=hF.sz;simp only[siz]at hz;have hpos:0 < xs.length:=List.length_pos_iff.mpr hne;obtain⟨q,hq,q0,q1⟩:=zL ns (k+2) (xs.length:Int) (by omega) (by omega)
 have hqi:q=((q.toNat:Nat):Int):=by omega
 have hqx:xs[q.toNat]? =some (xs[q.toNat]'(by omega)):=ad (by omega)
 generalize xs[q.toNat]'(by omega)=x at hqx
 generalize q.toNat=i at hqi hqx;subst hqi;obtain⟨c1,c2⟩:=xA (a:=scr ns) (t:=t) (d:=d) (p:=p) (g:=g) (k:=k) (w:=w) hqx (by omega)
 obtain⟨f1,f2⟩:=xB hqx hF;have ec:jt (ZI (ap1 (jo "tuple") (vB 5))) (zi neC (vB 5) (zp (zc))) (en9 (scr ns) k t d p (.tup xs) g w .un)= .ok true:=by
  cases xs with
  | nil=>exact(hne rfl).elim
  | cons _ _=>rfl
 have es:zx 8 (za 3 f_2 (z9 (vE 0) (z9 (zb zl (vE 1) (cE (.int 2))) (z9 (ap1 zK (vB 5)) (zc))))) (en9 (scr ns) k t d p (.tup xs) g w .un)= .nx (en9 (scr ns) k t d p (.tup xs) g w (.vl (.int (i:Int)))):=by
  rw[ZE,zD,v0,bOk,zf,v1,bOk,zq,bOk,zJ,bOk,zY,show vB 5 (en9 (scr ns) k t d p (.tup xs) g w .un)= .ok (.tup xs) from rfl,bOk,ZD,bOk,hq,Z9];rfl
 have em:zb jB (vE 7) (cE (.int 2)) (en9 (scr ns) k t d p (.tup xs) g w (.vl (.int (i:Int))))= .ok (.int (w % 2)):=rfl;have hm:w % 2=0\/w % 2=1:=by omega
 have go:∀v,zb ixT (Zp (z9 Qn (z9 Qo (zc)))) (zb jB (vE 7) (cE (.int 2))) (en9 (scr ns) k t d p (.tup xs) g w (.vl (.int (i:Int))))= .ok v->Fit (D+2) (2*S+4) v->∃v r,Fit (D+2) (2*S+4) v/\f_e 40 [t,p,v]= .ok r/\zg (wd f_2 (f_e 40) (en9 (scr ns) k t d p (.tup xs) g w .un))= .ok r:=λv hv fv=>by
  obtain⟨r,hr⟩:=H v fv;refine⟨v,r,fv,hr, ?_⟩;have e1:=wS (i:= .non) (j:= .vl (.int (i:Int))) rfl hv hr;unfold wd;rw[zv,Zr,ec,Z9,if_pos rfl,zv,es];dsimp only;rw[zO]at e1 ⊢;rw[ZH]at e1;rw[e1];rfl
 rcases hm with hm | hm
 ·exact go _ (by rw[zf,lst2 c1 c2,bOk,em,bOk,hm];rfl) f1
 ·exact go _ (by rw[zf,lst2 c1 c2,bOk,em,bOk,hm];rfl) f2
abbrev intE:En->R T:=zb jN (zb zl (vE 5) (cE (.int 1))) (zb Z0 (cE (.int 2)) (zb jB (vE 7) (cE (.int 2))))
abbrev rowE:En->R T:=zp (z9 (cE (.str "row")) (z9 (zp (z9 (vE 5) (z9 (vE 5) (zc)))) (zc)))
theorem Yq {D S:Nat}(i:Int):Fit (D+2) (2*S+4) (.int i):=⟨by simp only[sOk],by simp only[dep];omega,by simp only[siz];omega⟩
theorem Yr {D S:Nat}{u:T}(h:Fit D S u):Fit (D+2) (2*S+4) (.tup [.str "row",.tup [u,u]]):=by
 obtain⟨h1,h2,h3⟩:=h;have hd:=Yp u;refine⟨?_, ?_, ?_⟩
 ·simp only[sOk,jj,and_true];exact⟨by decide,h1,h1⟩
 ·simp only[dep,jp];omega
 ·simp only[siz,j6];omega
theorem Qq {cp:List T->R T}{a t d p u:T}{g:List T}{k w:Int}{r:T}(ht:jt (ZI (ap1 (jo "tuple") (vB 5))) (zi neC (vB 5) (zp (zc))) (en9 a k t d p u g w .un)= .ok false)(hi:isT "int" u=false)
  (hr:f_e 40 [t,p,.tup [.str "row",.tup [u,u]]]= .ok r):zg (wd cp (f_e 40) (en9 a k t d p u g w .un))= .ok r:=by
 have e1:=wS (f:=rowE) (a:=a) (b:= .int k) (t:=t) (d:=d) (p:=p) (e:=u) (g:= .lst g) (h:= .int w) (i:= .non) (j:= .un) rfl (wP zq (wP rfl rfl)) hr;have ei:ZI (ap1 (jo "int") (vB 5)) (en9 a k t d p u g w .un)= .ok false:=by
  show tru (.bl (isT "int" u))=_;rw[hi];rfl
 unfold wd;rw[zv,Zr,ht,Z9,if_neg ao];unfold nxS;dsimp only;rw[zv,Zr,ei,Z9,if_neg ao];exact e1
theorem Qr {cp:List T->R T}{a t d p u:T}{g:List T}{k w i:Int}{r:T}(ht:isT "tuple" u=false)(hi:isT "int" u=true)(ha:zl u (.int 1)= .ok (.int i))
  (hr:f_e 40 [t,p,.int (i - 2*(w % 2))]= .ok r):zg (wd cp (f_e 40) (en9 a k t d p u g w .un))= .ok r:=by
 have e0:intE (en9 a k t d p u g w .un)= .ok (.int (i - 2*(w % 2))):=by
  show ((zl u (.int 1)).bind λx=>(Z0 (.int 2) (.int (w % 2))).bind λy=>jN x y)=_;rw[ha,z02];rfl
 have e1:=wS (f:=intE) (a:=a) (b:= .int k) (t:=t) (d:=d) (p:=p) (e:=u) (g:= .lst g) (h:= .int w) (i:= .non) (j:= .un) rfl e0 hr;have et:jt (ZI (ap1 (jo "tuple") (vB 5))) (zi neC (vB 5) (zp (zc))) (en9 a k t d p u g w .un)= .ok false:=by
  show (tru (.bl (isT "tuple" u))).bind (λx=>if x=true then _ else R.ok false)=_
  rw[ht];rfl
 have ei:ZI (ap1 (jo "int") (vB 5)) (en9 a k t d p u g w .un)= .ok true:=by
  show tru (.bl (isT "int" u))=_;rw[hi];rfl
 unfold wd;rw[zv,Zr,et,Z9,if_neg ao];unfold nxS;dsimp only;rw[zv,Zr,ei,Z9,if_pos rfl];rw[zO]at e1 ⊢;rw[ZH]at e1;rw[e1];rfl
theorem xC (ns:List Int){t d p u:T}{g:List T}{k w:Int}(h0:0<=k){D S:Nat}(hl:S<=lim)(hF:Fit D S u)(H:∀v,Fit (D+2) (2*S+4) v->∃r,f_e 40 [t,p,v]= .ok r):
  ∃v r,Fit (D+2) (2*S+4) v/\f_e 40 [t,p,v]= .ok r/\zg (wd f_2 (f_e 40) (en9 (scr ns) k t d p u g w .un))= .ok r:=by
 have row:jt (ZI (ap1 (jo "tuple") (vB 5))) (zi neC (vB 5) (zp (zc))) (en9 (scr ns) k t d p u g w .un)= .ok false->isT "int" u=false->∃v r,Fit (D+2) (2*S+4) v/\f_e 40 [t,p,v]= .ok r/\zg (wd f_2 (f_e 40) (en9 (scr ns) k t d p u g w .un))= .ok r:=λe1 e2=>by
  obtain⟨r,hr⟩:=H _ (Yr hF);exact⟨_,r,Yr hF,hr,Qq e1 e2 hr⟩
 have num:∀i,isT "tuple" u=false->isT "int" u=true->zl u (.int 1)= .ok (.int i)->∃v r,Fit (D+2) (2*S+4) v/\f_e 40 [t,p,v]= .ok r/\zg (wd f_2 (f_e 40) (en9 (scr ns) k t d p u g w .un))= .ok r:=λi e1 e2 e3=>by
  obtain⟨r,hr⟩:=H _ (Yq (i - 2*(w % 2)));exact⟨_,r,Yq _,hr,Qr e1 e2 e3 hr⟩
 cases u with
 | tup xs=>
  by_cases hx:xs=[]
  ·subst hx;exact row rfl rfl
  ·exact Qp ns h0 hl hF hx H
 | int i=>exact num (i+1) rfl rfl rfl
 | bl b=>exact num (b2 b+1) rfl rfl rfl
 | non=>exact row rfl rfl
 | str x=>exact row rfl rfl
 | lst x=>exact row rfl rfl
 | fz x=>exact row rfl rfl
theorem Ys (ns:List Int)(k:Int)(h0:0<=k){D S:Nat}(hD:D<=40)(hS:S<=lim){t:T}(hF:Fit D S t):
  ∃r,X6 [scr ns,.int k,t]= .ok r/\Fit (2*D+2) (3*S+4) r:=by
 obtain⟨ht,hd,hs⟩:=hF;have hs' :=aq hs hS;obtain⟨ps,hp,hp0,hpl,hpv⟩:=Yk 40 t (aq hd hD) hs';have hp:f_i 40 [t]= .ok (.lst (ps.map pth)):=hp;obtain⟨q,hq,q0,q1⟩:=zL ns k (ps.length:Int) h0 (by omega)
 obtain⟨x,ex,hx⟩:=ixl (xs:=ps.map pth) q0 (by rw[ac];exact q1)
 obtain⟨p,hpm,rfl⟩:=aw.mp hx;obtain⟨u,hu⟩:=hpv p hpm;obtain⟨g1,g2,g3⟩:=Yo p t u hu;have hdu:=Yp u;have hUF:Fit D S u:=⟨g1 ht,by omega,by omega⟩
 have hput:∀v,f_e 40 [t,pth p,v]= .ok (WE t p v):=λv=>K6 40 p t u v (by omega) hs' hu
 have fin:∀v,Fit (D+2) (2*S+4) v->Fit (2*D+2) (3*S+4) (WE t p v):=λv hv=>by
  obtain⟨a,b,c⟩:=Yn p t v ht hv.so;have:=hv.dp;have:=hv.sz;exact⟨a,by omega,by omega⟩
 obtain⟨w,hw,w0',w1⟩:=zL ns (k+1) 23 (by omega) (by omega)
 have e:X6 [scr ns,.int k,t]=zg (gc f_2 (f_i 40) X5 (f_e 40) [.vl (scr ns),.vl (.int k),.vl t,.un,.un,.un,.un,.un,.un]):=rfl;have e1:zx 3 (za 1 (f_i 40) (z9 (vE 2) (zc))) [.vl (scr ns),.vl (.int k),.vl t,.un,.un,.un,.un,.un,.un]= .nx [.vl (scr ns),.vl (.int k),.vl t,.vl (.lst (ps.map pth)),.un,.un,.un,.un,.un]:=by
  rw[ZE,zM,v2,bOk,hp,Z9];rfl
 have e2:zx 4 (zb ixT (vE 3) (za 3 f_2 (z9 (vE 0) (z9 (vE 1) (z9 (ap1 zK (vB 3)) (zc)))))) [.vl (scr ns),.vl (.int k),.vl t,.vl (.lst (ps.map pth)),.un,.un,.un,.un,.un]= .nx [.vl (scr ns),.vl (.int k),.vl t,.vl (.lst (ps.map pth)),.vl (pth p),.un,.un,.un,.un]:=by
  rw[ZE,zf,v3,bOk,zD,v0,bOk,v1,bOk,zY,w3,bOk,wb,bOk,ac,hq,bOk,ex,Z9];rfl
 have e3:zx 5 (za 2 X5 (z9 (vE 2) (z9 (vE 4) (zc)))) [.vl (scr ns),.vl (.int k),.vl t,.vl (.lst (ps.map pth)),.vl (pth p),.un,.un,.un,.un]= .nx [.vl (scr ns),.vl (.int k),.vl t,.vl (.lst (ps.map pth)),.vl (pth p),.vl u,.un,.un,.un]:=by
  rw[ZE,Zq,v2,bOk,v4,bOk,z01 hu,Z9];rfl
 rw[e,gc,zv,e1];dsimp only;rw[zv,e2];dsimp only;rw[zv,e3];dsimp only;rw[zv];have e4:zx 6 (Zp (z9 (cE (.int 0)) (z9 (cE (.int 1)) (z9 (uE (cE (.int 21))) (z9 (cE (.int 21)) (z9 (cE (.int 3)) (z9 (cE (.int 4)) (z9 (cE (.bl true)) (z9 (cE .non) (z9 (cE (.str "a")) (z9 (cE (.str "abcd")) (z9 (cE (.str "A")) (z9 (cE (.str "")) (z9 (cE (.str "many")) (z9 (cE (.str "row")) (z9 (zp (zc)) (z9 (zp (z9 (vE 5) (zc))) (z9 (Zp (z9 (vE 5) (zc))) (z9 (zp (z9 (cE (.str "whole")) (z9 (cE (.int 1)) (z9 (cE (.int 0)) (zc))))) (zc)))))))))))))))))))) [.vl (scr ns),.vl (.int k),.vl t,.vl (.lst (ps.map pth)),.vl (pth p),.vl u,.un,.un,.un]= .nx [.vl (scr ns),.vl (.int k),.vl t,.vl (.lst (ps.map pth)),.vl (pth p),.vl u,.vl (.lst (jf u)),.un,.un]:=rfl;rw[e4];dsimp only;have e5:zx 7 (za 3 f_2 (z9 (vE 0) (z9 (zb zl (vE 1) (cE (.int 1))) (z9 (zb zl (ap1 zK (vB 6)) (cE (.int 5))) (zc))))) [.vl (scr ns),.vl (.int k),.vl t,.vl (.lst (ps.map pth)),.vl (pth p),.vl u,.vl (.lst (jf u)),.un,.un]= .nx (en9 (scr ns) k t (.lst (ps.map pth)) (pth p) u (jf u) w .un):=by
  rw[ZE,zD,v0,bOk,zf,v1,bOk,zq,bOk,zJ,bOk];rw[show zb zl (ap1 zK (vB 6)) (cE (.int 5)) [.vl (scr ns),.vl (.int k),.vl t,.vl (.lst (ps.map pth)),.vl (pth p),.vl u,.vl (.lst (jf u)),.un,.un]= .ok (.int 23) from rfl,bOk,hw,Z9];rfl
 rw[zv,e5];dsimp only;rw[zv,Zr];have e6:zi ltC (vB 7) (ap1 zK (vB 6)) (en9 (scr ns) k t (.lst (ps.map pth)) (pth p) u (jf u) w .un)= .ok (decide (w < 18)):=rfl;rw[e6,Z9]
 by_cases h18:w < 18
 ·rw[decide_eq_true h18,if_pos rfl];obtain⟨v,ev,hv⟩:=ixl (xs:=jf u) w0' (by show w < 18;exact h18)
  have hfv:=UD hUF v hv;have er:=wS (f:=zb ixT (vE 6) (vE 7)) (a:=scr ns) (b:= .int k) (t:=t) (d:= .lst (ps.map pth)) (p:=pth p) (e:=u) (g:= .lst (jf u)) (h:= .int w) (i:= .non) (j:= .un) rfl (show ixT (.lst (jf u)) (.int w)= .ok v from ev) (hput v);refine⟨_, ?_,fin v hfv⟩;rw[zO]at er ⊢;rw[ZH]at er;rw[er];rfl
 ·rw[decide_eq_false h18,if_neg ao];obtain⟨v,r,hfv,hr,et⟩:=xC ns (t:=t) (d:= .lst (ps.map pth)) (p:=pth p) (u:=u) (g:=jf u) (k:=k) (w:=w) h0 hS hUF λv _=>⟨_,hput v⟩;rw[hput v]at hr;cases hr;exact⟨_,et,fin v hfv⟩
theorem wv (ρ:En):nxS ρ= .nx ρ:=rfl
inductive Kd where
 | whole (lo hi:Int)
 | pick (cs:List (Str×Int))
 | row (ks:List Kd)
 | many (k:Kd) (lo hi:Nat)
def Zo (c:Str×Int):T:= .tup [.str c.1,.int c.2]
mutual
def Kd.t:Kd->T
 | .whole lo hi=> .tup [.str "whole",.int lo,.int hi]
 | .pick cs=> .tup [.str "pick",.tup (cs.map Zo)]
 | .row ks=> .tup [.str "row",.tup (Kd.ts ks)]
 | .many k lo hi=> .tup [.str "many",k.t,.int (lo:Int),.int (hi:Int)]
def Kd.ts:List Kd->List T
 | []=>[]
 | k :: ks=>k.t :: Kd.ts ks
end
theorem Kd.ts_map:∀ks:List Kd,Kd.ts ks=ks.map Kd.t
 | []=>by simp only[Kd.ts,bY]
 | k :: ks=>by simp only[Kd.ts,aB,Kd.ts_map ks]
def Kd.Ok:Nat->Kd->Prop
 | 0,_=>False
 | _+1,.whole lo hi=> -20<=lo/\lo<=hi/\hi<=20
 | _+1,.pick cs=>1<=cs.length/\cs.length<=4/\(∀c∈cs,zQ (.str c.1)=true/\1<=c.2/\c.2<=20)/\Dst (cs.map (·.1))
 | d+1,.row ks=>1<=ks.length/\ks.length<=3/\∀k∈ks,Kd.Ok d k
 | d+1,.many k lo hi=>lo<=hi/\hi<=3/\Kd.Ok d k
theorem Yt {c:T}(h:zk c=true):∃p:Str×Int,c=Zo p/\zQ (.str p.1)=true/\1<=p.2/\p.2<=20:=by
 unfold zk at h;split at h
 ·rename_i w i;rw[af,af,decide_eq_true_eq,decide_eq_true_eq]at h;cases w with
  | str x=>exact⟨(x,i),rfl,h.1.1,h.1.2,h.2⟩
  | _=>cases h.1.1
 ·cases h
theorem uk {α:Type}{P:T->Prop}{Q:α->Prop}{f:α->T}(H:∀t,P t->∃a,t=f a/\Q a):∀(ts:List T),(∀t∈ts,P t)->∃as:List α,ts=as.map f/\∀a∈as,Q a
 | [],_=>⟨[],rfl,λ_ h=>nomatch h⟩
 | t :: ts,h=>by
  obtain⟨a,rfl,ha⟩:=H t (h t ah);obtain⟨as,rfl,has⟩:=uk H ts λu hu=>h u (ae _ hu);exact⟨a :: as,rfl,λb hb=>by
   rcases ax.mp hb with rfl | hb
   ·exact ha
   ·exact has b hb⟩
theorem wT:∀(d:Nat) (t:T),isK d t=true->∃k:Kd,t=k.t/\k.Ok d
 | 0,_,h=>by cases h
 | d+1,t,h=>by
  have h:wN (isK d) t=true:=h;unfold wN at h;split at h
  ·rename_i hd r;split at h
   ·rename_i e;rw[Jf e];unfold Je at h;split at h
    ·obtain⟨i,j,rfl,rfl⟩:=Jt h;have h:(decide (-20<=i) && decide (i<=j) && decide (j<=20))=true:=h;rw[af,af,decide_eq_true_eq,decide_eq_true_eq,decide_eq_true_eq]at h;exact⟨.whole i j,by simp only[Kd.t],h.1.1,h.1.2,h.2⟩
    ·cases h
   ·split at h
    ·rename_i e;rw[Jf e];unfold Wz at h;split at h
     ·rename_i c;unfold Wy at h;split at h
      ·rename_i cs;rw[af,af,af,decide_eq_true_eq,decide_eq_true_eq,decide_eq_true_eq]at h;obtain⟨⟨⟨h1,h2⟩,h3⟩,h4⟩:=h;obtain⟨as,rfl,has⟩:=uk (λt ht=>Yt ht) cs λc hc=>aJ.mp h3 c hc;rw[ac]at h1 h2;refine⟨.pick as,by simp only[Kd.t],h1,h2,has, ?_⟩
       have e1:(as.map Zo).map zR=as.map (·.1):=by rw[aQ];rfl
       rw[e1]at h4;have:=(JN (as.map (·.1)) []).mp (by rw[h4,ac,ac];simp)
       exact λk w hw hm=>this k w hw (by simpa using hm)
      ·cases h
     ·cases h
    ·split at h
     ·rename_i e;rw[Jf e];unfold vt at h;split at h
      ·rename_i c;unfold JL at h;split at h
       ·rename_i cs;rw[af,af,decide_eq_true_eq,decide_eq_true_eq]at h;obtain⟨ks,rfl,hks⟩:=uk (λt ht=>wT d t ht) cs λc hc=>aJ.mp h.2 c hc;rw[ac]at h;exact⟨.row ks,by simp only[Kd.t,Kd.ts_map],h.1.1,h.1.2,hks⟩
       ·cases h
      ·cases h
     ·split at h
      ·rename_i e;rw[Jf e];unfold WA at h;split at h
       ·rename_i c a b;rw[af]at h;obtain⟨h1,h2⟩:=h;obtain⟨i,j,rfl,rfl⟩:=Jt h1;obtain⟨k,rfl,hk⟩:=wT d c h2;have h1:(decide (0<=i) && decide (i<=j) && decide (j<=3))=true:=h1;rw[af,af,decide_eq_true_eq,decide_eq_true_eq,decide_eq_true_eq]at h1;obtain⟨⟨a1,a2⟩,a3⟩:=h1;obtain⟨m,rfl⟩:=fm a1;obtain⟨n,rfl⟩:=fm (Int.le_trans a1 a2);exact⟨.many k m n,by simp only[Kd.t],by omega,by omega,hk⟩
       ·cases h
      ·cases h
  ·cases h
def jZ (made:List (List T)):List (List T)->List (List T)
 | []=>made
 | ls :: r=>jZ (made.flatMap λa=>ls.map λx=>a++[x]) r
abbrev WH (ls:List (List T)):List T:=(jZ [[]] ls).map T.tup
mutual
def Kd.all:Kd->List T
 | .whole lo hi=>(aC (hi+1 - lo).toNat).map λ(i:Nat)=>T.int (lo+(i:Int))
 | .pick cs=>cs.map λc=>T.str c.1
 | .row ks=>WH (Kd.alls ks)
 | .many k lo hi=>(aC (hi+1 - lo)).flatMap λi=>WH (ag (lo+i) k.all)
def Kd.alls:List Kd->List (List T)
 | []=>[]
 | k :: ks=>k.all :: Kd.alls ks
end
theorem Kd.alls_map:∀ks:List Kd,Kd.alls ks=ks.map Kd.all
 | []=>by simp only[Kd.alls,bY]
 | k :: ks=>by simp only[Kd.alls,aB,Kd.alls_map ks]
def prd:List Nat->Nat
 | []=>1
 | n :: r=>n*prd r
theorem JS:∀{ns:List Nat},(∀n∈ns,1<=n)->1<=prd ns
 | [],_=>am _
 | n :: ns,h=>eR (h n ah) (JS λm hm=>h m (ae _ hm))
theorem Jv {α β:Type}(f:α->List β)(n:Nat):∀as:List α,(∀a∈as,(f a).length=n)->(as.flatMap f).length=as.length*n
 | [],_=>by simp
 | a :: as,h=>by
  rw[eS,aA,h a ah,Jv f n as λb hb=>h b (ae _ hb),al,iC,cB,Nat.add_comm]
theorem WI:∀(ls:List (List T)) (made:List (List T)),(jZ made ls).length=made.length*prd (ls.map (·.length))
 | [],made=>by simp[jZ,prd]
 | l :: ls,made=>by
  rw[jZ,WI ls,Jv _ l.length made λa _=>ac ..,aB,prd,c_]
abbrev vC:En->RS:=qT 3 (zC (Zm (vE 2)) (zo 0) (Z1) (zb zl (vE 1) (zp (z9 (vE 0) (zc)))) 1 [4])
theorem uX {L M:T}{l:List T}(hl:l.length<=bnd):∀(as:List (List T)) (acc:List T) (x:Sl),(∀a∈as,a.length<=1000)->acc.length+as.length*l.length<=bnd->
  ∃y,ZK (zo 4) vC (as.map T.tup) [.vl L,.vl M,.vl (.lst l),.ow acc,x]= .nx [.vl L,.vl M,.vl (.lst l),.ow (acc++(as.flatMap λa=>l.map λx=>a++[x]).map T.tup),y]
 | [],acc,x,_,_=>⟨x,by simp[ZK]⟩
 | a :: as,acc,x,ha,hb=>by
  have ha1:=ha a ah;have hb1:bnd=16777216:=rfl;rw[al,iC,cB]at hb;have ec:zF (zo 0) Z1 (zb zl (vE 1) (zp (z9 (vE 0) (zc)))) 1 [4] [.vl L,.vl M,.vl (.lst l),.ow acc,.vl (.tup a)] l= .ok (l.map λx=>T.tup (a++[x])):=
   Z2 (h:=λx=>T.tup (a++[x])) l hl λx hx=>by
    show zb zl (vE 1) (zp (z9 (vE 0) (zc))) [.vl x,.vl (.tup a)]=_;rw[zf,v1,bOk,X9 v0,bOk];exact Jg (by rw[aD];omega)
  have eb:vC [.vl L,.vl M,.vl (.lst l),.ow acc,.vl (.tup a)]= .nx [.vl L,.vl M,.vl (.lst l),.ow (acc++l.map λx=>T.tup (a++[x])),.vl (.tup a)]:=by
   show ((zC _ _ _ _ _ _ _).s λt=>match t with | .lst us=>if acc.length+us.length<=bnd then RS.nx _ else .bad | _=> .bad)=_
   rw[zE,Zs,v2,bOk];show (((zF _ _ _ _ _ _ l).bind _).s _)=_;rw[ec,bOk,Z9];show (if _ then _ else _)=_
   rw[if_pos (by rw[ac];omega)]
   rfl
  obtain⟨y,ih⟩:=uX hl as (acc++l.map λx=>T.tup (a++[x])) (.vl (.tup a)) (λb hb=>ha b (ae _ hb)) (by rw[aA,ac];omega)
  refine⟨y, ?_⟩;have e:ZK (zo 4) vC ((a :: as).map T.tup) [.vl L,.vl M,.vl (.lst l),.ow acc,x]=match vC [.vl L,.vl M,.vl (.lst l),.ow acc,.vl (.tup a)] with
   | .nx ρ2=>ZK (zo 4) vC (as.map T.tup) ρ2
   | .ct ρ2=>ZK (zo 4) vC (as.map T.tup) ρ2
   | .bk ρ2=> .nx ρ2
   | r=>r:=rfl
  rw[e,eb];dsimp only;rw[ih,eS,df,aQ,bh];rfl
abbrev WJ:En->RS:=(zm (yB 3 (zc))
  (zm (ju (Zm (vE 1)) (zo 4) vC)
  (mvS 1 3)))
theorem WK {L:T}(m:Nat):∀(ls:List (List T)) (made:List (List T)) (k:Nat) (x y z:Sl),(∀a∈made,a.length<=k)->k+ls.length<=1000->(∀l∈ls,1<=l.length)->made.length*prd (ls.map (·.length))<=bnd->1<=made.length->
  ∃x' y' z',ZK (zo 2) WJ (ls.map T.lst) [.vl L,.vl (.lst (made.map T.tup)),x,y,z]= .nx [.vl L,.vl (.lst ((jZ made ls).map T.tup)),x',y',z']
 | [],made,k,x,y,z,_,_,_,_,_=>⟨x,y,z,by simp[ZK,jZ]⟩
 | l :: ls,made,k,x,y,z,hk,hkl,hpos,hb,hm=>by
  have hpr:1<=prd (ls.map (·.length)):=JS λn hn=>by
   obtain⟨l',hl',rfl⟩:=aw.mp hn;exact hpos l' (ae _ hl')
  rw[aB,prd,← c_]at hb;have hb1:made.length*l.length<=bnd:=aq (cx _ hpr) hb;have hll:l.length<=bnd:=aq (Nat.le_mul_of_pos_left _ hm) hb1;rw[al]at hkl;obtain⟨w,er⟩:=uX (L:=L) (M:= .lst (made.map T.tup)) hll made [] z (λa ha=>aq (hk a ha) (by omega)) (by rw[aP];omega)
  rw[bG]at er;have es:WJ [.vl L,.vl (.lst (made.map T.tup)),.vl (.lst l),y,z]= .nx [.vl L,.vl (.lst ((made.flatMap λa=>l.map λx=>a++[x]).map T.tup)),.vl (.lst l),.vl (.lst ((made.flatMap λa=>l.map λx=>a++[x]).map T.tup)),w]:=by
   have e0:yB 3 (zc) [.vl L,.vl (.lst (made.map T.tup)),.vl (.lst l),y,z]= .nx [.vl L,.vl (.lst (made.map T.tup)),.vl (.lst l),.ow [],z]:=rfl;have e1:ju (Zm (vE 1)) (zo 4) vC [.vl L,.vl (.lst (made.map T.tup)),.vl (.lst l),.ow [],z]= .nx [.vl L,.vl (.lst (made.map T.tup)),.vl (.lst l),.ow ((made.flatMap λa=>l.map λx=>a++[x]).map T.tup),w]:=er;unfold WJ;rw[zv,e0];dsimp only;rw[zv,e1];rfl
  obtain⟨x',y',z',ih⟩:=WK (L:=L) m ls (made.flatMap λa=>l.map λx=>a++[x]) (k+1) (.vl (.lst l)) (.vl (.lst ((made.flatMap λa=>l.map λx=>a++[x]).map T.tup))) w (λa ha=>by
   obtain⟨b,hb,hx⟩:=cR.mp ha;obtain⟨u,_,rfl⟩:=aw.mp hx;have:=hk b hb;rw[aA,aD];omega) (by omega) (λl' hl' =>hpos l' (ae _ hl')) (by
    rw[Jv _ l.length made λa _=>ac ..];exact hb) (by
    rw[Jv _ l.length made λa _=>ac ..];exact eR hm (hpos l ah))
  refine⟨x',y',z', ?_⟩;have e:ZK (zo 2) WJ ((l :: ls).map T.lst) [.vl L,.vl (.lst (made.map T.tup)),x,y,z]=match WJ [.vl L,.vl (.lst (made.map T.tup)),.vl (.lst l),y,z] with
   | .nx ρ2=>ZK (zo 2) WJ (ls.map T.lst) ρ2
   | .ct ρ2=>ZK (zo 2) WJ (ls.map T.lst) ρ2
   | .bk ρ2=> .nx ρ2
   | r=>r:=rfl
  rw[e,es];exact ih
theorem Yu (ls:List (List T))(hl:ls.length<=1000)(hpos:∀l∈ls,1<=l.length)(hb:prd (ls.map (·.length))<=bnd):f_f [.lst (ls.map T.lst)]= .ok (.lst (WH ls)):=by
 obtain⟨x',y',z',er⟩:=WK (L:= .lst (ls.map T.lst)) 0 ls [[]] 0 .un .un .un (λa ha=>by rw[aT.mp ha];exact am _) (by omega) hpos (by rw[aD,cB];exact hb) (am _)
 have e:f_f [.lst (ls.map T.lst)]=zg (b_f [.vl (.lst (ls.map T.lst)),.un,.un,.un,.un]):=rfl;have e0:zx 1 (Zp (z9 (zp (zc)) (zc))) [.vl (.lst (ls.map T.lst)),.un,.un,.un,.un]= .nx [.vl (.lst (ls.map T.lst)),.vl (.lst [.tup []]),.un,.un,.un]:=rfl;have e1:ju (Zm (vE 0)) (zo 2) WJ [.vl (.lst (ls.map T.lst)),.vl (.lst [.tup []]),.un,.un,.un]= .nx [.vl (.lst (ls.map T.lst)),.vl (.lst (WH ls)),x',y',z']:=er;rw[e,b_f,zv,e0];dsimp only;rw[zv,e1];rfl
theorem JT (n:Nat):∀m:Nat,prd (ag m n)=n ^ m
 | 0=>rfl
 | m+1=>by rw[aU,prd,JT n m,dS,dt]
theorem wU (ls:List (List T)):(WH ls).length=prd (ls.map (·.length)):=by
 unfold WH;rw[ac,WI,aD,cB]
def pw (n lo hi:Nat):Nat:=((aC (hi+1 - lo)).map λi=>n ^ (lo+i)).sum
theorem jn (k:Kd)(lo hi:Nat):(Kd.many k lo hi).all.length=pw k.all.length lo hi:=by
 rw[Kd.all,List.length_flatMap,pw];congr 1
 refine bN λi _=> ?_;rw[wU,bH,JT]
theorem j0 (ks:List Kd):(Kd.row ks).all.length=prd (ks.map λk=>k.all.length):=by
 rw[Kd.all,wU,Kd.alls_map,aQ];rfl
theorem Zt (lo hi:Int):(Kd.whole lo hi).all.length=(hi+1 - lo).toNat:=by
 rw[Kd.all,ac,a_]
theorem wV (cs:List (Str×Int)):(Kd.pick cs).all.length=cs.length:=by
 rw[Kd.all,ac]
theorem xD {lo hi:Nat}(h:lo<=hi)(h3:hi<=3):(lo=0/\hi=0)\/(lo=0/\hi=1)\/(lo=0/\hi=2)\/(lo=0/\hi=3)\/(lo=1/\hi=1)\/(lo=1/\hi=2)\/(lo=1/\hi=3)\/(lo=2/\hi=2)\/(lo=2/\hi=3)\/(lo=3/\hi=3):=by omega
def iv (b:Bool):Nat:=if b then 1 else 0
theorem xE (n:Nat){lo hi:Nat}(h:lo<=hi)(h3:hi<=3):pw n lo hi=iv (lo == 0)+n*iv (decide (lo<=1) && decide (1<=hi))+n*n*iv (decide (lo<=2) && decide (2<=hi))+n*n*n*iv (hi == 3):=by
 rcases xD h h3 with ⟨rfl,rfl⟩ | ⟨rfl,rfl⟩ | ⟨rfl,rfl⟩ | ⟨rfl,rfl⟩ | ⟨rfl,rfl⟩ | ⟨rfl,rfl⟩ | ⟨rfl,rfl⟩ | ⟨rfl,rfl⟩ | ⟨rfl,rfl⟩ | ⟨rfl,rfl⟩ <;>
  simp[pw,List.range_succ,iv,dS]
 all_goals omega
theorem K7 {n:Nat}(hn:1<=n){lo hi:Nat}(h:lo<=hi)(h3:hi<=3):1<=pw n lo hi:=by
 have h2:1<=n*n:=eR hn hn;have h1:1<=n*n*n:=eR h2 hn;rw[xE n h h3];rcases xD h h3 with ⟨rfl,rfl⟩ | ⟨rfl,rfl⟩ | ⟨rfl,rfl⟩ | ⟨rfl,rfl⟩ | ⟨rfl,rfl⟩ | ⟨rfl,rfl⟩ | ⟨rfl,rfl⟩ | ⟨rfl,rfl⟩ | ⟨rfl,rfl⟩ | ⟨rfl,rfl⟩ <;>
  simp[iv] <;> omega
theorem z03 {n N:Nat}(hn:n<=N){lo hi:Nat}(h:lo<=hi)(h3:hi<=3):pw n lo hi<=1+N+N*N+N*N*N:=by
 have h2:n*n<=N*N:=cy hn hn;have h1:n*n*n<=N*N*N:=cy h2 hn;rw[xE n h h3];rcases xD h h3 with ⟨rfl,rfl⟩ | ⟨rfl,rfl⟩ | ⟨rfl,rfl⟩ | ⟨rfl,rfl⟩ | ⟨rfl,rfl⟩ | ⟨rfl,rfl⟩ | ⟨rfl,rfl⟩ | ⟨rfl,rfl⟩ | ⟨rfl,rfl⟩ | ⟨rfl,rfl⟩ <;>
  simp[iv] <;> omega
theorem uY {N:Nat}(hN:1<=N):∀(ns:List Nat),(∀n∈ns,n<=N)->prd ns<=N ^ ns.length
 | [],_=>am _
 | n :: ns,h=>by
  rw[prd,al,dS,dt];exact cy (uY hN ns λm hm=>h m (ae _ hm)) (h n ah)
theorem ZF:∀(d:Nat) (k:Kd),k.Ok d->1<=k.all.length
 | 0,_,h=>h.elim
 | d+1,.whole lo hi,h=>by
  obtain⟨_,h2,_⟩:=h;rw[Zt];omega
 | d+1,.pick cs,h=>by
  rw[wV];exact h.1
 | d+1,.row ks,h=>by
  rw[j0];refine JS λn hn=> ?_;obtain⟨k,hk,rfl⟩:=aw.mp hn;exact ZF d k (h.2.2 k hk)
 | d+1,.many k lo hi,h=>by
  rw[jn];exact K7 (ZF d k h.2.2) h.1 h.2.1
def mx:Nat->Nat
 | 0=>0
 | 1=>41
 | d+1=>1+mx d+mx d*mx d+mx d*mx d*mx d
theorem vD (d:Nat):41<=mx (d+1):=by
 induction d with
 | zero=>exact am _
 | succ d ih=>
  show 41<=1+mx (d+1)+mx (d+1)*mx (d+1)+mx (d+1)*mx (d+1)*mx (d+1);omega
theorem Yv (d:Nat)(n:Nat)(h:n<=41):n<=mx (d+1):=aq h (vD d)
theorem xF {N m:Nat}(hN:1<=N)(h:m<=3):N ^ m<=1+N+N*N+N*N*N:=by
 have:m=0\/m=1\/m=2\/m=3:=by omega
 rcases this with rfl | rfl | rfl | rfl <;> simp[dS] <;> omega
theorem Jh:∀(d:Nat) (k:Kd),k.Ok d->k.all.length<=mx d
 | 0,_,h=>h.elim
 | d+1,.whole lo hi,h=>by
  obtain⟨h1,h2,h3⟩:=h;rw[Zt];exact Yv d _ (by omega)
 | d+1,.pick cs,h=>by
  rw[wV];exact Yv d _ (aq h.2.1 (by omega))
 | 1,.row ks,h=>by
  obtain⟨h1,h2,h3⟩:=h
  match ks,h1,h3 with
  | k :: _,_,h3=>exact(h3 k ah).elim
 | d+2,.row ks,h=>by
  obtain⟨h1,h2,h3⟩:=h;rw[j0];have hp:=aq (by omega:1<=41) (vD d)
  have:=uY hp (ks.map λk=>k.all.length) λn hn=>by
   obtain⟨k,hk,rfl⟩:=aw.mp hn;exact Jh (d+1) k (h3 k hk)
  rw[ac]at this;exact aq this (xF hp h2)
 | 1,.many k lo hi,h=>h.2.2.elim
 | d+2,.many k lo hi,h=>by
  rw[jn];exact z03 (Jh (d+1) k h.2.2) h.1 h.2.1
theorem ze {f g:En->RS}{ρ ρ' :En}(h:f ρ= .nx ρ'):zm f g ρ=g ρ' :=by rw[zv,h]
theorem cs0 {x w:Str}{r:List T}{ρ:En}:zi eqC (zb ixT (vE 0) (cE (.int 0))) (cE (.str w)) (.vl (.tup (.str x :: r)) :: ρ)= .ok (x == w):=by
 rw[zj,zf,v0,bOk,zq,bOk,at0,bOk,zq,bOk,eqS];rfl
theorem ul {a b:T}{r:List T}{ρ:En}:zb ixT (vE 0) (cE (.int 1)) (.vl (.tup (a :: b :: r)) :: ρ)= .ok b:=by
 rw[zf,v0,bOk,zq,bOk,at1]
theorem vF {a b c:T}{r:List T}{ρ:En}:zb ixT (vE 0) (cE (.int 2)) (.vl (.tup (a :: b :: c :: r)) :: ρ)= .ok c:=by
 rw[zf,v0,bOk,zq,bOk,at2]
theorem xG {a b c d:T}{r:List T}{ρ:En}:zb ixT (vE 0) (cE (.int 3)) (.vl (.tup (a :: b :: c :: d :: r)) :: ρ)= .ok d:=by
 rw[zf,v0,bOk,zq,bOk,at3]
theorem xH {f:En->R T}{ρ:En}{i:Int}(h:f ρ= .ok (.int i)):zb zl f (cE (.int 1)) ρ= .ok (.int (i+1)):=by
 rw[zf,h,bOk,zq,bOk,zJ]
theorem um {f g:En->R T}{ρ:En}{i j:Int}(hf:f ρ= .ok (.int i))(hg:g ρ= .ok (.int j))(h: -1000000 < i/\i < 1000000/\ -1000000 < j/\j < 1000000):Jm f g ρ= .ok (rng i (j - i).toNat):=by
 unfold Jm;rw[hf,bOk,hg,bOk];exact if_pos h
theorem Yw:∀(cs:List (Str×Int)) (x y:Sl),zI (Zb 0 1) Z1 (vE 0) (cs.map Zo) [x,y]= .ok (cs.map λc=>T.str c.1)
 | [],_,_=>rfl
 | c :: cs,x,y=>by
  have e:zI (Zb 0 1) Z1 (vE 0) ((c :: cs).map Zo) [x,y]=(zI (Zb 0 1) Z1 (vE 0) (cs.map Zo) [.vl (.str c.1),.vl (.int c.2)]).bind λvs=> .ok (.str c.1 :: vs):=rfl;rw[e,Yw cs];rfl
theorem vG {x:T}{m:Nat}(h:m<=3):Z0 (.lst [x]) (.int (m:Int))= .ok (.lst (ag m [x]).flatten):=by
 unfold Z0;dsimp only;have c:0<=(m:Int)/\(m:Int) < 1000000/\[x].length*(m:Int).toNat<=bnd:=by
  have hb:3<=bnd:=by decide
  refine⟨by omega,by omega, ?_⟩
  rw[aD,aV,cB];exact aq h hb
 rw[if_pos c,aV]
theorem Jw {α:Type}(x:α):∀m:Nat,(ag m [x]).flatten=ag m x
 | 0=>rfl
 | m+1=>by rw[aU,aU,bU,Jw x m];rfl
abbrev we (ca cr:List T->R T):En->RS:=qT 1 (za 1 cr (z9 (zb Z0 (Zp (z9 (za 1 ca (z9 (zb ixT (vE 0) (cE (.int 1))) (zc))) (zc))) (vE 2)) (zc)))
theorem lst1 {f:En->R T}{ρ:En}{x:T}(hf:f ρ= .ok x):Zp (z9 f zc) ρ= .ok (.lst [x]):=by
 unfold Zp z9 zc;rw[hf];rfl
theorem WL {ca:List T->R T}{k:Kd}{t:T}{lo:Nat}{ws:List T}(hw:ca [t]= .ok (.lst ws))(hpos:1<=ws.length){a b c:T}:∀(js:List Nat) (acc:List T) (x:Sl),(∀j∈js,lo+j<=3)->acc.length+(js.map λj=>ws.length ^ (lo+j)).sum<=bnd->
  ∃y,ZK (zo 2) (we ca f_f) (js.map λ(j:Nat)=>T.int ((lo:Int)+(j:Int))) [.vl (.tup [a,t,b,c]),.ow acc,x]= .nx [.vl (.tup [a,t,b,c]),.ow (acc++js.flatMap λj=>WH (ag (lo+j) ws)),y]
 | [],acc,x,_,_=>⟨x,by simp[ZK]⟩
 | j :: js,acc,x,hj,hb=>by
  have hj1:=hj j ah;have hb1:bnd=16777216:=rfl;rw[aB,cY]at hb;have er:f_f [.lst ((ag (lo+j) ws).map T.lst)]= .ok (.lst (WH (ag (lo+j) ws))):=Yu _ (by rw[aI];omega) (λl hl=>by rw[bF hl];exact hpos) (by rw[bH,JT];omega)
  have hlen:(WH (ag (lo+j) ws)).length=ws.length ^ (lo+j):=by rw[wU,bH,JT]
  have em:Z0 (.lst [.lst ws]) (.int ((lo:Int)+(j:Int)))= .ok (.lst ((ag (lo+j) ws).map T.lst)):=by
   have e1:(lo:Int)+(j:Int)=((lo+j:Nat):Int):=by omega
   rw[e1,vG (by omega),Jw,bH]
  have eb:we ca f_f [.vl (.tup [a,t,b,c]),.ow acc,.vl (.int ((lo:Int)+(j:Int)))]= .nx [.vl (.tup [a,t,b,c]),.ow (acc++WH (ag (lo+j) ws)),.vl (.int ((lo:Int)+(j:Int)))]:=by
   have e1:za 1 f_f (z9 (zb Z0 (Zp (z9 (za 1 ca (z9 (zb ixT (vE 0) (cE (.int 1))) (zc))) (zc))) (vE 2)) (zc)) [.vl (.tup [a,t,b,c]),.ow acc,.vl (.int ((lo:Int)+(j:Int)))]= .ok (.lst (WH (ag (lo+j) ws))):=by
    have e0:za 1 ca (z9 (zb ixT (vE 0) (cE (.int 1))) (zc)) [.vl (.tup [a,t,b,c]),.ow acc,.vl (.int ((lo:Int)+(j:Int)))]= .ok (.lst ws):=by
     rw[zM,ul,bOk,hw]
    rw[zM,zf,lst1 e0,bOk,v2,bOk,em,bOk,er]
   show ((za 1 f_f _ _).s λt=>match t with | .lst us=>if acc.length+us.length<=bnd then RS.nx _ else .bad | _=> .bad)=_
   rw[e1,Z9];show (if _ then _ else _)=_
   rw[if_pos (by rw[hlen];omega)]
   rfl
  obtain⟨y,ih⟩:=WL (k:=k) hw hpos (a:=a) (b:=b) (c:=c) js (acc++WH (ag (lo+j) ws)) (.vl (.int ((lo:Int)+(j:Int)))) (λi hi=>hj i (ae _ hi)) (by rw[aA,hlen];omega)
  refine⟨y, ?_⟩;have e:ZK (zo 2) (we ca f_f) ((j :: js).map λ(j:Nat)=>T.int ((lo:Int)+(j:Int))) [.vl (.tup [a,t,b,c]),.ow acc,x]=match we ca f_f [.vl (.tup [a,t,b,c]),.ow acc,.vl (.int ((lo:Int)+(j:Int)))] with
   | .nx ρ2=>ZK (zo 2) (we ca f_f) (js.map λ(j:Nat)=>T.int ((lo:Int)+(j:Int))) ρ2
   | .ct ρ2=>ZK (zo 2) (we ca f_f) (js.map λ(j:Nat)=>T.int ((lo:Int)+(j:Int))) ρ2
   | .bk ρ2=> .nx ρ2
   | r=>r:=rfl
  rw[e,eb];dsimp only;rw[ih,eS,bh]
theorem Qs {ca:List T->R T}{a t:T}{lo hi:Nat}(h1:lo<=hi)(h2:hi<=3){x:Sl}{acc:List T}{r:RS}
  (el:ZK (zo 2) (we ca f_f) ((aC (hi+1 - lo)).map λ(j:Nat)=>T.int ((lo:Int)+(j:Int))) [.vl (.tup [a,t,.int (lo:Int),.int (hi:Int)]),.ow acc,x]=r):
  ju (Jm (zb ixT (vE 0) (cE (.int 2))) (zb zl (zb ixT (vE 0) (cE (.int 3))) (cE (.int 1)))) (zo 2) (we ca f_f) [.vl (.tup [a,t,.int (lo:Int),.int (hi:Int)]),.ow acc,x]=r:=by
 have hn:((hi:Int)+1 - (lo:Int)).toNat=hi+1 - lo:=by omega
 have hc: -1000000 < (lo:Int)/\(lo:Int) < 1000000/\ -1000000 < (hi:Int)+1/\(hi:Int)+1 < 1000000:=by omega
 have e:ju (Jm (zb ixT (vE 0) (cE (.int 2))) (zb zl (zb ixT (vE 0) (cE (.int 3))) (cE (.int 1)))) (zo 2) (we ca f_f) [.vl (.tup [a,t,.int (lo:Int),.int (hi:Int)]),.ow acc,x]=(Jm (zb ixT (vE 0) (cE (.int 2))) (zb zl (zb ixT (vE 0) (cE (.int 3))) (cE (.int 1))) [.vl (.tup [a,t,.int (lo:Int),.int (hi:Int)]),.ow acc,x]).s λts=>ZK (zo 2) (we ca f_f) ts [.vl (.tup [a,t,.int (lo:Int),.int (hi:Int)]),.ow acc,x]:=rfl;rw[e,um vF (xH xG) hc,Z9,hn];exact el
theorem K8 {n L lo hi:Nat}(e:L=pw n lo hi)(h:L<=1000000):([]:List T).length+((aC (hi+1 - lo)).map λj=>n ^ (lo+j)).sum<=bnd:=by
 have h' :pw n lo hi<=bnd:=aq (e ▸ h) (by decide)
 unfold pw at h';rw[aP,ie];exact h'
theorem Yx {ca:List T->R T}(d:Nat)(lo hi:Int)(h:(Kd.whole lo hi).Ok (d+1))(hl:(Kd.whole lo hi).all.length<=1000000)(H:∀k' :Kd,k'.Ok d->ca [k'.t]= .ok (.lst k'.all)):zg (b_3 ca f_f (en0 3 [(Kd.whole lo hi).t]))= .ok (.lst (Kd.whole lo hi).all):=by
 have hb1:bnd=16777216:=rfl;have e:zg (b_3 ca f_f (en0 3 [(Kd.whole lo hi).t]))=zg (b_3 ca f_f [.vl (Kd.whole lo hi).t,.un,.un]):=rfl;rw[e,b_3,zv,Zr];obtain⟨h1,h2,h3⟩:=h;simp only[Kd.t];rw[cs0,Z9,show (("whole":Str) == "whole")=true from rfl,if_pos rfl,zO,ZC,jV,jV,ZW];unfold KU;rw[um ul (xH vF) ⟨by omega,by omega,by omega,by omega⟩]
 rw[Kd.all];rfl
theorem Qt {ca:List T->R T}(d:Nat)(cs:List (Str×Int))(h:(Kd.pick cs).Ok (d+1))(hl:(Kd.pick cs).all.length<=1000000)(H:∀k' :Kd,k'.Ok d->ca [k'.t]= .ok (.lst k'.all)):zg (b_3 ca f_f (en0 3 [(Kd.pick cs).t]))= .ok (.lst (Kd.pick cs).all):=by
 have hb1:bnd=16777216:=rfl;have e:zg (b_3 ca f_f (en0 3 [(Kd.pick cs).t]))=zg (b_3 ca f_f [.vl (Kd.pick cs).t,.un,.un]):=rfl;rw[e,b_3,zv,Zr];simp only[Kd.t];rw[cs0,Z9,show (("pick":Str) == "whole")=false from rfl,if_neg ao,wv];dsimp only;rw[zv,Zr,cs0,Z9,show (("pick":Str) == "pick")=true from rfl,if_pos rfl,zO,ZC,jV,jV,ZW,zE,Zs,ul,bOk];have hc:cs.length<=4:=h.2.1;have ec:zF (Zb 0 1) Z1 (vE 0) 2 [] [.vl (.tup [.str "pick",.tup (cs.map Zo)]),.un,.un] (cs.map Zo)= .ok (cs.map λc=>T.str c.1):=by
  unfold zF;rw[if_pos (by rw[ac];omega)]
  show quiet (zI (Zb 0 1) Z1 (vE 0) (cs.map Zo) [.un,.un])=_;rw[Yw];rfl
 show zg (match ((((R.ok (cs.map Zo)).bind λts=>(zF (Zb 0 1) Z1 (vE 0) 2 [] [.vl (.tup [.str "pick",.tup (cs.map Zo)]),.un,.un] ts).bind λvs=> .ok (.lst vs))).s λt=> .rt t) with | .nx ρ' =>_ | r=>r)=_
 rw[bOk,ec];rw[Kd.all];rfl
theorem xI {ca:List T->R T}(d:Nat)(ks:List Kd)(h:(Kd.row ks).Ok (d+1))(hl:(Kd.row ks).all.length<=1000000)(H:∀k' :Kd,k'.Ok d->ca [k'.t]= .ok (.lst k'.all)):zg (b_3 ca f_f (en0 3 [(Kd.row ks).t]))= .ok (.lst (Kd.row ks).all):=by
 have hb1:bnd=16777216:=rfl;have e:zg (b_3 ca f_f (en0 3 [(Kd.row ks).t]))=zg (b_3 ca f_f [.vl (Kd.row ks).t,.un,.un]):=rfl;rw[e,b_3,zv,Zr];obtain⟨h1,h2,h3⟩:=h;simp only[Kd.t];rw[cs0,Z9,show (("row":Str) == "whole")=false from rfl,if_neg ao,wv];dsimp only;rw[zv,Zr,cs0,Z9,show (("row":Str) == "pick")=false from rfl,if_neg ao,wv];dsimp only;rw[zv,Zr,cs0,Z9,show (("row":Str) == "row")=true from rfl,if_pos rfl,zO,ZC,jV,jV,ZW,zM,zE,Zs,ul,bOk,Kd.ts_map];have ec:zF (zo 0) Z1 (za 1 ca (z9 (vE 0) (zc))) 1 [] [.vl (.tup [.str "row",.tup (ks.map Kd.t)]),.un,.un] (ks.map Kd.t)= .ok ((ks.map Kd.all).map T.lst):=by
  unfold zF;rw[if_pos (by rw[ac];omega)]
  show quiet (zI (zo 0) Z1 _ (ks.map Kd.t) [.un])=_;have:∀(ks:List Kd) (x:Sl),(∀k∈ks,k.Ok d)->zI (zo 0) Z1 (za 1 ca (z9 (vE 0) (zc))) (ks.map Kd.t) [x]= .ok ((ks.map Kd.all).map T.lst):=by
   intro ks
   induction ks with
   | nil=>intro _ _;rfl
   | cons k ks ih=>
    intro x hk;have e1:zI (zo 0) Z1 (za 1 ca (z9 (vE 0) (zc))) ((k :: ks).map Kd.t) [x]=(za 1 ca (z9 (vE 0) (zc)) [.vl k.t]).bind λv=>(zI (zo 0) Z1 (za 1 ca (z9 (vE 0) (zc))) (ks.map Kd.t) [.vl k.t]).bind λvs=> .ok (v :: vs):=rfl;rw[e1,zM,v0,bOk,H k (hk k ah),bOk,ih _ λk' hk' =>hk k' (ae _ hk')];rfl
  rw[this ks .un h3];rfl
 have hrow:=j0 ks;have er:f_f [.lst ((ks.map Kd.all).map T.lst)]= .ok (.lst (WH (ks.map Kd.all))):=Yu _ (by rw[ac];omega) (λl hl=>by
  obtain⟨k,hk,rfl⟩:=aw.mp hl;exact ZF d k (h3 k hk)) (by
  rw[aQ];show prd (ks.map λk=>k.all.length)<=bnd;omega)
 show zg (match ((((R.ok (ks.map Kd.t)).bind λts=>(zF (zo 0) Z1 (za 1 ca (z9 (vE 0) (zc))) 1 [] [.vl (.tup [.str "row",.tup (ks.map Kd.t)]),.un,.un] ts).bind λvs=> .ok (.lst vs)).bind λx=>f_f [x]).s λt=> .rt t) with | .nx ρ' =>_ | r=>r)=_
 rw[bOk,ec,bOk,bOk,er,Kd.all,Kd.alls_map];rfl
theorem Qu {ca:List T->R T}(d:Nat)(k:Kd)(lo hi:Nat)(h:(Kd.many k lo hi).Ok (d+1))(hl:(Kd.many k lo hi).all.length<=1000000)(H:∀k' :Kd,k'.Ok d->ca [k'.t]= .ok (.lst k'.all)):zg (b_3 ca f_f (en0 3 [(Kd.many k lo hi).t]))= .ok (.lst (Kd.many k lo hi).all):=by
 have hb1:bnd=16777216:=rfl;have e:zg (b_3 ca f_f (en0 3 [(Kd.many k lo hi).t]))=zg (b_3 ca f_f [.vl (Kd.many k lo hi).t,.un,.un]):=rfl;rw[e,b_3,zv,Zr];obtain⟨h1,h2,h3⟩:=h;have hml:=jn k lo hi;simp only[Kd.t];rw[cs0,Z9,show (("many":Str) == "whole")=false from rfl,if_neg ao,wv];dsimp only;rw[zv,Zr,cs0,Z9,show (("many":Str) == "pick")=false from rfl,if_neg ao,wv];dsimp only;rw[zv,Zr,cs0,Z9,show (("many":Str) == "row")=false from rfl,if_neg ao,wv];dsimp only;have e0:yB 1 (zc) [.vl (.tup [.str "many",k.t,.int (lo:Int),.int (hi:Int)]),.un,.un]= .nx [.vl (.tup [.str "many",k.t,.int (lo:Int),.int (hi:Int)]),.ow [],.un]:=rfl;rw[zv,e0];dsimp only;obtain⟨y,el⟩:=WL (k:=k) (lo:=lo) (H k h3) (ZF d k h3) (a:= .str "many") (b:= .int (lo:Int)) (c:= .int (hi:Int)) (aC (hi+1 - lo)) [] .un (λj hj=>by have:=ba.mp hj;omega) (K8 hml hl)
 have e1:=Qs (ca:=ca) (t:=k.t) h1 h2 el;rw[bG]at e1;rw[ze e1,Kd.all];rfl
theorem Qv {ca:List T->R T}(d:Nat)(k:Kd)(h:k.Ok (d+1))(hl:k.all.length<=1000000)(H:∀k' :Kd,k'.Ok d->ca [k'.t]= .ok (.lst k'.all)):zg (b_3 ca f_f (en0 3 [k.t]))= .ok (.lst k.all):=by
 cases k with
 | whole lo hi=>exact Yx d lo hi h hl H
 | pick cs=>exact Qt d cs h hl H
 | row ks=>exact xI d ks h hl H
 | many k lo hi=>exact Qu d k lo hi h hl H
theorem Yy:∀(d n:Nat),d<=n->d<=3->∀k:Kd,k.Ok d->k.all.length<=1000000->S_3 n 0 [k.t]= .ok (.lst k.all)
 | 0,_,_,_,_,h,_=>h.elim
 | d+1,0,hn,_,_,_,_=>by omega
 | d+1,n+1,hn,hd,k,h,hl=>by
  have e:S_3 (n+1) 0 [k.t]=zg (b_3 (S_3 n 0) f_f (en0 3 [k.t])):=rfl;rw[e];refine Qv d k h hl λk' hk' =>Yy d n (by omega) (by omega) k' hk' ?_
  have h1:=Jh d k' hk';have:mx d<=1000000:=by
   have:d=0\/d=1\/d=2:=by omega
   rcases this with rfl | rfl | rfl <;> decide
  omega
theorem in2 {x a b:Str}{r:List T}{ρ:En}:zi inC (zb ixT (vE 0) (cE (.int 0))) (zp (z9 (cE (.str a)) (z9 (cE (.str b)) (zc)))) (.vl (.tup (.str x :: r)) :: ρ)=inC (.str x) (.tup [.str a,.str b]):=by
 rw[zj,zf,v0,bOk,zq,bOk,at0,bOk,wP zq zq,bOk]
theorem uo {g:En->R Bool}{f1 f2:En->RS}{ρ:En}(h:g ρ= .ok true):ifS g f1 f2 ρ=f1 ρ:=by rw[Zr,h,Z9,if_pos rfl]
theorem if_f {g:En->R Bool}{f1 f2:En->RS}{ρ:En}(h:g ρ= .ok false):ifS g f1 f2 ρ=f2 ρ:=by rw[Zr,h,Z9,if_neg ao]
theorem zz {g:En->R Bool}{f1:En->RS}{ρ:En}(h:g ρ= .ok false):ifS g f1 nxS ρ= .nx ρ:=by rw[if_f h];rfl
theorem zG {i:Nat}{f:En->R T}{ρ:En}{t:T}(h:f ρ= .ok t):zx i f ρ= .nx (ρ.set i (.vl t)):=by rw[ZE,h,Z9]
theorem Zv {f:En->R T}{ρ:En}{t:T}(h:f (frz ρ)= .ok t):zt f ρ= .rt t:=by rw[zO,h,Z9]
theorem JU {g:T->En->R En}{fb:En->RS}{t:T}{ts:List T}{ρ ρ1 ρ2:En}(hg:g t ρ= .ok ρ1)(hb:fb ρ1= .nx ρ2):ZK g fb (t :: ts) ρ=ZK g fb ts ρ2:=by
 rw[ZK,hg];dsimp only;rw[hb]
theorem j5 {f g:En->RS}{ρ:En}{t:T}(h:f ρ= .rt t):zm f g ρ= .rt t:=by rw[zv,h]
theorem Yz {i j:Nat}(h:i < 2 ^ 60):Z0 (.int (i:Int)) (.int (j:Int))= .ok (.int ((i*j:Nat):Int)):=by
 rw[Yh _ _ (.inl ⟨by omega,by omega⟩),iG]
theorem K9 {d n:Nat}(h:n<=mx d)(hd:d<=3):n < 2 ^ 60:=by
 have:d=0\/d=1\/d=2\/d=3:=by omega
 have h3:mx 3 < 2 ^ 60:=by decide
 have h2:mx 2 < 2 ^ 60:=by decide
 have h1:mx 1 < 2 ^ 60:=by decide
 have h0:mx 0 < 2 ^ 60:=by decide
 rcases this with rfl | rfl | rfl | rfl <;> omega
theorem uZ {a b:Sl}:∀(ns:List Nat) (m:Nat) (x y:Sl),(∀n∈ns,1<=n)->m*prd ns < 2 ^ 60->∃x',ZK (zo 3) (zx 2 (zb Z0 (vE 2) (vE 3))) (ns.map λ(n:Nat)=>T.int (n:Int)) [a,b,.vl (.int (m:Int)),x,y]= .nx [a,b,.vl (.int ((m*prd ns:Nat):Int)),x',y]
 | [],m,x,y,_,_=>⟨x,by simp[ZK,prd]⟩
 | n :: ns,m,x,y,hp,hb=>by
  have hpr:=JS (ns:=ns) λk hk=>hp k (ae _ hk);have hn:=hp n ah;have hmm:m<=m*prd (n :: ns):=cx _ (eR hn hpr);have hb2:m < 2 ^ 60:=c9 hmm hb;rw[prd,← c_]at hb;obtain⟨x',ih⟩:=uZ (a:=a) (b:=b) ns (m*n) (.vl (.int (n:Int))) y (λk hk=>hp k (ae _ hk)) hb;refine⟨x', ?_⟩;have es:zx 2 (zb Z0 (vE 2) (vE 3)) [a,b,.vl (.int (m:Int)),.vl (.int (n:Int)),y]= .nx [a,b,.vl (.int ((m*n:Nat):Int)),.vl (.int (n:Int)),y]:=by
   rw[ZE,zf,v2,bOk,v3,bOk,Yz hb2,Z9];rfl
  have s3:zo 3 (T.int (n:Int)) [a,b,.vl (.int (m:Int)),x,y]= .ok [a,b,.vl (.int (m:Int)),.vl (.int (n:Int)),y]:=rfl;rw[aB,JU s3 es,prd,← c_];exact ih
theorem Qw:∀(d:Nat) (lo hi:Int),(Kd.whole lo hi).Ok (d+1)->(Kd.whole lo hi).Ok 1
 | _,_,_,h=>h
theorem Qx:∀(d:Nat) (cs:List (Str×Int)),(Kd.pick cs).Ok (d+1)->(Kd.pick cs).Ok 1
 | _,_,h=>h
theorem WM {cs:List T->R T}(k:Kd)(h:k.Ok 1){x:Str}{r:List T}(ht:k.t= .tup (.str x :: r))(hx:inC (.str x) (.tup [.str "whole",.str "pick"])= .ok true):zg (b_8 (f_3 8) cs (en0 5 [k.t]))= .ok (.int (k.all.length:Int)):=by
 have ha:f_3 8 [k.t]= .ok (.lst k.all):=Yy 1 8 (by omega) (by omega) k h (aq (Jh 1 k h) (by decide))
 have e:zg (b_8 (f_3 8) cs (en0 5 [k.t]))=zg (b_8 (f_3 8) cs [.vl k.t,.un,.un,.un,.un]):=rfl;have e1:zi inC (zb ixT (vE 0) (cE (.int 0))) (zp (z9 (cE (.str "whole")) (z9 (cE (.str "pick")) (zc)))) [.vl k.t,.un,.un,.un,.un]= .ok true:=by
  rw[ht,in2,hx]
 have e2:zt (ap1 zK (za 1 (f_3 8) (z9 (vE 0) (zc)))) [.vl k.t,.un,.un,.un,.un]= .rt (.int (k.all.length:Int)):=by
  refine Zv ?_;rw[ZC,zY,zM,v0,bOk,ha,bOk,wb]
 rw[e,b_8,j5 (by rw[uo e1,e2])]
 rfl
theorem z04 (b:Bool):b2 b=(iv b:Int):=by cases b <;> rfl
theorem Qy {cs:List T->R T}{d:Nat}(hd:d+1<=3)(ks:List Kd)(h:(Kd.row ks).Ok (d+1))(H:∀k:Kd,k.Ok d->cs [k.t]= .ok (.int (k.all.length:Int))):zg (b_8 (f_3 8) cs (en0 5 [(Kd.row ks).t]))= .ok (.int ((Kd.row ks).all.length:Int)):=by
 have hlt:=K9 (Jh (d+1) (.row ks) h) hd;rw[j0]at hlt ⊢;obtain⟨h1,h2,h3⟩:=h;simp only[Kd.t,Kd.ts_map];have e:zg (b_8 (f_3 8) cs (en0 5 [.tup [.str "row",.tup (ks.map Kd.t)]]))=zg (b_8 (f_3 8) cs [.vl (.tup [.str "row",.tup (ks.map Kd.t)]),.un,.un,.un,.un]):=rfl;have e1:zi inC (zb ixT (vE 0) (cE (.int 0))) (zp (z9 (cE (.str "whole")) (z9 (cE (.str "pick")) (zc)))) [.vl (.tup [.str "row",.tup (ks.map Kd.t)]),.un,.un,.un,.un]= .ok false:=by
  rw[in2];rfl
 have ec:zF (zo 0) Z1 (za 1 cs (z9 (vE 0) (zc))) 1 [] [.vl (.tup [.str "row",.tup (ks.map Kd.t)]),.un,.un,.un,.un] (ks.map Kd.t)= .ok ((ks.map λk=>k.all.length).map λ(n:Nat)=>T.int (n:Int)):=by
  unfold zF;rw[if_pos (by rw[ac];exact aq h2 (by decide))]
  have:∀(ks:List Kd) (x:Sl),(∀k∈ks,k.Ok d)->zI (zo 0) Z1 (za 1 cs (z9 (vE 0) (zc))) (ks.map Kd.t) [x]= .ok ((ks.map λk=>k.all.length).map λ(n:Nat)=>T.int (n:Int)):=by
   intro ks
   induction ks with
   | nil=>intro _ _;rfl
   | cons k ks ih=>
    intro x hk;have e1:zI (zo 0) Z1 (za 1 cs (z9 (vE 0) (zc))) ((k :: ks).map Kd.t) [x]=(za 1 cs (z9 (vE 0) (zc)) [.vl k.t]).bind λv=>(zI (zo 0) Z1 (za 1 cs (z9 (vE 0) (zc))) (ks.map Kd.t) [.vl k.t]).bind λvs=> .ok (v :: vs):=rfl;rw[e1,zM,v0,bOk,H k (hk k ah),bOk,ih _ λk' hk' =>hk k' (ae _ hk')];rfl
  show quiet (zI (zo 0) Z1 _ (ks.map Kd.t) [.un])=_;rw[this ks .un h3];rfl
 have e2:ifE (zi eqC (zb ixT (vE 0) (cE (.int 0))) (cE (.str "row"))) (zC (Zm (zb ixT (vE 0) (cE (.int 1)))) (zo 0) (Z1) (za 1 cs (z9 (vE 0) (zc))) 1 []) (Zp (zc)) [.vl (.tup [.str "row",.tup (ks.map Kd.t)]),.un,.un,.un,.un]= .ok (.lst ((ks.map λk=>k.all.length).map λ(n:Nat)=>T.int (n:Int))):=by
  unfold ifE;rw[cs0,bOk,show (("row":Str) == "row")=true from rfl,if_pos rfl,zE,Zs,ul,bOk];show ((R.ok (ks.map Kd.t)).bind _)=_;rw[bOk,ec,bOk]
 obtain⟨x',el⟩:=uZ (a:= .vl (.tup [.str "row",.tup (ks.map Kd.t)])) (b:= .vl (.lst ((ks.map λk=>k.all.length).map λ(n:Nat)=>T.int (n:Int)))) (ks.map λk=>k.all.length) 1 .un .un (λn hn=>by
  obtain⟨k,hk,rfl⟩:=aw.mp hn;exact ZF d k (h3 k hk)) (by rw[cB];exact hlt)
 rw[cB]at el;have e3:ju (Zm (vE 1)) (zo 3) (zx 2 (zb Z0 (vE 2) (vE 3))) [.vl (.tup [.str "row",.tup (ks.map Kd.t)]),.vl (.lst ((ks.map λk=>k.all.length).map λ(n:Nat)=>T.int (n:Int))),.vl (.int 1),.un,.un]=_:=el;have e4:zi eqC (zb ixT (vE 0) (cE (.int 0))) (cE (.str "many")) [.vl (.tup [.str "row",.tup (ks.map Kd.t)]),.vl (.lst ((ks.map λk=>k.all.length).map λ(n:Nat)=>T.int (n:Int))),.vl (.int ((prd (ks.map λk=>k.all.length):Nat):Int)),x',.un]= .ok false:=by
  rw[cs0];rfl
 rw[e,b_8,ze (zz e1),ze (zG e2)];have s1:([.vl (.tup [.str "row",.tup (ks.map Kd.t)]),.un,.un,.un,.un]:En).set 1 (.vl (.lst ((ks.map λk=>k.all.length).map λ(n:Nat)=>T.int (n:Int))))=[.vl (.tup [.str "row",.tup (ks.map Kd.t)]),.vl (.lst ((ks.map λk=>k.all.length).map λ(n:Nat)=>T.int (n:Int))),.un,.un,.un]:=rfl;rw[s1,ze (zG zq)];have s2:([.vl (.tup [.str "row",.tup (ks.map Kd.t)]),.vl (.lst ((ks.map λk=>k.all.length).map λ(n:Nat)=>T.int (n:Int))),.un,.un,.un]:En).set 2 (.vl (.int 1))=[.vl (.tup [.str "row",.tup (ks.map Kd.t)]),.vl (.lst ((ks.map λk=>k.all.length).map λ(n:Nat)=>T.int (n:Int))),.vl (.int 1),.un,.un]:=rfl;rw[s2,ze e3,ze (zz e4)];rfl
theorem Ka {f g:En->R T}{ρ:En}{i j c:Int}(hf:f ρ= .ok (.int i))(hg:g ρ= .ok (.int j)):chE leC leC f (cE (.int c)) g ρ= .ok (.bl (decide (i<=c) && decide (c<=j))):=by
 rw[xt,hf,bOk,zq,bOk,ub,bOk,hg];cases decide (i<=c) <;> rfl
theorem JV (a b:Nat):decide ((a:Int)<=(b:Int))=decide (a<=b):=by
 by_cases h:a<=b
 ·rw[decide_eq_true h];exact decide_eq_true (by omega)
 ·rw[decide_eq_false h];exact decide_eq_false (by omega)
theorem ww (a b:Nat):((a:Int) == (b:Int))=(a == b):=by
 by_cases h:a=b
 ·subst h;simp
 ·rw[beq_eq_false_iff_ne.mpr h,beq_eq_false_iff_ne];omega
theorem gs {f:En->R T}{ρ:En}{b:Bool}(h:f ρ= .ok (.bl b)):ap1 W4 f ρ= .ok (.int ((iv b:Nat):Int)):=by
 rw[zY,h,bOk];show R.ok (T.int (b2 b))=_;rw[z04]
theorem YA {f g:En->R T}{ρ:En}{i j:Nat}(hf:f ρ= .ok (.int (i:Int)))(hg:g ρ= .ok (.int (j:Int))):zb zl f g ρ= .ok (.int ((i+j:Nat):Int)):=by
 rw[zf,hf,bOk,hg,bOk,zJ,fF]
theorem J0 {f g:En->R T}{ρ:En}{i j:Nat}(h:i < 2 ^ 60)(hf:f ρ= .ok (.int (i:Int)))(hg:g ρ= .ok (.int (j:Int))):zb Z0 f g ρ= .ok (.int ((i*j:Nat):Int)):=by
 rw[zf,hf,bOk,hg,bOk,Yz h]
theorem xJ {d n:Nat}(h:n<=mx d)(hd:d+1<=3)(h0:1<=d):n*n*n < 2 ^ 60/\n*n < 2 ^ 60/\n < 2 ^ 60:=by
 have h1:n<=70644:=by
  have:d=1\/d=2:=by omega
  have h2:mx 2=70644:=by decide
  have h1:mx 1=41:=by decide
  rcases this with rfl | rfl <;> omega
 have h2:n*n<=70644*70644:=cy h1 h1;have h3:n*n*n<=70644*70644*70644:=cy h2 h1;have h4:70644*70644*70644 < 2 ^ 60:=by decide
 have h5:70644*70644 < 2 ^ 60:=by decide
 have h6:70644 < 2 ^ 60:=by decide
 exact⟨c9 h3 h4,c9 h2 h5,c9 h1 h6⟩
abbrev mt (t:T)(lo hi:Nat):T:= .tup [.str "many",t,.int (lo:Int),.int (hi:Int)]
theorem v4' {t:T}{a b c d:Sl}{ρ:En}:vE 4 (a :: b :: c :: d :: .vl t :: ρ)= .ok t:=rfl
theorem YB {t:T}{a x:Sl}{lo hi n:Nat}(h3:n*n*n < 2 ^ 60)(h2:n*n < 2 ^ 60)(h1:n < 2 ^ 60):
  zm (zx 2 (zb zl (ap1 W4 (Zi eqC (zb ixT (vE 0) (cE (.int 2))) (cE (.int 0)))) (zb Z0 (vE 4) (ap1 W4 (chE leC leC (zb ixT (vE 0) (cE (.int 2))) (cE (.int 1)) (zb ixT (vE 0) (cE (.int 3))))))))
  (zm (zx 2 (zb zl (vE 2) (zb Z0 (zb Z0 (vE 4) (vE 4)) (ap1 W4 (chE leC leC (zb ixT (vE 0) (cE (.int 2))) (cE (.int 2)) (zb ixT (vE 0) (cE (.int 3))))))))
  (zx 2 (zb zl (vE 2) (zb Z0 (zb Z0 (zb Z0 (vE 4) (vE 4)) (vE 4)) (ap1 W4 (Zi eqC (zb ixT (vE 0) (cE (.int 3))) (cE (.int 3))))))))
  [.vl (mt t lo hi),a,.vl (.int 1),x,.vl (.int (n:Int))]= .nx [.vl (mt t lo hi),a,.vl (.int ((iv (lo == 0)+n*iv (decide (lo<=1) && decide (1<=hi))+n*n*iv (decide (lo<=2) && decide (2<=hi))+n*n*n*iv (hi == 3):Nat):Int)),x,.vl (.int (n:Int))]:=by
 have le1:∀{p q r s:Sl},ap1 W4 (chE leC leC (zb ixT (vE 0) (cE (.int 2))) (cE (.int 1)) (zb ixT (vE 0) (cE (.int 3)))) [.vl (mt t lo hi),p,q,r,s]= .ok (.int ((iv (decide (lo<=1) && decide (1<=hi)):Nat):Int)):=λ{p q r s}=>gs (by
  rw[Ka (c:=1) vF xG];rw[show decide ((lo:Int)<=1)=decide (lo<=1) from JV lo 1,show decide ((1:Int)<=(hi:Int))=decide (1<=hi) from JV 1 hi])
 have le2:∀{p q r s:Sl},ap1 W4 (chE leC leC (zb ixT (vE 0) (cE (.int 2))) (cE (.int 2)) (zb ixT (vE 0) (cE (.int 3)))) [.vl (mt t lo hi),p,q,r,s]= .ok (.int ((iv (decide (lo<=2) && decide (2<=hi)):Nat):Int)):=λ{p q r s}=>gs (by
  rw[Ka (c:=2) vF xG];rw[show decide ((lo:Int)<=2)=decide (lo<=2) from JV lo 2,show decide ((2:Int)<=(hi:Int))=decide (2<=hi) from JV 2 hi])
 have eq0:∀{p q r s:Sl},ap1 W4 (Zi eqC (zb ixT (vE 0) (cE (.int 2))) (cE (.int 0))) [.vl (mt t lo hi),p,q,r,s]= .ok (.int ((iv (lo == 0):Nat):Int)):=λ{p q r s}=>gs (by
  rw[Z3,vF,bOk,zq,bOk,eqI,bOk,show ((lo:Int) == 0)=(lo == 0) from ww lo 0])
 have eq3:∀{p q r s:Sl},ap1 W4 (Zi eqC (zb ixT (vE 0) (cE (.int 3))) (cE (.int 3))) [.vl (mt t lo hi),p,q,r,s]= .ok (.int ((iv (hi == 3):Nat):Int)):=λ{p q r s}=>gs (by
  rw[Z3,xG,bOk,zq,bOk,eqI,bOk,show ((hi:Int) == 3)=(hi == 3) from ww hi 3])
 have a1:=zG (i:=2) (YA (eq0 (p:=a) (q:= .vl (.int 1)) (r:=x) (s:= .vl (.int (n:Int)))) (J0 h1 v4' le1));have a1:zx 2 (zb zl (ap1 W4 (Zi eqC (zb ixT (vE 0) (cE (.int 2))) (cE (.int 0)))) (zb Z0 (vE 4) (ap1 W4 (chE leC leC (zb ixT (vE 0) (cE (.int 2))) (cE (.int 1)) (zb ixT (vE 0) (cE (.int 3))))))) [.vl (mt t lo hi),a,.vl (.int 1),x,.vl (.int (n:Int))]= .nx [.vl (mt t lo hi),a,.vl (.int ((iv (lo == 0)+n*iv (decide (lo<=1) && decide (1<=hi)):Nat):Int)),x,.vl (.int (n:Int))]:=a1;rw[ze a1];generalize iv (lo == 0)+n*iv (decide (lo<=1) && decide (1<=hi))=m1;have a2:=zG (i:=2) (YA (v2 (t:= .int (m1:Int)) (a:= .vl (mt t lo hi)) (b:=a) (ρ:=[x,.vl (.int (n:Int))])) (J0 h2 (J0 h1 v4' v4') le2));have a2:zx 2 (zb zl (vE 2) (zb Z0 (zb Z0 (vE 4) (vE 4)) (ap1 W4 (chE leC leC (zb ixT (vE 0) (cE (.int 2))) (cE (.int 2)) (zb ixT (vE 0) (cE (.int 3))))))) [.vl (mt t lo hi),a,.vl (.int (m1:Int)),x,.vl (.int (n:Int))]= .nx [.vl (mt t lo hi),a,.vl (.int ((m1+n*n*iv (decide (lo<=2) && decide (2<=hi)):Nat):Int)),x,.vl (.int (n:Int))]:=a2;rw[ze a2];generalize m1+n*n*iv (decide (lo<=2) && decide (2<=hi))=m2;have a3:=zG (i:=2) (YA (v2 (t:= .int (m2:Int)) (a:= .vl (mt t lo hi)) (b:=a) (ρ:=[x,.vl (.int (n:Int))])) (J0 h3 (J0 h2 (J0 h1 v4' v4') v4') eq3));exact a3
theorem YC {cs:List T->R T}{d:Nat}(hd:d+1<=3)(k:Kd)(lo hi:Nat)(h:(Kd.many k lo hi).Ok (d+1))(H:∀k:Kd,k.Ok d->cs [k.t]= .ok (.int (k.all.length:Int))):zg (b_8 (f_3 8) cs (en0 5 [(Kd.many k lo hi).t]))= .ok (.int ((Kd.many k lo hi).all.length:Int)):=by
 obtain⟨h1,h2,h3⟩:=h;have hd0:1<=d:=by
  cases d with
  | zero=>exact h3.elim
  | succ d=>omega
 obtain⟨c3,c2,c1⟩:=xJ (Jh d k h3) hd hd0;rw[jn,xE _ h1 h2];simp only[Kd.t];have hk:=H k h3;generalize k.all.length=n at*;generalize k.t=t at*;have e:zg (b_8 (f_3 8) cs (en0 5 [mt t lo hi]))=zg (b_8 (f_3 8) cs [.vl (mt t lo hi),.un,.un,.un,.un]):=rfl;have e1:zi inC (zb ixT (vE 0) (cE (.int 0))) (zp (z9 (cE (.str "whole")) (z9 (cE (.str "pick")) (zc)))) [.vl (mt t lo hi),.un,.un,.un,.un]= .ok false:=by
  rw[in2];rfl
 have e2:ifE (zi eqC (zb ixT (vE 0) (cE (.int 0))) (cE (.str "row"))) (zC (Zm (zb ixT (vE 0) (cE (.int 1)))) (zo 0) (Z1) (za 1 cs (z9 (vE 0) (zc))) 1 []) (Zp (zc)) [.vl (mt t lo hi),.un,.un,.un,.un]= .ok (.lst []):=by
  unfold ifE;rw[cs0,bOk,show (("many":Str) == "row")=false from rfl,if_neg ao];rfl
 have s1:([.vl (mt t lo hi),.un,.un,.un,.un]:En).set 1 (.vl (.lst []))=[.vl (mt t lo hi),.vl (.lst []),.un,.un,.un]:=rfl;have s2:([.vl (mt t lo hi),.vl (.lst []),.un,.un,.un]:En).set 2 (.vl (.int 1))=[.vl (mt t lo hi),.vl (.lst []),.vl (.int 1),.un,.un]:=rfl;have e3:ju (Zm (vE 1)) (zo 3) (zx 2 (zb Z0 (vE 2) (vE 3))) [.vl (mt t lo hi),.vl (.lst []),.vl (.int 1),.un,.un]= .nx [.vl (mt t lo hi),.vl (.lst []),.vl (.int 1),.un,.un]:=rfl;have e4:zi eqC (zb ixT (vE 0) (cE (.int 0))) (cE (.str "many")) [.vl (mt t lo hi),.vl (.lst []),.vl (.int 1),.un,.un]= .ok true:=by
  rw[cs0];rfl
 have e5:za 1 cs (z9 (zb ixT (vE 0) (cE (.int 1))) (zc)) [.vl (mt t lo hi),.vl (.lst []),.vl (.int 1),.un,.un]= .ok (.int (n:Int)):=by
  rw[zM,ul,bOk,hk]
 have s5:([.vl (mt t lo hi),.vl (.lst []),.vl (.int 1),.un,.un]:En).set 4 (.vl (.int (n:Int)))=[.vl (mt t lo hi),.vl (.lst []),.vl (.int 1),.un,.vl (.int (n:Int))]:=rfl;have e6:=YB (t:=t) (a:= .vl (.lst [])) (x:= .un) (lo:=lo) (hi:=hi) c3 c2 c1;rw[e,b_8,ze (zz e1),ze (zG e2),s1,ze (zG zq),s2,ze e3];have e7:∀(P:En->RS),ifS (zi eqC (zb ixT (vE 0) (cE (.int 0))) (cE (.str "many"))) (zm (zx 4 (za 1 cs (z9 (zb ixT (vE 0) (cE (.int 1))) (zc)))) P) nxS [.vl (mt t lo hi),.vl (.lst []),.vl (.int 1),.un,.un]=P [.vl (mt t lo hi),.vl (.lst []),.vl (.int 1),.un,.vl (.int (n:Int))]:=λP=>by
  rw[uo e4,ze (zG e5),s5]
 rw[ze (Eq.trans (e7 _) e6)];rfl
theorem uq:∀(d n:Nat),d<=n->d<=3->∀k:Kd,k.Ok d->S_8 n 0 [k.t]= .ok (.int (k.all.length:Int))
 | 0,_,_,_,_,h=>h.elim
 | d+1,0,hn,_,_,_=>by omega
 | d+1,n+1,hn,hd,k,h=>by
  have e:S_8 (n+1) 0 [k.t]=zg (b_8 (f_3 8) (S_8 n 0) (en0 5 [k.t])):=rfl;rw[e];have H:∀k:Kd,k.Ok d->S_8 n 0 [k.t]= .ok (.int (k.all.length:Int)):=λk' hk' =>uq d n (by omega) (by omega) k' hk'
  cases k with
  | whole lo hi=>exact WM (.whole lo hi) (Qw d lo hi h) (x:="whole") (r:=[.int lo,.int hi]) (by simp only[Kd.t]) rfl
  | pick cs=>exact WM (.pick cs) (Qx d cs h) (x:="pick") (r:=[.tup (cs.map Zo)]) (by simp only[Kd.t]) rfl
  | row ks=>exact Qy (by omega) ks h H
  | many k lo hi=>exact YC (by omega) k lo hi h H
theorem Ok.mono:∀(d:Nat) (k:Kd),k.Ok d->k.Ok (d+1)
 | 0,_,h=>h.elim
 | d+1,.whole _ _,h=>h
 | d+1,.pick _,h=>h
 | d+1,.row ks,h=>⟨h.1,h.2.1,λk hk=>Ok.mono d k (h.2.2 k hk)⟩
 | d+1,.many k _ _,h=>⟨h.1,h.2.1,Ok.mono d k h.2.2⟩
theorem xK (j:Int):Z0 (.int 700) (.int j)= .ok (.int (700*j)):=Yh _ _ (.inl ⟨by decide,by decide⟩)
theorem Kb (ns:List Int)(d:Nat)(h1:1<=d)(h8:d<=8)(k:Int)(h0:0<=k):∃q:Kd,f_g 8 [scr ns,.int k,.int (d:Int)]= .ok q.t/\q.Ok d:=by
 obtain⟨t,ht,hi⟩:=uf ns d 8 h8 h1 k h0;obtain⟨q,rfl,hq⟩:=wT d t hi;exact⟨q,ht,hq⟩
abbrev smB:En->RS:=zm (ifS (zi leC (za 1 (f_8 8) (z9 (vE 3) (zc))) (vB 2)) (zt (vE 3)) (nxS))
  (zx 3 (za 3 (f_g 8) (z9 (vE 0) (z9 (zb zl (zb zl (vE 1) (cE (.int 500))) (zb Z0 (cE (.int 700)) (vE 4))) (z9 (cE (.int 2)) (zc))))))
abbrev en5 (ns:List Int)(a:Int)(m:Nat)(k:Kd)(x:Sl):En:=[.vl (scr ns),.vl (.int a),.vl (.int (m:Int)),.vl k.t,x]
theorem YD {ns:List Int}{a:Int}{m:Nat}{k:Kd}{x:Sl}(hk:k.Ok 3):zi leC (za 1 (f_8 8) (z9 (vE 3) (zc))) (vB 2) (en5 ns a m k x)= .ok (decide (k.all.length<=m)):=by
 have e:f_8 8 [k.t]= .ok (.int (k.all.length:Int)):=uq 3 8 (by omega) (by omega) k hk
 rw[zj,zM,v3,bOk,e,bOk,w2,bOk,ub,JV]
theorem xL (ns:List Int){a:Int}{m:Nat}(ha:0<=a){k:Kd}(hk:k.Ok 3)(j:Nat):(k.all.length<=m/\smB (en5 ns a m k (.vl (.int (0+(j:Int)))))= .rt k.t)\/∃k' :Kd,k'.Ok 3/\smB (en5 ns a m k (.vl (.int (0+(j:Int)))))= .nx (en5 ns a m k' (.vl (.int (0+(j:Int))))):=by
 by_cases h:k.all.length<=m
 ·refine .inl ⟨h, ?_⟩;unfold smB;refine j5 ?_;rw[uo (by rw[YD hk,decide_eq_true h])]
  exact Zv rfl
 ·obtain⟨q,hq,ho⟩:=Kb ns 2 (by omega) (by omega) (a+500+700*(0+(j:Int))) (by omega)
  refine .inr ⟨q,Ok.mono 2 q ho, ?_⟩;unfold smB;rw[ze (zz (by rw[YD hk,decide_eq_false h]))]
  have hq:f_g 8 [scr ns,.int (a+500+700*(0+(j:Int))),.int 2]= .ok q.t:=hq;have e:za 3 (f_g 8) (z9 (vE 0) (z9 (zb zl (zb zl (vE 1) (cE (.int 500))) (zb Z0 (cE (.int 700)) (vE 4))) (z9 (cE (.int 2)) (zc)))) (en5 ns a m k (.vl (.int (0+(j:Int)))))= .ok q.t:=by
   rw[zD,v0,bOk,zf,zf,v1,bOk,zq,bOk,zJ,bOk,zf,zq,bOk,v4,bOk,xK,bOk,zJ,bOk,zq,bOk,hq]
  rw[zG e];rfl
theorem Kc {g:T->En->R En}{fb:En->RS}{t:T}{ts:List T}{ρ ρ1:En}{r:T}(hg:g t ρ= .ok ρ1)(hb:fb ρ1= .rt r):ZK g fb (t :: ts) ρ= .rt r:=by
 rw[ZK,hg];dsimp only;rw[hb]
theorem YE (ns:List Int){a:Int}{m:Nat}(ha:0<=a):∀(js:List Nat) (k:Kd) (x:Sl),k.Ok 3->(∃k' :Kd,k'.Ok 3/\k'.all.length<=m/\ZK (zo 4) smB (js.map λ(j:Nat)=>T.int (0+(j:Int))) (en5 ns a m k x)= .rt k'.t)\/
  ∃(k' :Kd) (x' :Sl),k'.Ok 3/\ZK (zo 4) smB (js.map λ(j:Nat)=>T.int (0+(j:Int))) (en5 ns a m k x)= .nx (en5 ns a m k' x')
 | [],k,x,hk=> .inr ⟨k,x,hk,rfl⟩
 | j :: js,k,x,hk=>by
  have s3:zo 4 (T.int (0+(j:Int))) (en5 ns a m k x)= .ok (en5 ns a m k (.vl (.int (0+(j:Int))))):=rfl;rw[aB];rcases xL ns ha (m:=m) hk j with ⟨h1,h2⟩ | ⟨k',h1,h2⟩
  ·exact .inl ⟨k,hk,h1,Kc s3 h2⟩
  ·rw[JU s3 h2];exact YE ns ha js k' _ h1
theorem U0 (ns:List Int)(a:Int)(ha:0<=a)(m:Nat)(hm:4<=m):∃k:Kd,k.Ok 3/\k.all.length<=m/\f_u [scr ns,.int a,.int (m:Int)]= .ok k.t:=by
 obtain⟨q,hq,ho⟩:=Kb ns 3 (by omega) (by omega) a ha
 have hq:f_g 8 [scr ns,.int a,.int 3]= .ok q.t:=hq;have e:f_u [scr ns,.int a,.int (m:Int)]=zg (b_u (f_g 8) (f_8 8) [.vl (scr ns),.vl (.int a),.vl (.int (m:Int)),.un,.un]):=rfl;have e1:za 3 (f_g 8) (z9 (vE 0) (z9 (vE 1) (z9 (cE (.int 3)) (zc)))) [.vl (scr ns),.vl (.int a),.vl (.int (m:Int)),.un,.un]= .ok q.t:=by
  rw[zD,v0,bOk,v1,bOk,zq,bOk,hq]
 have s1:([.vl (scr ns),.vl (.int a),.vl (.int (m:Int)),.un,.un]:En).set 3 (.vl q.t)=en5 ns a m q .un:=rfl;rw[e,b_u,ze (zG e1),s1];rcases YE ns ha (m:=m) (aC 3) q .un ho with ⟨k,h1,h2,h3⟩ | ⟨k,x,h1,h3⟩
 ·refine⟨k,h1,h2, ?_⟩;have e2:ju (Zd (cE (.int 3))) (zo 4) smB (en5 ns a m q .un)= .rt k.t:=h3;rw[j5 e2];rfl
 ·have e2:ju (Zd (cE (.int 3))) (zo 4) smB (en5 ns a m q .un)= .nx (en5 ns a m k x):=h3;rw[ze e2];have ec:zi leC (za 1 (f_8 8) (z9 (vE 3) (zc))) (vB 2) (frz (en5 ns a m k x))= .ok (decide (k.all.length<=m)):=YD (x:=wn x) h1
  by_cases h:k.all.length<=m
  ·refine⟨k,h1,h, ?_⟩;rw[Zv (t:=k.t)]
   ·rfl
   ·unfold ifE;rw[ec,bOk,decide_eq_true h,if_pos rfl];rfl
  ·refine⟨.whole (-1) 2,⟨by omega,by omega,by omega⟩,by rw[Zt];exact hm, ?_⟩
   rw[Zv (t:=(Kd.whole (-1) 2).t)]
   ·rfl
   ·unfold ifE;rw[ec,bOk,decide_eq_false h,if_neg ao,Kd.t];rfl
mutual
def Kd.has:Kd->T->Bool
 | .whole lo hi=>λt=>inR lo hi t
 | .pick cs=>λt=>match t with | .str x=>cs.any λc=>c.1 == x | _=>false
 | .row ks=>λt=>match t with | .tup xs=>xs.length == ks.length && Kd.hass ks xs | _=>false
 | .many k lo hi=>λt=>match t with | .tup xs=>decide (lo<=xs.length) && decide (xs.length<=hi) && xs.all k.has | _=>false
def Kd.hass:List Kd->List T->Bool
 | []=>λ_=>true
 | k :: ks=>λxs=>match xs with | []=>true | x :: xs=>k.has x && Kd.hass ks xs
end
theorem U1:∀(ks:List Kd) (xs:List T),Kd.hass ks xs=(ks.zip xs).all λq=>q.1.has q.2
 | [],_=>by simp[Kd.hass]
 | k :: ks,[]=>by simp[Kd.hass]
 | k :: ks,x :: xs=>by simp[Kd.hass,U1 ks xs]
def UE:List (List T)->List T->Prop
 | [],[]=>True
 | l :: ls,x :: xs=>x∈l/\UE ls xs
 | _,_=>False
theorem JW:∀(ls made:List (List T)) (xs:List T),xs∈jZ made ls↔∃a∈made,∃b,UE ls b/\xs=a++b
 | [],made,xs=>by
  rw[jZ];constructor
  ·exact λh=>⟨xs,h,[],trivial,by simp⟩
  ·rintro⟨a,ha,b,hb,rfl⟩
   cases b with
   | nil=>simpa using ha
   | cons=>exact hb.elim
 | l :: ls,made,xs=>by
  rw[jZ,JW ls];constructor
  ·rintro⟨a',ha',b,hb,rfl⟩
   obtain⟨a,ha,hx⟩:=cR.mp ha';obtain⟨x,hl,e⟩:=aw.mp hx;exact⟨a,ha,x :: b,⟨hl,hb⟩,by rw[← e];simp⟩
  ·rintro⟨a,ha,b,hb,rfl⟩
   cases b with
   | nil=>exact hb.elim
   | cons x b=>exact⟨a++[x],cR.mpr ⟨a,ha,aw.mpr ⟨x,hb.1,rfl⟩⟩,b,hb.2,by simp⟩
theorem jL (ls:List (List T))(t:T):t∈WH ls↔∃xs,UE ls xs/\t= .tup xs:=by
 unfold WH;rw[aw];constructor
 ·rintro⟨xs,h,rfl⟩
  obtain⟨a,ha,b,hb,rfl⟩:=(JW ls [[]] xs).mp h;rw[aT.mp ha];exact⟨b,hb,rfl⟩
 ·rintro⟨xs,h,rfl⟩
  exact⟨xs,(JW ls [[]] xs).mpr ⟨[],aT.mpr rfl,xs,h,rfl⟩,rfl⟩
theorem jM (l:List T):∀(m:Nat) (xs:List T),UE (ag m l) xs↔xs.length=m/\∀x∈xs,x∈l
 | 0,[]=>by simp[UE]
 | 0,x :: xs=>by simp[UE]
 | m+1,[]=>by simp[UE,aU]
 | m+1,x :: xs=>by
  rw[aU];show x∈l/\UE _ xs↔_;rw[jM l m xs];simp;constructor
  ·rintro⟨a,b,c⟩;exact⟨b,a,c⟩
  ·rintro⟨a,b,c⟩;exact⟨b,a,c⟩
theorem WN:∀(ks:List Kd),(∀k∈ks,∀x,x∈k.all↔k.has x=true)->∀xs,UE (ks.map Kd.all) xs↔(xs.length == ks.length && Kd.hass ks xs)=true
 | [],_,[]=>by simp[UE,Kd.hass]
 | [],_,x :: xs=>by simp[UE]
 | k :: ks,h,[]=>by simp[UE]
 | k :: ks,h,x :: xs=>by
  show x∈k.all/\UE (ks.map Kd.all) xs↔_;rw[WN ks (λk' hk' =>h k' (ae _ hk')) xs,h k ah x];simp[Kd.hass];constructor
  ·rintro⟨a,b,c⟩;exact⟨b,a,c⟩
  ·rintro⟨a,b,c⟩;exact⟨b,a,c⟩
mutual
theorem Zg:∀(k:Kd) (x:T),x∈k.all↔k.has x=true
 | .whole lo hi,x=>by
  rw[Kd.all,Kd.has,aw];constructor
  ·rintro⟨i,hi',rfl⟩
   rw[ba]at hi';simp[inR];omega
  ·intro h;obtain⟨i,rfl⟩:=jY h;simp[inR]at h;exact⟨(i - lo).toNat,by rw[ba];omega,by congr 1;omega⟩
 | .pick cs,x=>by
  rw[Kd.all,Kd.has,aw];constructor
  ·rintro⟨c,hc,rfl⟩
   simp only[cS];exact⟨c,hc,by simp⟩
  ·intro h;dsimp only at h;split at h
   ·rw[cS]at h;obtain⟨c,hc,e⟩:=h;exact⟨c,hc,by rw[eq_of_beq e]⟩
   ·cases h
 | .row ks,x=>by
  rw[Kd.all,Kd.has,jL,Kd.alls_map];have:=WN ks (U2 ks);constructor
  ·rintro⟨xs,h,rfl⟩
   exact(this xs).mp h
  ·intro h;dsimp only at h;split at h
   ·rename_i xs;exact⟨xs,(this xs).mpr h,rfl⟩
   ·cases h
 | .many k lo hi,x=>by
  rw[Kd.all,Kd.has,cR];constructor
  ·rintro⟨i,hi',h⟩
   rw[jL]at h;obtain⟨xs,h,rfl⟩:=h;rw[jM]at h;rw[ba]at hi';simp only[af,decide_eq_true_eq,aJ];exact⟨⟨by omega,by omega⟩,λy hy=>(Zg k y).mp (h.2 y hy)⟩
  ·intro h;dsimp only at h;split at h
   ·rename_i xs;simp only[af,decide_eq_true_eq,aJ]at h;refine⟨xs.length - lo,by rw[ba];omega, ?_⟩
    rw[jL];exact⟨xs,(jM _ _ _).mpr ⟨by omega,λy hy=>(Zg k y).mpr (h.2 y hy)⟩,rfl⟩
   ·cases h
theorem U2:∀(ks:List Kd),∀k∈ks,∀x,x∈k.all↔k.has x=true
 | [],_,h=>nomatch h
 | k :: ks,k',h=>by
  rcases ax.mp h with e | h
  ·intro x;rw[e];exact Zg k x
  ·exact U2 ks k' h
end
theorem Qz (cs:List (Str×Int))(h:cs.length<=4):f_v [(Kd.pick cs).t]= .ok (.lst (cs.map λc=>T.str c.1)):=by
 have e:f_v [(Kd.pick cs).t]=zg (b_v [.vl (.tup [.str "pick",.tup (cs.map Zo)])]):=by rw[Kd.t];rfl
 have hb:(cs.map Zo).length<=bnd:=by rw[ac];exact aq h (by decide)
 have ec:zF (zo 0) Z1 (zb ixT (vE 0) (cE (.int 0))) 1 [] [.vl (.tup [.str "pick",.tup (cs.map Zo)])] (cs.map Zo)= .ok ((cs.map Zo).map λc=>match c with | .tup (w :: _)=>w | _=>c):=
  Z2 _ hb λt ht=>by
   obtain⟨c,_,rfl⟩:=aw.mp ht;rfl
 rw[e,b_v,Zv (t:= .lst (cs.map λc=>T.str c.1))]
 ·rfl
 ·show zC _ _ _ _ _ _ [.vl (.tup [.str "pick",.tup (cs.map Zo)])]=_;rw[zE,Zs,ul,bOk];show ((zF _ _ _ _ _ _ (cs.map Zo)).bind _)=_;rw[ec,bOk,aQ];rfl
abbrev en2 (a b:T):En:=[.vl a,.vl b]
theorem YF (k:Kd):∀xs:List T,((ag xs.length k).zip xs).all (λq=>q.1.has q.2)=xs.all k.has
 | []=>rfl
 | x :: xs=>by
  rw[al,aU,List.zip_cons_cons,bc,bc,YF k xs]
theorem WO:∀(d:Nat) (k:Kd),k.Ok d->isK d k.t=true
 | 0,_,h=>h.elim
 | d+1,.whole lo hi,h=>by
  have e:isK (d+1) (Kd.whole lo hi).t=(decide (-20<=lo) && decide (lo<=hi) && decide (hi<=20)):=by rw[Kd.t];rfl
  obtain⟨h1,h2,h3⟩:=h;rw[e];simp;omega
 | d+1,.pick cs,h=>by
  have e:isK (d+1) (Kd.pick cs).t=(decide (1<=(cs.map Zo).length) && decide ((cs.map Zo).length<=4) && (cs.map Zo).all zk && decide ((dd [] ((cs.map Zo).map zR)).length=(cs.map Zo).length)):=by rw[Kd.t];rfl
  obtain⟨h1,h2,h3,h4⟩:=h;have e1:(cs.map Zo).map zR=cs.map (·.1):=by rw[aQ];rfl
  have e2:=(JN (cs.map (·.1)) []).mpr λk w hw=>by simpa using h4 k w hw
  rw[e,e1,e2,ac,ac];simp only[af,decide_eq_true_eq,aJ];refine⟨⟨⟨h1,h2⟩,λc hc=> ?_⟩,by simp⟩
  obtain⟨p,hp,rfl⟩:=aw.mp hc;obtain⟨a,b,c⟩:=h3 p hp;show (zQ (.str p.1) && decide (1<=p.2) && decide (p.2<=20))=true;rw[a];simp;omega
 | d+1,.row ks,h=>by
  have e:isK (d+1) (Kd.row ks).t=(decide (1<=(ks.map Kd.t).length) && decide ((ks.map Kd.t).length<=3) && (ks.map Kd.t).all (isK d)):=by rw[Kd.t,Kd.ts_map];rfl
  obtain⟨h1,h2,h3⟩:=h;rw[e,ac];simp only[af,decide_eq_true_eq,aJ];refine⟨⟨h1,h2⟩,λc hc=> ?_⟩;obtain⟨k,hk,rfl⟩:=aw.mp hc;exact WO d k (h3 k hk)
 | d+1,.many k lo hi,h=>by
  have e:isK (d+1) (Kd.many k lo hi).t=((decide ((0:Int)<=(lo:Int)) && decide ((lo:Int)<=(hi:Int)) && decide ((hi:Int)<=3)) && isK d k.t):=by rw[Kd.t];rfl
  obtain⟨h1,h2,h3⟩:=h;rw[e,WO d k h3];simp;omega
theorem wW:∀(ks:List Kd) (xs:List T),xs.length=ks.length->Kd.hass ks xs=true->∀x∈xs,∃k∈ks,k.has x=true
 | [],[],_,_,_,h=>nomatch h
 | k :: ks,[],h,_,_,_=>by cases h
 | [],x :: xs,h,_,_,_=>by cases h
 | k :: ks,x :: xs,hl,h,y,hy=>by
  rw[Kd.hass]at h;have h:(k.has x && Kd.hass ks xs)=true:=h;rw[af]at h;rcases ax.mp hy with rfl | hy
  ·exact⟨k,ah,h.1⟩
  ·obtain⟨k',hk,hh⟩:=wW ks xs (by simpa using hl) h.2 y hy
   exact⟨k',ae _ hk,hh⟩
theorem Ji (t:T)(ht:sOk t):f_l [t]=if isK 3 t=true then .ok .non else .ex 0:=by
 have e:f_l [t]=zg (b_l f_1 [.vl t]):=rfl;have ec:jO (ZI (za 1 f_1 (z9 (vE 0) (zc)))) [.vl t]= .ok (!isK 3 t):=by
  rw[JK,jb,zM,v0,bOk,wt t ht,bOk,Zn,bOk]
 rw[e,b_l,Zr,ec,Z9];cases isK 3 t <;> rfl
theorem vH {α:Type}{xs:List α}{i:Nat}(h:i < xs.length):∃x,xs[i]? =some x:=⟨_,ad h⟩
theorem vI {xs:List T}{j:Nat}{v:T}(h:xs[j]? =some v):atT xs (j:Int)= .ok v:=by unfold atT;rw[ZL h]
def shr (c lo q:Nat):Nat:=((aC q).map λi=>c ^ (lo+i)).sum
theorem Ke (c lo hi:Nat):pw c lo hi=shr c lo (hi+1 - lo):=rfl
abbrev cpB (c:List T->R T):En->RS:=zx 1 (zb Z0 (vE 1) (za 1 c (z9 (vE 2) (zc))))
theorem YG {c:List T->R T}{S:Sl}:∀(ks:List Kd) (m:Nat) (x:Sl),(∀k∈ks,c [k.t]= .ok (.int (k.all.length:Int))/\1<=k.all.length)->m*prd (ks.map λk=>k.all.length) < 2 ^ 60->
  ∃y,ZK (zo 2) (cpB c) (ks.map Kd.t) [S,.vl (.int (m:Int)),x]= .nx [S,.vl (.int ((m*prd (ks.map λk=>k.all.length):Nat):Int)),y]
 | [],m,x,_,_=>⟨x,by simp[ZK,prd]⟩
 | k :: ks,m,x,H,hb=>by
  obtain⟨hc,h1⟩:=H k ah;have hp:1<=prd (ks.map λk=>k.all.length):=JS λn hn=>by
   obtain⟨k',hk',rfl⟩:=aw.mp hn;exact(H k' (ae _ hk')).2
  rw[aB,prd,← c_]at hb;have hm:m < 2 ^ 60:=by
   have h2:m<=m*k.all.length:=cx _ h1;have h3:m*k.all.length<=m*k.all.length*prd (ks.map λk=>k.all.length):=cx _ hp;omega
  have eb:cpB c [S,.vl (.int (m:Int)),.vl k.t]= .nx [S,.vl (.int ((m*k.all.length:Nat):Int)),.vl k.t]:=by
   rw[cpB,zG (t:= .int ((m*k.all.length:Nat):Int))]
   ·rfl
   ·rw[zf,v1,bOk,zM,v2,bOk,hc,bOk,Yz hm]
  obtain⟨y,ih⟩:=YG (c:=c) (S:=S) ks (m*k.all.length) (.vl k.t) (λk' hk' =>H k' (ae _ hk')) hb;refine⟨y, ?_⟩;rw[aB,JU (ρ1:=[S,.vl (.int (m:Int)),.vl k.t]) rfl eb,ih,aB,prd,c_]
theorem WP {c:List T->R T}{s:T}(ks:List Kd)(hs:jJ s= .ok (ks.map Kd.t))(H:∀k∈ks,c [k.t]= .ok (.int (k.all.length:Int))/\1<=k.all.length)(hb:prd (ks.map λk=>k.all.length) < 2 ^ 60):
  zg (b_n c (en0 3 [s]))= .ok (.int ((prd (ks.map λk=>k.all.length):Nat):Int)):=by
 obtain⟨y,e⟩:=YG (c:=c) (S:= .vl s) ks 1 .un H (by rw[cB];exact hb)
 rw[cB]at e;have e0:zx 1 (cE (.int 1)) [.vl s,.un,.un]= .nx [.vl s,.vl (.int 1),.un]:=rfl;have e1:ju (Zm (vE 0)) (zo 2) (cpB c) [.vl s,.vl (.int 1),.un]= .nx [.vl s,.vl (.int ((prd (ks.map λk=>k.all.length):Nat):Int)),y]:=by
  show ((jJ s).s λts=>ZK (zo 2) (cpB c) ts [.vl s,.vl (.int 1),.un])=_;rw[hs,Z9];exact e
 show zg (b_n c [.vl s,.un,.un])=_;rw[b_n,ze e0,ze e1];rfl
theorem YH {α:Type}(g:α->Nat):∀l:List α,Jc (l.map λa=>T.int ((g a:Nat):Int))=some (l.map λa=>((g a:Nat):Int))
 | []=>rfl
 | a :: l=>by
  show (match Jc (l.map λa=>T.int ((g a:Nat):Int)) with | some l=>some (_ :: l) | none=>none)=_
  rw[YH g l];rfl
theorem U3 {α:Type}(g:α->Nat):∀l:List α,(l.map λa=>((g a:Nat):Int)).sum=(((l.map g).sum:Nat):Int)
 | []=>rfl
 | a :: l=>by rw[aB,cY,aB,cY,U3 g l];omega
theorem Kf {α:Type}(g:α->Nat)(l:List α):KY (.lst (l.map λa=>T.int ((g a:Nat):Int)))= .ok (.int (((l.map g).sum:Nat):Int)):=by
 unfold KY;dsimp only;rw[YH,← U3]
theorem JC (k:Kd)(m:Nat):((ag m k).map λk=>k.all.length)=ag m k.all.length:=by rw[bH]
theorem xM {c:List T->R T}{t:T}{n lo hi q:Nat}(h4:lo+q<=4)(H:∀m,m<=3->c [.lst (ag m t)]= .ok (.int ((n ^ m:Nat):Int))):
  zg (X7 c (en0 2 [mt t lo hi,.int ((lo+q:Nat):Int)]))= .ok (.int ((shr n lo q:Nat):Int)):=by
 show zg (X7 c [.vl (mt t lo hi),.vl (.int ((lo+q:Nat):Int))])=_;have er:Jm (zb ixT (vE 0) (cE (.int 2))) (vE 1) [.vl (mt t lo hi),.vl (.int ((lo+q:Nat):Int))]= .ok (rng (lo:Int) q):=by
  rw[um (i:=(lo:Int)) (j:=((lo+q:Nat):Int)) rfl rfl ⟨by omega,by omega,by omega,by omega⟩]
  congr 2;omega
 have ec:zF (zo 0) Z1 (za 1 c (z9 (zb Z0 (Zp (z9 (zb ixT (vE 1) (cE (.int 1))) (zc))) (vE 0)) (zc))) 1 [0] [.vl (mt t lo hi),.vl (.int ((lo+q:Nat):Int))] (rng (lo:Int) q)= .ok ((rng (lo:Int) q).map λx=>match x with | .int i=>T.int ((n ^ i.toNat:Nat):Int) | y=>y):=
  Z2 _ (by unfold rng;rw[ac,a_];have:bnd=16777216:=rfl;omega) λx hx=>by
   unfold rng at hx;obtain⟨i,hi',rfl⟩:=aw.mp hx;have hi2:=ba.mp hi';show za 1 c _ [.vl (.int ((lo:Int)+(i:Int))),.vl (mt t lo hi)]=_;have e1:zb Z0 (Zp (z9 (zb ixT (vE 1) (cE (.int 1))) (zc))) (vE 0) [.vl (.int ((lo:Int)+(i:Int))),.vl (mt t lo hi)]= .ok (.lst (ag (lo+i) t)):=by
    have e0:zb ixT (vE 1) (cE (.int 1)) [.vl (.int ((lo:Int)+(i:Int))),.vl (mt t lo hi)]= .ok t:=rfl;rw[zf,lst1 e0,bOk,v0,bOk,show (lo:Int)+(i:Int)=((lo+i:Nat):Int) by omega,vG (by omega),Jw]
   rw[zM,e1,bOk,H (lo+i) (by omega)]
   show _=R.ok (T.int ((n ^ ((lo:Int)+(i:Int)).toNat:Nat):Int));rw[show ((lo:Int)+(i:Int)).toNat=lo+i by omega]
 rw[X7,Zv (t:= .int ((shr n lo q:Nat):Int))]
 ·rfl
 ·show ap1 _ _ [.vl (mt t lo hi),.vl (.int ((lo+q:Nat):Int))]=_;rw[zY,zE,er,bOk,ec,bOk,bOk];have e2:((rng (lo:Int) q).map λx=>match x with | .int i=>T.int ((n ^ i.toNat:Nat):Int) | y=>y)=(aC q).map λi=>T.int ((n ^ (lo+i):Nat):Int):=by
   unfold rng;rw[aQ];refine bN λi _=> ?_;show T.int ((n ^ ((lo:Int)+(i:Int)).toNat:Nat):Int)=_;rw[show ((lo:Int)+(i:Int)).toNat=lo+i by omega]
  rw[e2,Kf (λi=>n ^ (lo+i))];rfl
theorem Kg {d n m:Nat}(h:n<=mx d)(hd:d<=2)(hm:m<=3):n ^ m < 2 ^ 60:=by
 have h2:mx d<=70644:=by
  have:d=0\/d=1\/d=2:=by omega
  rcases this with rfl | rfl | rfl <;> decide
 have h3:n ^ m<=70644 ^ 3:=aq (Nat.pow_le_pow_left (aq h h2) m) (fO (by omega) hm)
 have:70644 ^ 3 < 2 ^ 60:=by decide
 omega
theorem YI:∀(d n:Nat),3*d<=n->d<=3->∀k:Kd,k.Ok d->S_4 n 0 [k.t]= .ok (.int (k.all.length:Int))
 | 0,_,_,_,_,h=>h.elim
 | d+1,n+3,hn,hd,k,h=>by
  have ih:=YI d n (by omega) (by omega)
  have ih1:=YI d (n+1) (by omega) (by omega)
  have e:S_4 (n+3) 0 [k.t]=zg (b_4 (S_4 (n+2) 1) (S_4 (n+2) 2) [.vl k.t]):=rfl;have e1:∀s,S_4 (n+2) 1 [s]=zg (b_n (S_4 (n+1) 0) (en0 3 [s])):=λs=>rfl;have e1' :∀s,S_4 (n+1) 1 [s]=zg (b_n (S_4 n 0) (en0 3 [s])):=λs=>rfl;have e2:∀s u,S_4 (n+2) 2 [s,u]=zg (X7 (S_4 (n+1) 1) (en0 2 [s,u])):=λs u=>rfl;rw[e,b_4];cases k with
  | whole lo hi=>
   obtain⟨h1,h2,h3⟩:=h;rw[Zt];simp only[Kd.t];rw[j5 (t:= .int ((hi+1 - lo).toNat:Int))]
   ·rfl
   ·rw[uo (by rw[cs0,beq_self_eq_true]),Zv]
    show R.ok (T.int (hi - lo+1))=_;congr 2;omega
  | pick cs=>
   rw[wV];simp only[Kd.t];rw[ze (zz (by rw[cs0];rfl)),j5 (t:= .int (cs.length:Int))]
   ·rfl
   ·rw[uo (by rw[cs0,beq_self_eq_true]),Zv]
    show R.ok (T.int ((cs.map Zo).length:Int))=_;rw[ac]
  | row ks=>
   obtain⟨h1,h2,h3⟩:=h;rw[j0];simp only[Kd.t];rw[Kd.ts_map,ze (zz (by rw[cs0];rfl)),ze (zz (by rw[cs0];rfl)),j5 (t:= .int ((prd (ks.map λk=>k.all.length):Nat):Int))]
   ·rfl
   ·rw[uo (by rw[cs0,beq_self_eq_true]),Zv]
    show za 1 _ _ [.vl (.tup [.str "row",.tup (ks.map Kd.t)])]=_;rw[zM,ul,bOk,e1];have hl:=Jh (d+1) (.row ks) ⟨h1,h2,h3⟩;rw[j0]at hl;exact WP ks rfl (λk hk=>⟨ih1 k (h3 k hk),ZF d k (h3 k hk)⟩) (K9 hl hd)
  | many k lo hi=>
   obtain⟨h1,h2,h3⟩:=h;rw[jn,Ke];simp only[Kd.t];rw[ze (zz (by rw[cs0];rfl)),ze (zz (by rw[cs0];rfl)),ze (zz (by rw[cs0];rfl)),Zv (t:= .int ((shr k.all.length lo (hi+1 - lo):Nat):Int))]
   ·rfl
   ·show za 2 _ _ [.vl (mt k.t lo hi)]=_;rw[Zq,v0,bOk,xH xG,bOk,e2,show (hi:Int)+1=((lo+(hi+1 - lo):Nat):Int) by omega]
    refine xM (by omega) λm hm=> ?_
    have hp:prd ((ag m k).map λk=>k.all.length)=k.all.length ^ m:=by rw[JC,JT]
    rw[e1',← hp];have hd1:1<=d:=by
     cases d with
     | zero=>exact h3.elim
     | succ d=>omega
    refine WP (ag m k) (by rw[bH];rfl) (λk' hk' => ?_) (by rw[hp];exact Kg (Jh d k h3) (by omega) hm)
    rw[bF hk'];exact⟨ih k h3,ZF d k h3⟩
theorem Jq {d:Nat}(hd:d<=3){k:Kd}(h:k.Ok d):f_4 20 [k.t]= .ok (.int (k.all.length:Int)):=YI d 20 (by omega) hd k h
def Pl:Nat->T->Prop
 | 0,_=>False
 | n+1,.tup xs=>∀x∈xs,Pl n x
 | n+1,.lst xs=>∀x∈xs,Pl n x
 | _+1,.fz _=>False
 | _+1,_=>True
theorem Jx {f:T->T->Option Bool}:∀(xs ys:List T),(∀x∈xs,∀y,∃b,f x y=some b)->∃b,eqL f xs ys=some b
 | [],[],_=>⟨_,rfl⟩
 | [],_ :: _,_=>⟨_,rfl⟩
 | _ :: _,[],_=>⟨_,rfl⟩
 | x :: xs,y :: ys,h=>by
  obtain⟨b,hb⟩:=h x ah y;obtain⟨c,hc⟩:=Jx xs ys λz hz=>h z (ae _ hz);exact⟨b && c,by unfold eqL;rw[hb,hc]⟩
theorem Zz {f:T->T->Option Bool}:∀(xs:List T),(∀x∈xs,f x x=some true)->eqL f xs xs=some true
 | [],_=>rfl
 | x :: xs,h=>by
  unfold eqL;rw[h x ah,Zz xs λz hz=>h z (ae _ hz)];rfl
theorem Jy:∀(n:Nat) (y x:T),Pl n y->∃b,eqF n y x=some b
 | 0,_,_,h=>h.elim
 | n+1,y,x,h=>by
  cases y with
  | tup xs=>
   have h:∀x∈xs,Pl n x:=h;cases x with
   | tup ys=>rw[eqF];exact Jx xs ys λz hz u=>Jy n z u (h z hz)
   | _=>exact⟨false,by rw[eqF] <;> intros <;> first | rfl | contradiction | (intro z;cases z)⟩
  | lst xs=>
   have h:∀x∈xs,Pl n x:=h;cases x with
   | lst ys=>rw[eqF];exact Jx xs ys λz hz u=>Jy n z u (h z hz)
   | fz ys=>rw[eqF];exact Jx xs ys λz hz u=>Jy n z u (h z hz)
   | _=>exact⟨false,by rw[eqF] <;> intros <;> first | rfl | contradiction | (intro z;cases z)⟩
  | fz xs=>exact h.elim
  | non=>cases x <;> exact⟨_,rfl⟩
  | bl b=>cases x <;> exact⟨_,rfl⟩
  | int i=>cases x <;> exact⟨_,rfl⟩
  | str i=>cases x <;> exact⟨_,rfl⟩
theorem Zk:∀(n:Nat) (y:T),Pl n y->eqF n y y=some true
 | 0,_,h=>h.elim
 | n+1,y,h=>by
  cases y with
  | tup xs=>rw[eqF];exact Zz xs λz hz=>Zk n z ((show ∀x∈xs,Pl n x from h) z hz)
  | lst xs=>rw[eqF];exact Zz xs λz hz=>Zk n z ((show ∀x∈xs,Pl n x from h) z hz)
  | fz xs=>exact h.elim
  | non=>rfl
  | bl b=>show some (b == b)=_;simp
  | int i=>show some (i == i)=_;simp
  | str i=>show some (i == i)=_;simp
theorem Pl.up:∀(n:Nat) (y:T),Pl n y->Pl (n+1) y
 | 0,_,h=>h.elim
 | n+1,y,h=>by
  cases y with
  | tup xs=>exact λz hz=>Pl.up n z ((show ∀x∈xs,Pl n x from h) z hz)
  | lst xs=>exact λz hz=>Pl.up n z ((show ∀x∈xs,Pl n x from h) z hz)
  | fz xs=>exact h.elim
  | _=>exact trivial
theorem Pl.le {n m:Nat}{y:T}(hm:n<=m)(h:Pl n y):Pl m y:=by
 obtain⟨j,rfl⟩:∃j,m=n+j:=⟨m - n,by omega⟩
 clear hm
 induction j with
 | zero=>exact h
 | succ j ih=>exact Pl.up _ _ ih
theorem xN:∀(d:Nat) (k:Kd) (x:T),k.Ok d->k.has x=true->Pl d x
 | 0,_,_,h,_=>h.elim
 | d+1,.whole lo hi,x,h,hx=>by
  rw[Kd.has]at hx;obtain⟨i,rfl⟩:=jY hx;trivial
 | d+1,.pick cs,x,h,hx=>by
  rw[Kd.has]at hx;dsimp only at hx;split at hx
  ·trivial
  ·cases hx
 | d+1,.row ks,x,h,hx=>by
  rw[Kd.has]at hx;dsimp only at hx;split at hx
  ·rename_i xs;rw[af,beq_iff_eq]at hx;intro y hy;obtain⟨k,hk,hh⟩:=wW ks xs hx.1 hx.2 y hy;exact xN d k y (h.2.2 k hk) hh
  ·cases hx
 | d+1,.many k lo hi,x,h,hx=>by
  rw[Kd.has]at hx;dsimp only at hx;split at hx
  ·rename_i xs;rw[af,aJ]at hx;exact λy hy=>xN d k y h.2.2 (hx.2 y hy)
  ·cases hx
theorem wX {t:T}(h:Pl 30 t):neC t t= .ok false:=by unfold neC;rw[Zk 30 t h];rfl
theorem ur {k:Kd}(hk:k.Ok 3):f_l [k.t]= .ok .non:=by
 have hi:=WO 3 k hk;rw[Ji _ (jK 3 _ hi).so,if_pos hi]
theorem ut {f:En->R T}{ρ:En}{t:T}(h:f ρ= .ok t):u4 f ρ= .nx ρ:=by unfold u4;rw[h,Z9]
theorem YJ {f:En->R T}{ρ:En}{c:Nat}(h:f ρ= .ex c):u4 f ρ= .ex c:=by unfold u4;rw[h];rfl
theorem xO {t:T}(ht:sOk t)(hi:isK 3 t=false):f_l [t]= .ex 0:=by
 rw[Ji _ ht,hi];rfl
theorem YK {f:En->R T}{ρ:En}{j:Int}(hf:f ρ= .ok (.int j))(h: -1000000 < j/\j < 1000000):Zd f ρ= .ok (rng 0 j.toNat):=by
 unfold Zd;rw[hf,bOk];exact if_pos h
theorem z05 {i j:Int}:gtC (.int i) (.int j)= .ok (decide (j < i)):=rfl
abbrev en6 (w t x:T)(a:T):En:=[.vl w,.vl t,.vl x,.vl .non,.vl a,.un]
theorem z06:f_9 0= .ok (.str "no kind"):=by rfl
theorem vJ {i:Nat}{f:En->R T}{ρ:En}{c:Nat}(h:f ρ= .ex c):zx i f ρ= .ex c:=by rw[ZE,h];rfl
theorem set4 {w t x v:T}{f:En->R T}(h:f (en6 w t x .non)= .ok v):zx 4 f (en6 w t x .non)= .nx (en6 w t x v):=by rw[zG h];rfl
theorem QA {g:En->R Bool}{f f' :En->R T}{ρ:En}(h:g ρ= .ok true):ifE g f f' ρ=f ρ:=by unfold ifE;rw[h];rfl
theorem QB {g:En->R Bool}{f f' :En->R T}{ρ:En}(h:g ρ= .ok false):ifE g f f' ρ=f' ρ:=by unfold ifE;rw[h];rfl
theorem YL {ws:List Str}(h:Dst ws){i j:Nat}{w:Str}(hi:ws[i]? =some w)(hj:ws[j]? =some w):i=j:=by
 rcases Nat.lt_trichotomy i j with z | z | z
 ·exact absurd (bx (show (ws.take j)[i]? =some w by rw[h_,if_pos z];exact hi)) (h j w hj)
 ·exact z
 ·exact absurd (bx (show (ws.take i)[j]? =some w by rw[h_,if_pos z];exact hj)) (h i w hi)
theorem QC {ws:List Str}(h:Dst ws):(ws.map T.str).Pairwise (λa b=>a ≠ b):=by
 rw[cj,br];intro i j hi hj hij e;have e:ws[i]=ws[j]:=by injection e
 have:=YL h (i:=i) (j:=j) (w:=ws[j]) (by rw[ad hi,e]) (ad hj)
 omega
theorem YM (cs:List (Str×Int)):(Kd.pick cs).all=(cs.map (·.1)).map T.str:=by rw[Kd.all,aQ];rfl
theorem U4:∀(ls made:List (List T)) (m:Nat),(∀l∈ls,l.Pairwise (λa b=>a ≠ b))->made.Pairwise (λa b=>a ≠ b)->(∀a∈made,a.length=m)->(jZ made ls).Pairwise (λa b=>a ≠ b)
 | [],made,m,_,h,_=>by rw[jZ];exact h
 | l :: ls,made,m,hl,h,hm=>by
  rw[jZ];refine U4 ls _ (m+1) (λq hq=>hl q (ae _ hq)) ?_ ?_
  ·rw[fJ];refine⟨λa ha=> ?_,eU (λ{a b} ha hb hab=> ?_) h⟩
   ·rw[cj];exact dD (λhxy e=>hxy (by have:=cz e;injection this)) (hl l ah)
   ·intro x hx y hy e;obtain⟨u,_,rfl⟩:=aw.mp hx;obtain⟨v,_,rfl⟩:=aw.mp hy;exact hab (List.append_inj e (by rw[hm a ha,hm b hb])).1
  ·intro a ha;obtain⟨b,hb,hx⟩:=cR.mp ha;obtain⟨u,_,rfl⟩:=aw.mp hx;rw[aA,hm b hb];rfl
theorem YN {ls:List (List T)}(h:∀l∈ls,l.Pairwise (λa b=>a ≠ b)):(WH ls).Pairwise (λa b=>a ≠ b):=by
 unfold WH;rw[cj];refine dD (λhab e=>hab (by injection e)) (U4 ls [[]] 0 h (by simp) (by simp))
theorem Jj:∀(d:Nat) (k:Kd),k.Ok d->k.all.Pairwise (λa b=>a ≠ b)
 | 0,_,h=>h.elim
 | d+1,.whole lo hi,h=>by
  rw[Kd.all,cj];exact dD (λ{i j} hab e=>hab (by injection e with e;omega)) (fj (n:=(hi+1 - lo).toNat))
 | d+1,.pick cs,h=>by rw[YM];exact QC h.2.2.2
 | d+1,.row ks,h=>by
  rw[Kd.all,Kd.alls_map];refine YN λl hl=> ?_;obtain⟨k,hk,rfl⟩:=aw.mp hl;exact Jj d k (h.2.2 k hk)
 | d+1,.many k lo hi,h=>by
  rw[Kd.all,fJ];refine⟨λi hi=>YN λl hl=> ?_,dD (λ{i j} hij=> ?_) (fj (n:=hi+1 - lo))⟩
  ·obtain rfl:=(List.mem_replicate.mp hl).2;exact Jj d k h.2.2
  ·intro x hx y hy e;obtain⟨xs,h1,rfl⟩:=(jL _ _).mp hx;obtain⟨ys,h2,rfl⟩:=(jL _ _).mp hy;have e:xs=ys:=by injection e
   subst e;have a:=((jM _ _ _).mp h1).1;have b:=((jM _ _ _).mp h2).1;omega
theorem xP {α:Type}:∀(l m:List α),l.Pairwise (λa b=>a ≠ b)->(∀x∈l,x∈m)->l.length<=m.length
 | [],_,_,_=>bT _
 | x :: l,m,h,hs=>by
  obtain⟨a,b,rfl⟩:=List.append_of_mem (hs x ah);have h' :=i4.mp h;have:=xP l (a++b) h'.2 λy hy=>by
   have hy' :=hs y (ae _ hy);rw[bV,ax]at hy';rw[bV];rcases hy' with z | z | z
   ·exact .inl z
   ·exact absurd z.symm (h'.1 y hy)
   ·exact .inr z
  simp at this ⊢;omega
theorem z07 {α:Type}:∀(l m:List α),l.Pairwise (λa b=>a ≠ b)->m.Pairwise (λa b=>a ≠ b)->(∀x∈l,x∈m)->l.length=m.length->∀x∈m,x∈l:=λl m h hm hs e x hx=>by
 refine Classical.byContradiction λhn=> ?_;have:=xP (x :: l) m (i4.mpr ⟨λy hy z=>hn (z ▸ hy),h⟩) λy hy=>by
  rcases ax.mp hy with rfl | hy
  ·exact hx
  ·exact hs y hy
 simp at this;omega
theorem xQ {k l:Kd}{d:Nat}(hk:k.Ok d)(hl:l.Ok d)(h:∀x,k.has x=true->l.has x=true):k.all.length<=l.all.length/\(k.all.length=l.all.length->∀x,l.has x=true->k.has x=true):=by
 have hs:∀x∈k.all,x∈l.all:=λx hx=>(Zg l x).mpr (h x ((Zg k x).mp hx));exact⟨xP _ _ (Jj d k hk) hs,λe x hx=>(Zg k x).mp (z07 _ _ (Jj d k hk) (Jj d l hl) hs e x ((Zg l x).mpr hx))⟩
abbrev Cm (k l:Kd)(d:Nat)(r:R T):Prop:=(∃c:Kd,r= .ok c.t/\c.Ok d/\∀x,c.has x=(k.has x && l.has x))\/(r= .ok .non/\∀x,(k.has x && l.has x)=false)
theorem QD {f g:En->R T}{ρ:En}{i j:Int}(hf:f ρ= .ok (.int i))(hg:g ρ= .ok (.int j)):zb Jn f g ρ= .ok (.int (max i j)):=by
 rw[zf,hf,bOk,hg,bOk];show R.ok (T.int (if j > i then j else i))=_
 congr 2;split <;> omega
theorem YO {f g:En->R T}{ρ:En}{i j:Int}(hf:f ρ= .ok (.int i))(hg:g ρ= .ok (.int j)):zb ZY f g ρ= .ok (.int (min i j)):=by
 rw[zf,hf,bOk,hg,bOk];show R.ok (T.int (if j < i then j else i))=_
 congr 2;split <;> omega
theorem jx1 {x a b:T}{r:List T}{ρ:En}:zb ixT (vE 1) (cE (.int 1)) (.vl x :: .vl (.tup (a :: b :: r)) :: ρ)= .ok b:=by rw[zf,v1,bOk,zq,bOk,at1]
theorem jx2 {x a b c:T}{r:List T}{ρ:En}:zb ixT (vE 1) (cE (.int 2)) (.vl x :: .vl (.tup (a :: b :: c :: r)) :: ρ)= .ok c:=by rw[zf,v1,bOk,zq,bOk,at2]
theorem jx3 {x a b c d:T}{r:List T}{ρ:En}:zb ixT (vE 1) (cE (.int 3)) (.vl x :: .vl (.tup (a :: b :: c :: d :: r)) :: ρ)= .ok d:=by rw[zf,v1,bOk,zq,bOk,at3]
theorem YQ {d:Nat}(a b c e:Int)(h1:(Kd.whole a b).Ok (d+1))(h2:(Kd.whole c e).Ok (d+1)):Cm (.whole a b) (.whole c e) (d+1) (kT [(Kd.whole a b).t,(Kd.whole c e).t]):=by
 have ex:kT [(Kd.whole a b).t,(Kd.whole c e).t]=if max a c<=min b e then .ok (.tup [.str "whole",.int (max a c),.int (min b e)]) else .ok .non:=by
  show zg (gj [.vl (Kd.whole a b).t,.vl (Kd.whole c e).t,.un,.un])=_;unfold gj;have e1:zx 2 (zb Jn (zb ixT (vE 0) (cE (.int 1))) (zb ixT (vE 1) (cE (.int 1)))) [.vl (Kd.whole a b).t,.vl (Kd.whole c e).t,.un,.un]= .nx [.vl (Kd.whole a b).t,.vl (Kd.whole c e).t,.vl (.int (max a c)),.un]:=by
   rw[zG (t:= .int (max a c))]
   ·rfl
   ·exact QD (by rw[Kd.t];exact ul) (by rw[Kd.t,Kd.t];exact jx1)
  have e2:zx 3 (zb ZY (zb ixT (vE 0) (cE (.int 2))) (zb ixT (vE 1) (cE (.int 2)))) [.vl (Kd.whole a b).t,.vl (Kd.whole c e).t,.vl (.int (max a c)),.un]= .nx [.vl (Kd.whole a b).t,.vl (Kd.whole c e).t,.vl (.int (max a c)),.vl (.int (min b e))]:=by
   rw[zG (t:= .int (min b e))]
   ·rfl
   ·exact YO (by rw[Kd.t];exact vF) (by rw[Kd.t,Kd.t];exact jx2)
  rw[ze e1,ze e2];have et:zi leC (vB 2) (vB 3) [.vl (Kd.whole a b).t,.vl (Kd.whole c e).t,.vl (.int (max a c)),.vl (.int (min b e))]= .ok (decide (max a c<=min b e)):=rfl
  by_cases h:max a c<=min b e
  ·rw[if_pos h,Zv (t:= .tup [.str "whole",.int (max a c),.int (min b e)]) (by show ifE _ _ _ [.vl (Kd.whole a b).t,.vl (Kd.whole c e).t,.vl (.int (max a c)),.vl (.int (min b e))]=_;rw[QA (by rw[et,decide_eq_true h])];exact K0 rfl rfl rfl)];rfl
  ·rw[if_neg h,Zv (t:= .non) (by show ifE _ _ _ [.vl (Kd.whole a b).t,.vl (Kd.whole c e).t,.vl (.int (max a c)),.vl (.int (min b e))]=_;rw[QB (by rw[et,decide_eq_false h])];rfl)];rfl
 have hh:∀x,((Kd.whole a b).has x && (Kd.whole c e).has x)=inR (max a c) (min b e) x:=λx=>by
  rw[Kd.has,Kd.has];cases x with
  | int i=>
   show ((decide (a<=i) && decide (i<=b)) && (decide (c<=i) && decide (i<=e)))=(decide (max a c<=i) && decide (i<=min b e));rw[dh];simp only[af,decide_eq_true_eq];omega
  | _=>rfl
 rw[ex]
 by_cases h:max a c<=min b e
 ·rw[if_pos h];refine .inl ⟨.whole (max a c) (min b e),by rw[Kd.t],⟨?_,h, ?_⟩,λx=>by rw[hh];rw[Kd.has]⟩
  ·have:=h1.1;have:=h2.1;omega
  ·have:=h1.2.2;have:=h2.2.2;omega
 ·rw[if_neg h];refine .inr ⟨rfl,λx=> ?_⟩;rw[hh];cases x with
  | int i=>
   show (decide (max a c<=i) && decide (i<=min b e))=false;rw[bE];simp only[ne_eq,af,decide_eq_true_eq];omega
  | _=>rfl
theorem QE {d:Nat}(cs es:List (Str×Int))(h1:(Kd.pick cs).Ok (d+1))(h2:(Kd.pick es).Ok (d+1)):Cm (.pick cs) (.pick es) (d+1) (f_x [(Kd.pick cs).t,(Kd.pick es).t]):=by
 obtain⟨_,h14,hcs,hds⟩:=h1;have hw:=Qz es h2.2.1
 let fs:=cs.filter λc=>decide (c.1∈es.map (·.1))
 have ef:fs=cs.filter λc=>decide (c.1∈es.map (·.1)):=rfl;have hlen:fs.length<=cs.length:=aW _ _;have ex:f_x [(Kd.pick cs).t,(Kd.pick es).t]=if 0 < fs.length then .ok (.tup [.str "pick",.tup (fs.map Zo)]) else .ok .non:=by
  show zg (b_x f_v [.vl (Kd.pick cs).t,.vl (Kd.pick es).t,.un,.un])=_;unfold b_x;have e1:zx 2 (za 1 f_v (z9 (vE 1) (zc))) [.vl (Kd.pick cs).t,.vl (Kd.pick es).t,.un,.un]= .nx [.vl (Kd.pick cs).t,.vl (Kd.pick es).t,.vl (.lst (es.map λc=>T.str c.1)),.un]:=by
   rw[zG (t:= .lst (es.map λc=>T.str c.1))]
   ·rfl
   ·rw[zM,v1,bOk,hw]
  have ec:zC (Zm (zb ixT (vE 0) (cE (.int 1)))) (zo 0) (zi inC (zb ixT (vE 0) (cE (.int 0))) (vB 1)) (vE 0) 1 [2] [.vl (Kd.pick cs).t,.vl (Kd.pick es).t,.vl (.lst (es.map λc=>T.str c.1)),.un]= .ok (.lst (fs.map Zo)):=by
   have ei:Zm (zb ixT (vE 0) (cE (.int 1))) [.vl (Kd.pick cs).t,.vl (Kd.pick es).t,.vl (.lst (es.map λc=>T.str c.1)),.un]= .ok (cs.map Zo):=by
    rw[Zs,Kd.t,ul,bOk];rfl
   rw[zE,ei,bOk];unfold zF;rw[if_pos (by rw[ac];exact aq h14 (by decide))]
   have eL:zI (zo 0) (zi inC (zb ixT (vE 0) (cE (.int 0))) (vB 1)) (vE 0) (cs.map Zo) (Jp 1 [2] [.vl (Kd.pick cs).t,.vl (Kd.pick es).t,.vl (.lst (es.map λc=>T.str c.1)),.un])= .ok (((cs.map Zo).filter λt=>match t with | .tup [.str w,_]=>decide (w∈es.map (·.1)) | _=>false).map λt=>t):=by
    refine zW (p:=λt=>match t with | .tup [.str w,_]=>decide (w∈es.map (·.1)) | _=>false) (h:=λt=>t) _ _ λt ht=> ?_
    obtain⟨c,hc,rfl⟩:=aw.mp ht;refine⟨?_,λ_=>rfl⟩;show zi inC (zb ixT (vE 0) (cE (.int 0))) (vB 1) [.vl (Zo c),.vl (.lst (es.map λc=>T.str c.1))]= .ok (decide (c.1∈es.map (·.1)));have e0:zb ixT (vE 0) (cE (.int 0)) [.vl (Zo c),.vl (.lst (es.map λc=>T.str c.1))]= .ok (.str c.1):=by
     rw[zf,v0,bOk,zq,bOk];unfold Zo;exact at0
    rw[zj,e0,bOk,w1,bOk];show (match wG (λy=>eqF 30 y (.str c.1)) (es.map λc=>T.str c.1) with | some b=>R.ok b | none=> .bad)=_
    have em:(es.map λc=>T.str c.1)=(es.map (·.1)).map T.str:=by rw[aQ];rfl
    rw[em,Js]
   have eF:(((cs.map Zo).filter λt=>match t with | .tup [.str w,_]=>decide (w∈es.map (·.1)) | _=>false).map λt=>t)=fs.map Zo:=by
    rw[List.map_id',iI];rfl
   rw[eL,eF];rfl
  have e2:zx 3 (zC (Zm (zb ixT (vE 0) (cE (.int 1)))) (zo 0) (zi inC (zb ixT (vE 0) (cE (.int 0))) (vB 1)) (vE 0) 1 [2]) [.vl (Kd.pick cs).t,.vl (Kd.pick es).t,.vl (.lst (es.map λc=>T.str c.1)),.un]= .nx [.vl (Kd.pick cs).t,.vl (Kd.pick es).t,.vl (.lst (es.map λc=>T.str c.1)),.vl (.lst (fs.map Zo))]:=by
   rw[zG ec];rfl
  rw[ze e1,ze e2];have et:zi gtC (ap1 zK (vB 3)) (cE (.int 0)) [.vl (Kd.pick cs).t,.vl (Kd.pick es).t,.vl (.lst (es.map λc=>T.str c.1)),.vl (.lst (fs.map Zo))]= .ok (decide (0 < fs.length)):=by
   show R.ok (decide ((0:Int) < ((fs.map Zo).length:Nat)))=_;rw[ac]
   by_cases hz:0 < fs.length
   ·rw[decide_eq_true hz,decide_eq_true (by omega)]
   ·rw[decide_eq_false hz,decide_eq_false (by omega)]
  by_cases h:0 < fs.length
  ·rw[if_pos h,Zv (t:= .tup [.str "pick",.tup (fs.map Zo)]) (by show ifE _ _ _ [.vl (Kd.pick cs).t,.vl (Kd.pick es).t,.vl (.lst (es.map λc=>T.str c.1)),.vl (.lst (fs.map Zo))]=_;rw[QA (by rw[et,decide_eq_true h])];exact wP rfl rfl)];rfl
  ·rw[if_neg h,Zv (t:= .non) (by show ifE _ _ _ [.vl (Kd.pick cs).t,.vl (Kd.pick es).t,.vl (.lst (es.map λc=>T.str c.1)),.vl (.lst (fs.map Zo))]=_;rw[QB (by rw[et,decide_eq_false h])];rfl)];rfl
 have hh:∀y:Str,((Kd.pick cs).has (.str y) && (Kd.pick es).has (.str y))=fs.any λc=>c.1 == y:=λy=>by
  rw[Kd.has,Kd.has];rw[dh];simp only[af,cS,beq_iff_eq];constructor
  ·rintro⟨⟨c,hc,rfl⟩,⟨e,he,e1⟩⟩
   exact⟨c,bO.mpr ⟨hc,decide_eq_true (aw.mpr ⟨e,he,e1⟩)⟩,rfl⟩
  ·rintro⟨c,hc,rfl⟩
   obtain⟨a1,a2⟩:=bO.mp hc;obtain⟨e,he,e1⟩:=aw.mp (of_decide_eq_true a2);exact⟨⟨c,a1,rfl⟩,⟨e,he,e1⟩⟩
 have hn:∀x,(∀y,x ≠ .str y)->((Kd.pick cs).has x && (Kd.pick es).has x)=false:=λx hx=>by
  rw[Kd.has,Kd.has];cases x with
  | str y=>exact absurd rfl (hx y)
  | _=>rfl
 rw[ex]
 by_cases h:0 < fs.length
 ·rw[if_pos h];refine .inl ⟨.pick fs,by rw[Kd.t],⟨h,by omega,λc hc=>hcs c (bO.mp hc).1, ?_⟩,λx=> ?_⟩
  ·have hp:(cs.map (·.1)).Pairwise (λa b=>a ≠ b):=by
    rw[br];intro i j hi hj hij e;have:=YL hds (i:=i) (j:=j) (w:=(cs.map (·.1))[j]) (by rw[ad hi,e]) (ad hj)
    omega
   have hp2:(fs.map (·.1)).Pairwise (λa b=>a ≠ b):=List.Pairwise.sublist (List.Sublist.map _ dQ) hp;intro j w hj hm;obtain⟨i,hi,e⟩:=bJ.mp hm;rw[bn]at hi;rw[List.getElem_take]at e;obtain⟨hj',ej⟩:=az.mp hj;exact(br.mp hp2) i j (by omega) hj' (by omega) (by rw[e,ej])
  ·cases x with
   | str y=>rw[hh];rw[Kd.has]
   | _=>rw[hn _ (λy z=>by cases z)];rw[Kd.has]
 ·rw[if_neg h];refine .inr ⟨rfl,λx=> ?_⟩;cases x with
  | str y=>
   rw[hh];have:fs=[]:=eZ.mp (by omega)
   rw[this];rfl
  | _=>exact hn _ (λy z=>by cases z)
theorem zr {g:En->R Bool}{f:En->R T}{h:En->RS}{ρ:En}(hg:g ρ= .ok true):zg (zm (ifS g (zt f) nxS) h ρ)=f (frz ρ):=by
 rw[zv,uo hg,zO];cases f (frz ρ) <;> rfl
theorem Zu {f:En->R T}{ρ:En}:zg (zt f ρ)=f (frz ρ):=by rw[zO,ZH]
theorem gu (k:Kd):∃x r,k.t= .tup (.str x :: r):=by
 cases k <;> exact⟨_,_,by rw[Kd.t]⟩
def Z4:Option Kd->T
 | some c=>c.t
 | none=> .non
theorem YR:∀os:List (Option Kd),wG (λy=>eqF 30 y .non) (os.map Z4)=some (os.any eV)
 | []=>rfl
 | o :: os=>by
  have e:wG (λy=>eqF 30 y .non) ((o :: os).map Z4)=match eqF 30 (Z4 o) .non with | none=>none | some b=>match wG (λy=>eqF 30 y .non) (os.map Z4) with | none=>none | some c=>some (b || c):=rfl
  rw[e,YR os];cases o with
  | none=>rfl
  | some c=>
   obtain⟨x,r,h⟩:=gu c;have:eqF 30 (Z4 (some c)) .non=some false:=by show eqF 30 c.t .non=_;rw[h];rfl
   rw[this];rfl
theorem U5:∀os:List (Option Kd),os.any eV=false->∃cs:List Kd,os=cs.map some
 | [],_=>⟨[],rfl⟩
 | o :: os,h=>by
  rw[List.any_cons,fP]at h;obtain⟨cs,rfl⟩:=U5 os h.2;cases o with
  | none=>cases h.1
  | some c=>exact⟨c :: cs,rfl⟩
def Ck (d:Nat)(q:Kd×Kd):Option Kd->Prop
 | some c=>c.Ok d/\∀x,c.has x=(q.1.has x && q.2.has x)
 | none=>∀x,(q.1.has x && q.2.has x)=false
abbrev ckE (c:List T->R T):En->R T:=za 2 c (z9 (vE 0) (z9 (vE 1) (zc)))
theorem YS {c:List T->R T}{d:Nat}:∀(qs:List (Kd×Kd)) (x y:Sl),(∀q∈qs,∃o,c [q.1.t,q.2.t]= .ok (Z4 o)/\Ck d q o)->
  ∃os:List (Option Kd),zI (Zb 0 1) Z1 (ckE c) (qs.map λq=>T.tup [q.1.t,q.2.t]) [x,y]= .ok (os.map Z4)/\os.length=qs.length/\∀(i:Nat) (q:Kd×Kd) (o:Option Kd),qs[i]? =some q->os[i]? =some o->Ck d q o
 | [],_,_,_=>⟨[],rfl,rfl,λi q o h=>by simp at h⟩
 | q :: qs,x,y,h=>by
  obtain⟨o,e1,hc⟩:=h q ah;obtain⟨os,e2,e3,e4⟩:=YS (c:=c) (d:=d) qs (.vl q.1.t) (.vl q.2.t) λr hr=>h r (ae _ hr);have e0:zI (Zb 0 1) Z1 (ckE c) ((q :: qs).map λq=>T.tup [q.1.t,q.2.t]) [x,y]=(ckE c [.vl q.1.t,.vl q.2.t]).bind λv=>(zI (Zb 0 1) Z1 (ckE c) (qs.map λq=>T.tup [q.1.t,q.2.t]) [.vl q.1.t,.vl q.2.t]).bind λvs=> .ok (v :: vs):=rfl;have e5:ckE c [.vl q.1.t,.vl q.2.t]=c [q.1.t,q.2.t]:=by unfold ckE;rw[Zq,v0,bOk,v1,bOk]
  refine⟨o :: os,by rw[e0,e5,e1,bOk,e2,bOk,aB],by rw[al,al,e3],λi q' o' h1 h2=> ?_⟩
  cases i with
  | zero=>cases h1;cases h2;exact hc
  | succ i=>exact e4 i q' o' (by simpa using h1) (by simpa using h2)
theorem J4:∀(ks:List Kd) (xs:List T),Kd.hass ks xs=true↔∀(i:Nat) (k:Kd) (x:T),ks[i]? =some k->xs[i]? =some x->k.has x=true
 | [],_=>by simp[Kd.hass]
 | k :: ks,[]=>by simp[Kd.hass]
 | k :: ks,x :: xs=>by
  rw[Kd.hass];simp only[af];rw[J4 ks xs];constructor
  ·rintro⟨h1,h2⟩ i k' x' e1 e2
   cases i with
   | zero=>cases e1;cases e2;exact h1
   | succ i=>exact h2 i k' x' (by simpa using e1) (by simpa using e2)
  ·intro h;exact⟨h 0 k x rfl rfl,λi k' x' e1 e2=>h (i+1) k' x' (by simpa using e1) (by simpa using e2)⟩
theorem xR {n d:Nat}{s s' :T}(ks ls:List Kd)(hs:JG s= .ok (ks.map Kd.t))(hs' :JG s' = .ok (ls.map Kd.t))(hl:zK s= .ok (.int (ks.length:Int)))(hl' :zK s' = .ok (.int (ls.length:Int)))(h3:ks.length<=3)(H:∀k∈ks,∀l∈ls,Cm k l d (S_5 n 0 [k.t,l.t])):
  (∃cs:List Kd,S_5 (n+1) 1 [s,s']= .ok (.tup [.str "row",.tup (cs.map Kd.t)])/\cs.length=ks.length/\ks.length=ls.length/\(∀c∈cs,c.Ok d)/\∀xs:List T,xs.length=ks.length->Kd.hass cs xs=(Kd.hass ks xs && Kd.hass ls xs))\/
  (S_5 (n+1) 1 [s,s']= .ok .non/\∀xs:List T,xs.length=ks.length->xs.length=ls.length->(Kd.hass ks xs && Kd.hass ls xs)=false):=by
 have e:S_5 (n+1) 1 [s,s']=zg (gm (S_5 n 0) [.vl s,.vl s',.un]):=by
  rw[S_5];rfl
 have et:zi neC (ap1 zK (vB 0)) (ap1 zK (vB 1)) [.vl s,.vl s',.un]= .ok (!((ks.length:Int) == (ls.length:Int))):=by
  rw[zj,zY,w0,bOk,hl,bOk,zY,w1,bOk,hl',bOk];rfl
 rw[e];unfold gm
 by_cases hkl:ks.length=ls.length
 ·have ez:kL (vE 0) (vE 1) [.vl s,.vl s',.un]= .ok ((ks.zip ls).map λq=>T.tup [q.1.t,q.2.t]):=by
   show (JG s).bind _=_;rw[hs,bOk,hs',bOk];unfold vk;rw[List.zip_map,aQ];rfl
  obtain⟨os,e1,e2,e3⟩:=YS (c:=S_5 n 0) (d:=d) (ks.zip ls) .un .un λq hq=>by
   rcases H q.1 (db hq).1 q.2 (db hq).2 with ⟨c,a1,a2,a3⟩ | ⟨a1,a2⟩
   ·exact⟨some c,a1,a2,a3⟩
   ·exact⟨none,a1,a2⟩
  have hol:os.length=ks.length:=by rw[e2,iJ];omega
  have ec:zC (kL (vE 0) (vE 1)) (Zb 0 1) Z1 (ckE (S_5 n 0)) 2 [] [.vl s,.vl s',.un]= .ok (.lst (os.map Z4)):=by
   rw[zE,ez,bOk];unfold zF;rw[if_pos (by rw[ac,iJ];exact aq (Nat.min_le_left _ _) (aq h3 (by decide)))]
   show (quiet (zI _ _ _ _ [.un,.un])).bind _=_;rw[e1];rfl
  have es:zx 2 (zC (kL (vE 0) (vE 1)) (Zb 0 1) Z1 (ckE (S_5 n 0)) 2 []) [.vl s,.vl s',.un]= .nx [.vl s,.vl s',.vl (.lst (os.map Z4))]:=by rw[zG ec];rfl
  have ei:zi inC (cE .non) (vB 2) [.vl s,.vl s',.vl (.lst (os.map Z4))]= .ok (os.any eV):=by
   rw[zj,zq,bOk,w2,bOk];show (match wG (λy=>eqF 30 y .non) (os.map Z4) with | some b=>R.ok b | none=> .bad)=_
   rw[YR]
  rw[ze (zz (by rw[et,hkl,beq_self_eq_true];rfl)),ze es]
  have zat:∀(i:Nat) (k l:Kd),ks[i]? =some k->ls[i]? =some l->(ks.zip ls)[i]? =some (k,l):=λi k l h1 h2=>by
   rw[eH];exact⟨h1,h2⟩
  cases hn:os.any eV with
  | true=>
   right
   rw[zr (by rw[ei,hn])]
   refine⟨rfl,λxs hx hx' => ?_⟩;obtain⟨o,ho,hio⟩:=cS.mp hn;obtain⟨i,hi,rfl⟩:=bJ.mp ho;have hik:i < ks.length:=by omega
   have hil:i < ls.length:=by omega
   have hix:i < xs.length:=by omega
   have hc:=e3 i (ks[i],ls[i]) os[i] (zat i _ _ (ad hik) (ad hil)) (ad hi);have ho' :os[i]=none:=by cases q:os[i] with | none=>rfl | some c=>rw[q]at hio;cases hio
   rw[ho']at hc;rw[bE];intro z;rw[af,J4,J4]at z;have z1:=z.1 i _ xs[i] (ad hik) (ad hix);have z2:=z.2 i _ xs[i] (ad hil) (ad hix);have:=hc xs[i];rw[z1,z2]at this;cases this
  | false=>
   left
   obtain⟨cs,rfl⟩:=U5 os hn;have hcl:cs.length=ks.length:=by rw[ac]at hol;exact hol
   have em:(cs.map some).map Z4=cs.map Kd.t:=by rw[aQ];rfl
   rw[em]at ei ⊢;rw[ze (zz (by rw[ei,hn])),Zu]
   have cat:∀(i:Nat) (c k l:Kd),cs[i]? =some c->ks[i]? =some k->ls[i]? =some l->c.Ok d/\∀x,c.has x=(k.has x && l.has x):=λi c k l h1 h2 h3=>e3 i (k,l) (some c) (zat i k l h2 h3) (by rw[aG,h1];rfl)
   refine⟨cs,wP rfl rfl,hcl,hkl,λc hc=> ?_,λxs hx=> ?_⟩
   ·obtain⟨i,hi,rfl⟩:=bJ.mp hc;exact(cat i _ _ _ (ad hi) (ad (by omega)) (ad (by omega))).1
   ·rw[dh,af,J4,J4,J4];constructor
    ·intro h;refine⟨λi k x h1 h2=> ?_,λi l x h1 h2=> ?_⟩
     ·have hi:=(az.mp h1).1;have hic:i < cs.length:=by omega
      have hil:i < ls.length:=by omega
      have q:=(cat i _ _ _ (ad hic) h1 (ad hil)).2 x;rw[h i _ x (ad hic) h2]at q;exact(ck.mp q.symm).1
     ·have hi:=(az.mp h1).1;have hic:i < cs.length:=by omega
      have hik:i < ks.length:=by omega
      have q:=(cat i _ _ _ (ad hic) (ad hik) h1).2 x;rw[h i _ x (ad hic) h2]at q;exact(ck.mp q.symm).2
    ·rintro⟨h1,h2⟩ i c x q1 q2
     have hi:=(az.mp q1).1;have hik:i < ks.length:=by omega
     have hil:i < ls.length:=by omega
     rw[(cat i _ _ _ q1 (ad hik) (ad hil)).2 x,h1 i _ x (ad hik) q2,h2 i _ x (ad hil) q2];rfl
 ·right
  rw[zr (by rw[et,beq_eq_false_iff_ne.mpr (by omega)];rfl)]
  exact⟨rfl,λxs h1 h2=>by omega⟩
def kop:Kd->Nat->List Kd
 | .row ks,_=>ks
 | .many k lo hi,n=>if lo<=n/\n<=hi then ag n k else []
 | _,_=>[]
theorem vK {x:T}{m:Nat}(h1:1<=m)(h:m<=3):qu (.tup [x]) (.int (m:Int))= .ok (.tup (ag m x)):=by
 by_cases e:m=1
 ·subst e;have c:((1:Nat):Int)=1/\[x] ≠ []:=⟨rfl,by simp⟩
  unfold qu;dsimp only;rw[if_pos c];rfl
 ·have:qu (.tup [x]) (.int (m:Int))=Z0 (.tup [x]) (.int (m:Int)):=if_neg (λz=>e (by omega))
  have c:2<=(m:Int)/\(m:Int) < 1000000/\[x] ≠ []/\[x].length*(m:Int).toNat<=bnd:=⟨by omega,by omega,by simp,by rw[aD,aV];exact aq (show 1*m<=3 by omega) (by decide)⟩
  rw[this,show Z0 (.tup [x]) (.int (m:Int))= .ok (.tup (ag (m:Int).toNat [x]).flatten) from if_pos c,aV,Jw]
theorem vL (k:Kd)(n:Nat)(hn:1<=n)(h3:∀l lo hi,k= .many l lo hi->hi<=3):f_y [k.t,.int (n:Int)]= .ok (.tup ((kop k n).map Kd.t)):=by
 show zg (b_y (en2 k.t (.int (n:Int))))=_;unfold b_y;cases k with
 | row ks=>rw[zr (by rw[Kd.t];exact cs0),show frz (en2 (Kd.row ks).t (.int (n:Int)))=en2 (Kd.row ks).t (.int (n:Int)) from rfl,Kd.t,Kd.ts_map,ul];rfl
 | whole a b=>
  have e0:zi eqC (zb ixT (vE 0) (cE (.int 0))) (cE (.str "many")) (en2 (Kd.whole a b).t (.int (n:Int)))= .ok false:=by rw[Kd.t];exact cs0
  rw[ze (zz (by rw[Kd.t];exact cs0)),ze (zz (by rw[ZZ,e0,bOk];rfl)),Zu];rfl
 | pick cs=>
  have e0:zi eqC (zb ixT (vE 0) (cE (.int 0))) (cE (.str "many")) (en2 (Kd.pick cs).t (.int (n:Int)))= .ok false:=by rw[Kd.t];exact cs0
  rw[ze (zz (by rw[Kd.t];exact cs0)),ze (zz (by rw[ZZ,e0,bOk];rfl)),Zu];rfl
 | many k lo hi=>
  have h3' :=h3 k lo hi rfl;have e0:zi eqC (zb ixT (vE 0) (cE (.int 0))) (cE (.str "many")) (en2 (Kd.many k lo hi).t (.int (n:Int)))= .ok true:=by rw[Kd.t];exact cs0
  have et:jt (zi eqC (zb ixT (vE 0) (cE (.int 0))) (cE (.str "many"))) (chT leC leC (zb ixT (vE 0) (cE (.int 2))) (vB 1) (zb ixT (vE 0) (cE (.int 3)))) (en2 (Kd.many k lo hi).t (.int (n:Int)))= .ok (decide (lo<=n) && decide (n<=hi)):=by
   rw[ZZ,e0,bOk,if_pos rfl,Yc,Kd.t,vF,bOk,w1,bOk,ub,bOk,xG,bOk,ub,JV,JV];cases decide (lo<=n) <;> rfl
  rw[ze (zz (by rw[Kd.t];exact cs0))]
  have ek:kop (.many k lo hi) n=if lo<=n/\n<=hi then ag n k else []:=rfl
  rw[ek]
  by_cases h:lo<=n/\n<=hi
  ·rw[if_pos h,zr (by rw[et,decide_eq_true h.1,decide_eq_true h.2];rfl)]
   show zb qu _ _ (en2 (Kd.many k lo hi).t (.int (n:Int)))=_;rw[zf,X9 (x:=k.t) (by rw[Kd.t];exact ul),bOk,v1,bOk]
   rw[vK hn (by omega),bH]
  ·rw[if_neg h,ze (zz (by rw[et];congr 1;rw[bE];intro z;rw[af,decide_eq_true_eq,decide_eq_true_eq]at z;exact h z)),Zu];rfl
theorem ZA (k:Kd)(lo hi:Nat)(xs:List T):(Kd.many k lo hi).has (.tup xs)=(decide (lo<=xs.length) && decide (xs.length<=hi) && xs.all k.has):=by rw[Kd.has]
theorem JX (ks:List Kd)(xs:List T):(Kd.row ks).has (.tup xs)=(xs.length == ks.length && Kd.hass ks xs):=by rw[Kd.has]
theorem YT {α:Type}(p q:α->Bool):∀l:List α,l.all (λx=>p x && q x)=(l.all p && l.all q)
 | []=>rfl
 | x :: l=>by
  rw[bc,bc,bc,YT p q l];cases p x <;> cases q x <;> cases l.all p <;> rfl
abbrev cmE (a b x y z:Sl):En:=[a,b,x,y,z]
theorem QF {n d:Nat}(k l:Kd)(lo hi lo' hi' :Nat)(h1:(Kd.many k lo hi).Ok (d+1))(h2:(Kd.many l lo' hi').Ok (d+1))(H:Cm k l d (S_5 n 0 [k.t,l.t])):
  Cm (.many k lo hi) (.many l lo' hi') (d+1) (S_5 (n+1) 2 [(Kd.many k lo hi).t,(Kd.many l lo' hi').t]):=by
 have e:S_5 (n+1) 2 [(Kd.many k lo hi).t,(Kd.many l lo' hi').t]=zg (gp (S_5 n 0) (cmE (.vl (mt k.t lo hi)) (.vl (mt l.t lo' hi')) .un .un .un)):=by
  rw[S_5]
  ·rw[Kd.t,Kd.t];rfl
  ·intro h;cases h
  ·intro h;cases h
 have c1:((max lo lo' :Nat):Int)=max (lo:Int) (lo' :Int):=by omega
 have c2:((min hi hi' :Nat):Int)=min (hi:Int) (hi' :Int):=by omega
 have e1:zx 2 (zb Jn (zb ixT (vE 0) (cE (.int 2))) (zb ixT (vE 1) (cE (.int 2)))) (cmE (.vl (mt k.t lo hi)) (.vl (mt l.t lo' hi')) .un .un .un)= .nx (cmE (.vl (mt k.t lo hi)) (.vl (mt l.t lo' hi')) (.vl (.int ((max lo lo' :Nat):Int))) .un .un):=by
  rw[zG (QD vF jx2),c1];rfl
 have e2:zx 3 (zb ZY (zb ixT (vE 0) (cE (.int 3))) (zb ixT (vE 1) (cE (.int 3)))) (cmE (.vl (mt k.t lo hi)) (.vl (mt l.t lo' hi')) (.vl (.int ((max lo lo' :Nat):Int))) .un .un)= .nx (cmE (.vl (mt k.t lo hi)) (.vl (mt l.t lo' hi')) (.vl (.int ((max lo lo' :Nat):Int))) (.vl (.int ((min hi hi' :Nat):Int))) .un):=by
  rw[zG (YO xG jx3),c2];rfl
 have et:zi gtC (vB 2) (vB 3) (cmE (.vl (mt k.t lo hi)) (.vl (mt l.t lo' hi')) (.vl (.int ((max lo lo' :Nat):Int))) (.vl (.int ((min hi hi' :Nat):Int))) .un)= .ok (decide (min hi hi' < max lo lo')):=by
  show R.ok (decide (((min hi hi' :Nat):Int) < ((max lo lo' :Nat):Int)))=_
  by_cases hz:min hi hi' < max lo lo'
  ·rw[decide_eq_true hz,decide_eq_true (by omega)]
  ·rw[decide_eq_false hz,decide_eq_false (by omega)]
 have hnt:∀x,(∀xs,x ≠ .tup xs)->((Kd.many k lo hi).has x && (Kd.many l lo' hi').has x)=false:=λx hx=>by
  rw[Kd.has];cases x with
  | tup xs=>exact absurd rfl (hx xs)
  | _=>rfl
 have hht:∀xs,((Kd.many k lo hi).has (.tup xs) && (Kd.many l lo' hi').has (.tup xs))=(decide (max lo lo' <=xs.length) && decide (xs.length<=min hi hi') && xs.all λx=>k.has x && l.has x):=λxs=>by
  rw[ZA,ZA,YT,dh];simp only[af,decide_eq_true_eq];constructor
  ·rintro⟨⟨⟨a1,a2⟩,a3⟩,⟨⟨b1,b2⟩,b3⟩⟩
   exact⟨⟨by omega,by omega⟩,a3,b3⟩
  ·rintro⟨⟨a1,a2⟩,a3,b3⟩
   exact⟨⟨⟨by omega,by omega⟩,a3⟩,⟨⟨by omega,by omega⟩,b3⟩⟩
 rw[e];unfold gp;rw[ze e1,ze e2]
 by_cases hgt:min hi hi' < max lo lo'
 ·rw[zr (by rw[et,decide_eq_true hgt])]
  refine .inr ⟨rfl,λx=> ?_⟩;cases x with
  | tup xs=>
   rw[hht,bE];intro z;simp only[af,decide_eq_true_eq]at z;omega
  | _=>exact hnt _ (λy z=>by cases z)
 ·rw[ze (zz (by rw[et,decide_eq_false hgt]))]
  have ec:∀t,S_5 n 0 [k.t,l.t]= .ok t->zx 4 (za 2 (S_5 n 0) (z9 (zb ixT (vE 0) (cE (.int 1))) (z9 (zb ixT (vE 1) (cE (.int 1))) (zc)))) (cmE (.vl (mt k.t lo hi)) (.vl (mt l.t lo' hi')) (.vl (.int ((max lo lo' :Nat):Int))) (.vl (.int ((min hi hi' :Nat):Int))) .un)= .nx (cmE (.vl (mt k.t lo hi)) (.vl (mt l.t lo' hi')) (.vl (.int ((max lo lo' :Nat):Int))) (.vl (.int ((min hi hi' :Nat):Int))) (.vl t)):=λt ht=>by
   rw[zG (t:=t)]
   ·rfl
   ·rw[Zq,show zb ixT (vE 0) (cE (.int 1)) (cmE (.vl (mt k.t lo hi)) (.vl (mt l.t lo' hi')) (.vl (.int ((max lo lo' :Nat):Int))) (.vl (.int ((min hi hi' :Nat):Int))) .un)= .ok k.t from ul,bOk,show zb ixT (vE 1) (cE (.int 1)) (cmE (.vl (mt k.t lo hi)) (.vl (mt l.t lo' hi')) (.vl (.int ((max lo lo' :Nat):Int))) (.vl (.int ((min hi hi' :Nat):Int))) .un)= .ok l.t from jx1,bOk,ht]
  rcases H with ⟨c,a1,a2,a3⟩ | ⟨a1,a2⟩
  ·obtain⟨x,r,hct⟩:=gu c;rw[ze (ec _ a1),zr (by rw[hct];rfl)]
   refine .inl ⟨.many c (max lo lo') (min hi hi'),by rw[Kd.t];exact Qj rfl rfl rfl rfl,⟨by omega,by have:=h1.2.1;omega,a2⟩,λx=> ?_⟩
   cases x with
   | tup xs=>
    rw[hht,ZA];congr 1
    exact congrArg xs.all (funext a3)
   | _=>rw[hnt _ (λy z=>by cases z)];rw[Kd.has]
  ·rw[ze (ec _ a1),ze (zz rfl),Zu];have et2:zi eqC (vB 2) (cE (.int 0)) (cmE (.vl (mt k.t lo hi)) (.vl (mt l.t lo' hi')) (.vl (.int ((max lo lo' :Nat):Int))) (.vl (.int ((min hi hi' :Nat):Int))) (.vl .non))= .ok (decide (max lo lo' =0)):=by
    show R.ok (((max lo lo' :Nat):Int) == 0)=_
    by_cases hz:max lo lo' =0
    ·rw[hz,decide_eq_true rfl];rfl
    ·rw[decide_eq_false hz,beq_eq_false_iff_ne.mpr (by omega)]
   have hall:∀xs:List T,(xs.all λx=>k.has x && l.has x)=xs.isEmpty:=λxs=>by
    cases xs with
    | nil=>rfl
    | cons x xs=>rw[bc,a2 x];rfl
   show Cm _ _ _ (ifE _ _ _ (cmE (.vl (mt k.t lo hi)) (.vl (mt l.t lo' hi')) (.vl (.int ((max lo lo' :Nat):Int))) (.vl (.int ((min hi hi' :Nat):Int))) (.vl .non)))
   by_cases hz:max lo lo' =0
   ·rw[QA (by rw[et2,decide_eq_true hz])]
    refine .inl ⟨.many k 0 0,by rw[Kd.t];exact Qj rfl ul rfl rfl,⟨am _,by omega,h1.2.2⟩,λx=> ?_⟩
    cases x with
    | tup xs=>
     rw[hht,ZA,hall,hz];cases xs with
     | nil=>simp
     | cons x xs=>simp
    | _=>rw[hnt _ (λy z=>by cases z)];rw[Kd.has]
   ·rw[QB (by rw[et2,decide_eq_false hz])]
    refine .inr ⟨rfl,λx=> ?_⟩;cases x with
    | tup xs=>
     rw[hht,hall];cases xs with
     | nil=>simp;omega
     | cons x xs=>simp
    | _=>exact hnt _ (λy z=>by cases z)
theorem YU {d:Nat}(l:Kd)(hl:l.Ok (d+1))(n:Nat)(hn:1<=n):(∀m∈kop l n,m.Ok d)/\((kop l n).length=n->∀xs:List T,xs.length=n->l.has (.tup xs)=Kd.hass (kop l n) xs)/\((kop l n).length ≠ n->∀xs:List T,xs.length=n->l.has (.tup xs)=false):=by
 cases l with
 | whole a b=>exact⟨(λm hm=>by cases hm),λz=>absurd z (by show 0 ≠ n;omega),λ_ xs _=>by rw[Kd.has];rfl⟩
 | pick cs=>exact⟨(λm hm=>by cases hm),λz=>absurd z (by show 0 ≠ n;omega),λ_ xs _=>by rw[Kd.has]⟩
 | row ls=>
  refine⟨hl.2.2,λz xs hx=> ?_,λz xs hx=> ?_⟩
  ·have z:ls.length=n:=z;rw[JX,hx,z,beq_self_eq_true,bA];rfl
  ·have z:ls.length ≠ n:=z;rw[JX,hx,beq_eq_false_iff_ne.mpr (cf z)];rfl
 | many m lo hi=>
  have ek:kop (.many m lo hi) n=if lo<=n/\n<=hi then ag n m else []:=rfl
  rw[ek]
  by_cases h:lo<=n/\n<=hi
  ·rw[if_pos h];refine⟨λq hq=>by rw[bF hq];exact hl.2.2,λz xs hx=> ?_,λz=>absurd (by rw[aI]) z⟩
   rw[ZA,hx,decide_eq_true h.1,decide_eq_true h.2,bA,bA,U1,← hx,YF]
  ·rw[if_neg h];refine⟨(λq hq=>by cases hq),λz=>absurd z (by show 0 ≠ n;omega),λz xs hx=> ?_⟩
   rw[ZA,hx,bE];intro q;simp only[af,decide_eq_true_eq]at q;exact h q.1
theorem YV (ks:List Kd)(x:T)(h:(Kd.row ks).has x=true):∃xs,x= .tup xs/\xs.length=ks.length/\Kd.hass ks xs=true:=by
 rw[Kd.has]at h;cases x with
 | tup xs=>
  have h:(xs.length == ks.length && Kd.hass ks xs)=true:=h;rw[af,beq_iff_eq]at h;exact⟨xs,rfl,h.1,h.2⟩
 | _=>cases h
theorem vM {n d:Nat}{s s' :T}{k l:Kd}(ks ls:List Kd)(m:Nat)(hm1:1<=m)(hm3:m<=3)(hs:JG s= .ok (ks.map Kd.t))(hs' :JG s' = .ok (ls.map Kd.t))(hl:zK s= .ok (.int (ks.length:Int)))(hl' :zK s' = .ok (.int (ls.length:Int)))(h3:ks.length<=3)
  (H:∀k∈ks,∀l∈ls,Cm k l d (S_5 n 0 [k.t,l.t]))
  (hx:∀x,(k.has x && l.has x)=true->∃xs,x= .tup xs/\xs.length=m)
  (hk:ks.length=m->∀xs:List T,xs.length=m->k.has (.tup xs)=Kd.hass ks xs) (hk0:ks.length ≠ m->∀xs:List T,xs.length=m->k.has (.tup xs)=false)
  (hl1:ls.length=m->∀xs:List T,xs.length=m->l.has (.tup xs)=Kd.hass ls xs) (hl0:ls.length ≠ m->∀xs:List T,xs.length=m->l.has (.tup xs)=false) (hone:ks.length=m\/ls.length=m):
  Cm k l (d+1) (S_5 (n+1) 1 [s,s']):=by
 rcases xR ks ls hs hs' hl hl' h3 H with ⟨cs,a1,a2,a3,a4,a5⟩ | ⟨a1,a2⟩
 ·have hkm:ks.length=m:=by rcases hone with z | z <;> omega
  have hlm:ls.length=m:=by omega
  refine .inl ⟨.row cs,by rw[a1,Kd.t,Kd.ts_map],⟨by omega,by omega,a4⟩,λx=> ?_⟩
  cases hh:(k.has x && l.has x) with
  | true=>
   obtain⟨xs,rfl,hxl⟩:=hx x hh;rw[hk hkm xs hxl,hl1 hlm xs hxl]at hh;rw[JX,a5 xs (by omega),hh,show (xs.length == cs.length)=true from by rw[beq_iff_eq];omega];rfl
  | false=>
   rw[bE];intro z;obtain⟨xs,rfl,hxl,hc⟩:=YV cs x z;rw[hk hkm xs (by omega),hl1 hlm xs (by omega),← a5 xs (by omega),hc]at hh
   cases hh
 ·refine .inr ⟨a1,λx=> ?_⟩;rw[bE];intro z;obtain⟨xs,rfl,hxl⟩:=hx x z
  by_cases hkm:ks.length=m
  ·by_cases hlm:ls.length=m
   ·rw[hk hkm xs hxl,hl1 hlm xs hxl,a2 xs (by omega) (by omega)]at z
    cases z
   ·rw[hl0 hlm xs hxl,Bool.and_false]at z;cases z
  ·rw[hk0 hkm xs hxl]at z;cases z
theorem z08 {n d:Nat}(hn:3*(d+1)<=n+3)(ih:∀k l:Kd,k.Ok d->l.Ok d->Cm k l d (S_5 (n+1) 0 [k.t,l.t]))(k:Kd)(ls:List Kd)(hk:k.Ok (d+1))(hl:(Kd.row ls).Ok (d+1))(hbigk:∀m lo hi,k= .many m lo hi->hi<=3){g:En->RS}:
  Cm k (.row ls) (d+1) (zg (zm (ifS (zi eqC (zb ixT (vE 1) (cE (.int 0))) (cE (.str "row"))) (zt (za 2 (S_5 (n+2) 1) (z9 (za 2 f_y (z9 (vE 0) (z9 (ap1 zK (zb ixT (vE 1) (cE (.int 1)))) (zc)))) (z9 (zb ixT (vE 1) (cE (.int 1))) (zc))))) (nxS)) g (en2 k.t (Kd.row ls).t))):=by
 obtain⟨h1,h3,h4⟩:=hl;have i1:zb ixT (vE 1) (cE (.int 1)) (en2 k.t (Kd.row ls).t)= .ok (.tup (ls.map Kd.t)):=by rw[zf,v1,bOk,zq,bOk,Kd.t,Kd.ts_map,at1]
 have i0:zi eqC (zb ixT (vE 1) (cE (.int 0))) (cE (.str "row")) (en2 k.t (Kd.row ls).t)= .ok true:=by
  rw[zj,zf,v1,bOk,zq,bOk,Kd.t,at0,bOk,zq,bOk];rfl
 rw[zr i0];show Cm _ _ _ (za 2 _ _ (en2 k.t (Kd.row ls).t));rw[Zq,Zq,v0,bOk,zY,i1,bOk,ZD,ac,bOk,vL k ls.length h1 hbigk,bOk,bOk];obtain⟨o1,o2,o3⟩:=YU k hk ls.length h1;have hk3:(kop k ls.length).length<=3:=by
  cases k with
  | row ks=>exact hk.2.1
  | many m lo hi=>
   have ek:kop (.many m lo hi) ls.length=if lo<=ls.length/\ls.length<=hi then ag ls.length m else []:=rfl
   rw[ek];split
   ·rw[aI];exact h3
   ·simp
  | _=>exact bT _
 refine vM (d:=d) (kop k ls.length) ls ls.length h1 h3 rfl rfl (by rw[ZD,ac]) (by rw[ZD,ac]) hk3 (λa ha b hb=>ih a b (o1 a ha) (h4 b hb)) (λx hx=> ?_) o2 o3 (λ_ xs hxl=> ?_) (λz=>absurd rfl z) (.inr rfl)
 ·obtain⟨xs,a,b,_⟩:=YV ls x (ck.mp hx).2;exact⟨xs,a,b⟩
 ·rw[JX,hxl,beq_self_eq_true,bA]
theorem vN:∀(d n:Nat),3*d<=n->∀k l:Kd,k.Ok d->l.Ok d->Cm k l d (S_5 n 0 [k.t,l.t])
 | 0,_,_,_,_,h,_=>h.elim
 | d+1,n+3,hn,k,l,hk,hl=>by
  have ih:=vN d (n+1) (by omega)
  have e:S_5 (n+3) 0 [k.t,l.t]=zg (b_5 f_y (S_5 (n+2) 1) kT f_x (S_5 (n+2) 2) (en2 k.t l.t)):=by rw[S_5];rfl
  rw[e];unfold b_5;have r0:∀(x w:Str) (r:List T),l.t= .tup (.str x :: r)->zi eqC (zb ixT (vE 1) (cE (.int 0))) (cE (.str w)) (en2 k.t l.t)= .ok (x == w):=λx w r h=>by
   rw[zj,zf,v1,bOk,zq,bOk,h,at0,bOk,zq,bOk];rfl
  have n0:∀(x y:Str) (r q:List T),k.t= .tup (.str x :: r)->l.t= .tup (.str y :: q)->zi neC (zb ixT (vE 0) (cE (.int 0))) (zb ixT (vE 1) (cE (.int 0))) (en2 k.t l.t)= .ok (!(x == y)):=λx y r q h1 h2=>by
   rw[zj,zf,v0,bOk,zq,bOk,h1,at0,bOk,zf,v1,bOk,zq,bOk,h2,at0,bOk];rfl
  have c0:∀(x w:Str) (r:List T),k.t= .tup (.str x :: r)->zi eqC (zb ixT (vE 0) (cE (.int 0))) (cE (.str w)) (en2 k.t l.t)= .ok (x == w):=λx w r h=>by rw[h];exact cs0
  have hbig:∀m lo hi,l= .many m lo hi->hi<=3:=λm lo hi h=>by rw[h]at hl;exact hl.2.1
  have hbigk:∀m lo hi,k= .many m lo hi->hi<=3:=λm lo hi h=>by rw[h]at hk;exact hk.2.1
  cases k with
  | row ks=>
   rw[zr (by rw[Kd.t];exact cs0)]
   have hko:=hk;obtain⟨h1,h3,h4⟩:=hk;have el:za 2 (S_5 (n+2) 1) (z9 (zb ixT (vE 0) (cE (.int 1))) (z9 (za 2 f_y (z9 (vE 1) (z9 (ap1 zK (zb ixT (vE 0) (cE (.int 1)))) (zc)))) (zc))) (frz (en2 (Kd.row ks).t l.t))=S_5 (n+2) 1 [.tup (ks.map Kd.t),.tup ((kop l ks.length).map Kd.t)]:=by
    show za 2 _ _ (en2 (Kd.row ks).t l.t)=_;have i1:zb ixT (vE 0) (cE (.int 1)) (en2 (Kd.row ks).t l.t)= .ok (.tup (ks.map Kd.t)):=by rw[Kd.t,Kd.ts_map];exact ul
    rw[Zq,i1,bOk,Zq,v1,bOk,zY,i1,bOk,ZD,ac,bOk,vL l ks.length h1 hbig,bOk]
   rw[el];obtain⟨o1,o2,o3⟩:=YU l hl ks.length h1;refine vM (d:=d) ks (kop l ks.length) ks.length h1 h3 rfl rfl (by rw[ZD,ac]) (by rw[ZD,ac]) h3 (λa ha b hb=>ih a b (h4 a ha) (o1 b hb)) (λx hx=> ?_) (λ_ xs hxl=> ?_) (λz=>absurd rfl z) o2 o3 (.inl rfl)
   ·obtain⟨xs,a,b,_⟩:=YV ks x (ck.mp hx).1;exact⟨xs,a,b⟩
   ·rw[JX,hxl,beq_self_eq_true,bA]
  | whole a b=>
   rw[ze (zz (by rw[Kd.t];exact cs0))]
   cases l with
   | row ls=>exact z08 hn ih (.whole a b) ls hk hl hbigk
   | whole c c' =>
    rw[ze (zz (r0 _ _ _ (by rw[Kd.t]))),ze (zz ((n0 _ _ _ _ (by rw[Kd.t]) (by rw[Kd.t])).trans rfl)),zr (c0 _ _ _ (by rw[Kd.t]))]
    show Cm _ _ _ (za 2 _ _ (en2 (Kd.whole a b).t (Kd.whole c c').t));rw[Zq,v0,bOk,v1,bOk];exact YQ a b c c' hk hl
   | pick cs=>
    rw[ze (zz (r0 _ _ _ (by rw[Kd.t]))),zr ((n0 _ _ _ _ (by rw[Kd.t]) (by rw[Kd.t])).trans rfl)]
    exact .inr ⟨rfl,λx=>by rw[Kd.has,Kd.has];cases x <;> simp[inR]⟩
   | many m lo hi=>
    rw[ze (zz (r0 _ _ _ (by rw[Kd.t]))),zr ((n0 _ _ _ _ (by rw[Kd.t]) (by rw[Kd.t])).trans rfl)]
    exact .inr ⟨rfl,λx=>by rw[Kd.has,Kd.has];cases x <;> simp[inR]⟩
  | pick cs=>
   rw[ze (zz (by rw[Kd.t];exact cs0))]
   cases l with
   | row ls=>exact z08 hn ih (.pick cs) ls hk hl hbigk
   | whole c c' =>
    rw[ze (zz (r0 _ _ _ (by rw[Kd.t]))),zr ((n0 _ _ _ _ (by rw[Kd.t]) (by rw[Kd.t])).trans rfl)]
    exact .inr ⟨rfl,λx=>by rw[Kd.has,Kd.has];cases x <;> simp[inR]⟩
   | pick es=>
    rw[ze (zz (r0 _ _ _ (by rw[Kd.t]))),ze (zz ((n0 _ _ _ _ (by rw[Kd.t]) (by rw[Kd.t])).trans rfl)),ze (zz (c0 _ _ _ (by rw[Kd.t]))),zr (c0 _ _ _ (by rw[Kd.t]))]
    show Cm _ _ _ (za 2 _ _ (en2 (Kd.pick cs).t (Kd.pick es).t));rw[Zq,v0,bOk,v1,bOk];exact QE cs es hk hl
   | many m lo hi=>
    rw[ze (zz (r0 _ _ _ (by rw[Kd.t]))),zr ((n0 _ _ _ _ (by rw[Kd.t]) (by rw[Kd.t])).trans rfl)]
    exact .inr ⟨rfl,λx=>by rw[Kd.has,Kd.has];cases x <;> simp⟩
  | many q lo hi=>
   rw[ze (zz (by rw[Kd.t];exact cs0))]
   cases l with
   | row ls=>exact z08 hn ih (.many q lo hi) ls hk hl hbigk
   | whole c c' =>
    rw[ze (zz (r0 _ _ _ (by rw[Kd.t]))),zr ((n0 _ _ _ _ (by rw[Kd.t]) (by rw[Kd.t])).trans rfl)]
    exact .inr ⟨rfl,λx=>by rw[Kd.has,Kd.has];cases x <;> simp[inR]⟩
   | pick es=>
    rw[ze (zz (r0 _ _ _ (by rw[Kd.t]))),zr ((n0 _ _ _ _ (by rw[Kd.t]) (by rw[Kd.t])).trans rfl)]
    exact .inr ⟨rfl,λx=>by rw[Kd.has,Kd.has];cases x <;> simp⟩
   | many m lo' hi' =>
    rw[ze (zz (r0 _ _ _ (by rw[Kd.t]))),ze (zz ((n0 _ _ _ _ (by rw[Kd.t]) (by rw[Kd.t])).trans rfl)),ze (zz (c0 _ _ _ (by rw[Kd.t]))),ze (zz (c0 _ _ _ (by rw[Kd.t]))),Zu]
    show Cm _ _ _ (za 2 _ _ (en2 (Kd.many q lo hi).t (Kd.many m lo' hi').t));rw[Zq,v0,bOk,v1,bOk];exact QF q m lo hi lo' hi' hk hl (ih q m hk.2.2 hl.2.2)
theorem Kh {xs:List T}{k:Nat}:slT (.tup xs) none (some (k:Int))= .ok (.tup (xs.take k)):=by
 show R.ok (T.tup (cut xs none (some (k:Int))))=_;have:cut xs none (some (k:Int))=xs.take k:=by
  unfold cut;rw[HT.sIx_none,HT.sIx_nat];simp only[dZ,fA];rw[fI];omega
 rw[this]
def S (l:List Nat):Str:=⟨l.toArray⟩
theorem Ki (l:List Nat):(S l).cps.toList=l:=by simp[S]
theorem z09 (l:List Nat):(S l).length=l.length:=by simp[S,h9]
theorem UF (a b:List Nat):S a++S b=S (a++b):=Str.ext' (by simp[S,Str.cps_append])
theorem Xa (x:Str):S x.cps.toList=x:=Str.ext' (by simp[S])
theorem YW {c:Nat}:∀{a b r s:List Nat},c ∉ a->c ∉ b->a++c :: r=b++c :: s->a=b/\r=s
 | [],[],_,_,_,_,h=>⟨rfl,by simpa using h⟩
 | [],y :: b,_,_,_,hb,h=>by
  injection h with h1 h2;exact absurd (h1 ▸ ah) hb
 | x :: a,[],_,_,ha,_,h=>by
  injection h with h1 h2;exact absurd (h1 ▸ ah) ha
 | x :: a,y :: b,_,_,ha,hb,h=>by
  injection h with h1 h2;obtain⟨e1,e2⟩:=YW (λz=>ha (ae _ z)) (λz=>hb (ae _ z)) h2;exact⟨by rw[h1,e1],e2⟩
def nl (i:Int):List Nat:=(xa i).cps.toList
theorem gw (i:Int):xa i=S (nl i):=(Xa _).symm
def nOk (i:Int):Bool:=decide ((nl i).length<=3) && !(nl i).isEmpty && (nl i).all (λc=>c == 45 || (decide (48<=c) && decide (c<=57))) && decide (rdI (xa i)=some i)
theorem z0a:∀k < 41,nOk ((k:Nat) - 20:Int)=true:=by decide+kernel
theorem Xb {i:Int}(h1: -20<=i)(h2:i<=20):(nl i).length<=3/\nl i ≠ []/\(∀c∈nl i,c=45\/(48<=c/\c<=57))/\rdI (xa i)=some i:=by
 have:=z0a (i+20).toNat (by omega)
 rw[show (((i+20).toNat:Nat) - 20:Int)=i by omega]at this
 unfold nOk at this;simp at this;exact⟨this.1.1.1,this.1.1.2,this.1.2,this.2⟩
theorem U6 {x:Str}(h:zQ (.str x)=true):x.cps.toList.length<=3:=by
 have h:(decide (1<=x.length) && decide (x.length<=3) && x.cps.toList.all zX)=true:=h;rw[af,af]at h;have:=of_decide_eq_true h.1.2;simpa[h9] using this
theorem Kj {i:Int}(h:i.natAbs < 1000000):txO (.int i)=some (S (nl i)):=by rw[← gw];exact if_pos h
theorem wY {x:Str}(h:zQ (.str x)=true):∀c∈x.cps.toList,97<=c/\c<=122:=by
 have h:(decide (1<=x.length) && decide (x.length<=3) && x.cps.toList.all zX)=true:=h;rw[af]at h;intro c hc;have:=aJ.mp h.2 c hc;unfold zX at this;simp at this;exact this
def Wt:Nat->T->Prop
 | 0,_=>False
 | d+1,x=>(∃i:Int,x= .int i/\ -20<=i/\i<=20)\/(∃w:Str,x= .str w/\zQ (.str w)=true)\/∃xs:List T,x= .tup xs/\xs.length<=3/\∀y∈xs,Wt d y
theorem YX:∀(d:Nat) (k:Kd) (x:T),k.Ok d->k.has x=true->Wt d x
 | 0,_,_,h,_=>h.elim
 | d+1,.whole lo hi,x,h,hx=>by
  rw[Kd.has]at hx;obtain⟨i,rfl⟩:=jY hx;have hx:(decide (lo<=i) && decide (i<=hi))=true:=hx;rw[af,decide_eq_true_eq,decide_eq_true_eq]at hx;have h1:=h.1;have h3:=h.2.2;exact .inl ⟨i,rfl,by omega,by omega⟩
 | d+1,.pick cs,x,h,hx=>by
  rw[Kd.has]at hx;dsimp only at hx;split at hx
  ·rename_i y;rw[cS]at hx;obtain⟨c,hc,e⟩:=hx;rw[← eq_of_beq e];exact .inr (.inl ⟨c.1,rfl,(h.2.2.1 c hc).1⟩)
  ·cases hx
 | d+1,.row ks,x,h,hx=>by
  rw[Kd.has]at hx;dsimp only at hx;split at hx
  ·rename_i xs;rw[af,beq_iff_eq]at hx;refine .inr (.inr ⟨xs,rfl,by rw[hx.1];exact h.2.1,λy hy=> ?_⟩)
   obtain⟨k,hk,hh⟩:=wW ks xs hx.1 hx.2 y hy;exact YX d k y (h.2.2 k hk) hh
  ·cases hx
 | d+1,.many k lo hi,x,h,hx=>by
  rw[Kd.has]at hx;dsimp only at hx;split at hx
  ·rename_i xs;rw[af,af,decide_eq_true_eq,decide_eq_true_eq,aJ]at hx;exact .inr (.inr ⟨xs,rfl,aq hx.1.2 h.2.1,λy hy=>YX d k y h.2.2 (hx.2 y hy)⟩)
  ·cases hx
theorem z0b {i:Int}(h1: -20<=i)(h2:i<=20){f:En->R T}{ρ:En}(h:f ρ= .ok (.int i)):ap1 vn f ρ= .ok (.str (S (nl i))):=by
 rw[zY,h,bOk];unfold vn;rw[Kj (by omega)]
theorem z0c {w:Str}(hw:zQ (.str w)=true){f:En->R T}{ρ:En}(h:f ρ= .ok (.str w)):ap1 vn f ρ= .ok (.str (S w.cps.toList)):=by
 have hl:=U6 hw;have e0:txO (.str w)=some (S w.cps.toList):=by rw[Xa];exact if_pos (by simp[h9]at hl ⊢;omega)
 rw[zY,h,bOk];unfold vn;rw[e0]
theorem Kk {i j:Int}(h1: -20<=i)(h2:i<=20)(h3: -20<=j)(h4:j<=20)(h:nl i=nl j):i=j:=by
 have e1:=(Xb h1 h2).2.2.2;have e2:=(Xb h3 h4).2.2.2;rw[gw,h,← gw,e2]at e1;exact(aR e1).symm
mutual
def rx:T->List Nat
 | .int i=>nl i
 | .str x=>39 :: (x.cps.toList++[39])
 | .tup xs=>40 :: rb xs
 | _=>[]
def rb:List T->List Nat
 | []=>[41]
 | x :: xs=>rx x++rc xs true
def rc:List T->Bool->List Nat
 | [],one=>if one then [44,41] else [41]
 | x :: xs,_=>44 :: 32 :: (rx x++rc xs false)
end
theorem YY (i:Int):rx (.int i)=nl i:=by rw[rx]
theorem QG (x:Str):rx (.str x)=39 :: (x.cps.toList++[39]):=by rw[rx]
theorem UL (xs:List T):rx (.tup xs)=40 :: rb xs:=by rw[rx]
def Del (r:List Nat):Prop:=∀c q,r=c :: q->c=44\/c=41
theorem U7 (xs:List T)(b:Bool)(r:List Nat):Del (rc xs b++r):=λc q h=>by
 cases xs with
 | nil=>
  rw[rc]at h;cases b with
  | true=>injection h with h1;exact .inl h1.symm
  | false=>injection h with h1;exact .inr h1.symm
 | cons x xs=>rw[rc]at h;injection h with h1;exact .inl h1.symm
def dg (c:Nat):Bool:=c == 45 || (decide (48<=c) && decide (c<=57))
theorem YZ:∀(a r:List Nat),(∀c∈a,dg c=true)->(∀c q,r=c :: q->dg c=false)->(a++r).takeWhile dg=a
 | [],r,_,h=>by
  cases r with
  | nil=>rfl
  | cons c q=>rw[bG,fU,h c q rfl];rfl
 | c :: a,r,h1,h2=>by
  rw[dH,fU,h1 c ah,YZ a r (λx hx=>h1 x (ae _ hx)) h2];rfl
theorem Kl {i:Int}(h1: -20<=i)(h2:i<=20):∀c∈nl i,dg c=true:=λc hc=>by
 have:=(Xb h1 h2).2.2.1 c hc;unfold dg;simp;omega
theorem vO {r:List Nat}(h:Del r):∀c q,r=c :: q->dg c=false:=λc q e=>by
 rcases h c q e with rfl | rfl <;> decide
theorem QH {i:Int}(h1: -20<=i)(h2:i<=20):∃c q,nl i=c :: q/\c ≠ 39/\c ≠ 40:=by
 obtain⟨_,hne,hch,_⟩:=Xb h1 h2;cases e:nl i with
 | nil=>exact absurd e hne
 | cons c q=>
  have:=hch c (by rw[e];exact ah)
  exact⟨c,q,rfl,by omega,by omega⟩
abbrev RxI (d:Nat):Prop:=∀(x y:T) (r s:List Nat),Wt d x->Wt d y->Del r->Del s->rx x++r=rx y++s->x=y/\r=s
theorem vP {d:Nat}(ih:RxI d):∀(xs ys:List T) (b:Bool) (r s:List Nat),(∀x∈xs,Wt d x)->(∀y∈ys,Wt d y)->rc xs b++r=rc ys b++s->xs=ys/\r=s
 | [],[],b,r,s,_,_,h=>⟨rfl,cz h⟩
 | [],y :: ys,b,r,s,_,_,h=>by
  rw[rc,rc]at h;cases b with
  | true=>injection h with _ h;injection h with h;cases h
  | false=>injection h with h;cases h
 | x :: xs,[],b,r,s,_,_,h=>by
  rw[rc,rc]at h;cases b with
  | true=>injection h with _ h;injection h with h;cases h
  | false=>injection h with h;cases h
 | x :: xs,y :: ys,b,r,s,hx,hy,h=>by
  rw[rc,rc]at h;injection h with _ h;injection h with _ h;have h:(rx x++rc xs false)++r=(rx y++rc ys false)++s:=h;rw[bh,bh]at h;obtain⟨e1,e2⟩:=ih x y _ _ (hx x ah) (hy y ah) (U7 _ _ _) (U7 _ _ _) h;obtain⟨e3,e4⟩:=vP ih xs ys false r s (λz hz=>hx z (ae _ hz)) (λz hz=>hy z (ae _ hz)) e2;exact⟨by rw[e1,e3],e4⟩
theorem Km {d:Nat}{x:T}(h:Wt d x):∃c q,rx x=c :: q/\c ≠ 41:=by
 cases d with
 | zero=>exact h.elim
 | succ d=>
  rcases h with ⟨i,rfl,h1,h2⟩ | ⟨w,rfl,hw⟩ | ⟨xs,rfl,h3,hy⟩
  ·obtain⟨_,hne,hch,_⟩:=Xb h1 h2;rw[YY];cases e:nl i with
   | nil=>exact absurd e hne
   | cons c q=>
    have:=hch c (by rw[e];exact ah)
    exact⟨c,q,rfl,by omega⟩
  ·exact⟨39,_,QG w,by decide⟩
  ·exact⟨40,_,UL xs,by decide⟩
theorem Kn {d:Nat}(ih:RxI d)(xs ys:List T)(r s:List Nat)(hx:∀x∈xs,Wt d x)(hy:∀y∈ys,Wt d y)(h:rb xs++r=rb ys++s):xs=ys/\r=s:=by
 cases xs with
 | nil=>
  cases ys with
  | nil=>exact⟨rfl,cz h⟩
  | cons y ys=>
   obtain⟨c,q,e,hc⟩:=Km (hy y ah);rw[rb,rb,e]at h;injection h with h;exact absurd h.symm hc
 | cons x xs=>
  cases ys with
  | nil=>
   obtain⟨c,q,e,hc⟩:=Km (hx x ah);rw[rb,rb,e]at h;injection h with h;exact absurd h hc
  | cons y ys=>
   rw[rb,rb,bh,bh]at h;obtain⟨e1,e2⟩:=ih x y _ _ (hx x ah) (hy y ah) (U7 _ _ _) (U7 _ _ _) h;obtain⟨e3,e4⟩:=vP ih xs ys true r s (λz hz=>hx z (ae _ hz)) (λz hz=>hy z (ae _ hz)) e2;exact⟨by rw[e1,e3],e4⟩
theorem qa:∀d:Nat,RxI d
 | 0=>λx y r s h=>h.elim
 | d+1=>λx y r s hx hy hr hs h=>by
  have ih:=qa d;rcases hx with ⟨i,rfl,h1,h2⟩ | ⟨w,rfl,hw⟩ | ⟨xs,rfl,h3,hxs⟩
  ·rcases hy with ⟨j,rfl,g1,g2⟩ | ⟨v,rfl,hv⟩ | ⟨ys,rfl,g3,hys⟩
   ·rw[YY,YY]at h;have e:=congrArg (List.takeWhile dg) h;rw[YZ _ _ (Kl h1 h2) (vO hr),YZ _ _ (Kl g1 g2) (vO hs)]at e;rw[e]at h;exact⟨by rw[Kk h1 h2 g1 g2 e],cz h⟩
   ·obtain⟨c,q,e,c1,c2⟩:=QH h1 h2;rw[YY,QG,e]at h;injection h with h;exact absurd h c1
   ·obtain⟨c,q,e,c1,c2⟩:=QH h1 h2;rw[YY,UL,e]at h;injection h with h;exact absurd h c2
  ·rcases hy with ⟨j,rfl,g1,g2⟩ | ⟨v,rfl,hv⟩ | ⟨ys,rfl,g3,hys⟩
   ·obtain⟨c,q,e,c1,c2⟩:=QH g1 g2;rw[YY,QG,e]at h;injection h with h;exact absurd h.symm c1
   ·rw[QG,QG]at h;injection h with _ h;have h:(w.cps.toList++[39])++r=(v.cps.toList++[39])++s:=h;rw[bh,bh]at h;have n1:39 ∉ w.cps.toList:=λz=>by have:=wY hw 39 z;omega
    have n2:39 ∉ v.cps.toList:=λz=>by have:=wY hv 39 z;omega
    obtain⟨e1,e2⟩:=YW n1 n2 h;exact⟨by rw[← Xa w,← Xa v,e1],e2⟩
   ·rw[QG,UL]at h;injection h with h;cases h
  ·rcases hy with ⟨j,rfl,g1,g2⟩ | ⟨v,rfl,hv⟩ | ⟨ys,rfl,g3,hys⟩
   ·obtain⟨c,q,e,c1,c2⟩:=QH g1 g2;rw[YY,UL,e]at h;injection h with h;exact absurd h.symm c2
   ·rw[QG,UL]at h;injection h with h;cases h
   ·rw[UL,UL]at h;injection h with _ h;obtain⟨e1,e2⟩:=Kn ih xs ys r s hxs hys h;exact⟨by rw[e1],e2⟩
theorem qb {x:Str}(h:zQ (.str x)=true):reprText x=S (39 :: (x.cps.toList++[39])):=by
 have hs:=wY h;have hq:reprQuote x=39:=by
  unfold reprQuote;refine if_neg ?_;have n1:x.cps.contains 39=false:=by
   rw[bE];intro z;rw[Array.contains_iff_mem]at z;have:=hs 39 (by simpa using z);omega
  rw[n1];simp
 have hc:∀c∈x.cps.toList,cN 39 c=[c]:=λc hc=>by
  obtain⟨a,b⟩:=hs c hc;have:c=97\/c=98\/c=99\/c=100\/c=101\/c=102\/c=103\/c=104\/c=105\/c=106\/c=107\/c=108\/c=109\/c=110\/c=111\/c=112\/c=113\/c=114\/c=115\/c=116\/c=117\/c=118\/c=119\/c=120\/c=121\/c=122:=by omega
  rcases this with rfl|rfl|rfl|rfl|rfl|rfl|rfl|rfl|rfl|rfl|rfl|rfl|rfl|rfl|rfl|rfl|rfl|rfl|rfl|rfl|rfl|rfl|rfl|rfl|rfl|rfl <;> decide+kernel
 have hf:∀(l:List Nat) (acc:Array Nat),(∀c∈l,cN 39 c=[c])->l.foldl (λout c=>out++(cN 39 c).toArray) acc=acc++l.toArray:=by
  intro l
  induction l with
  | nil=>intro acc _;simp
  | cons c l ih=>
   intro acc hl;rw[iE,hl c ah,ih _ λz hz=>hl z (ae _ hz)];simp
 refine Str.ext' ?_;have e0:(reprText x).cps=(Array.foldl (λout c=>out++(cN (reprQuote x) c).toArray) #[reprQuote x] x.cps).push (reprQuote x):=rfl;rw[e0,hq,← Array.foldl_toList,hf _ _ hc];simp[S]
theorem xS (i:Int):(aO (toString i))=S (nl i):=by rw[← gw];rfl
def jc:List (List Nat)->List Nat
 | []=>[]
 | [x]=>x
 | x :: y :: r=>x++44 :: 32 :: jc (y :: r)
theorem qc:∀ls:List (List Nat),Str.join ", " (ls.map S)=S (jc ls)
 | []=>rfl
 | [x]=>rfl
 | x :: y :: r=>by
  have h:=qc (y :: r);show S x++S [44,32]++Str.join ", " ((y :: r).map S)=_;rw[h,UF,UF];simp[jc]
theorem Ko:∀(x:T) (xs:List T),jc ((x :: xs).map rx)++[41]=rx x++rc xs false
 | x,[]=>by rw[rc];rfl
 | x,y :: ys=>by
  have h:=Ko y ys;rw[aB,aB];show (rx x++44 :: 32 :: jc (rx y :: ys.map rx))++[41]=_;rw[rc,← h,aB];simp
theorem QI (xs:List T):tupleText (xs.map λx=>S (rx x))=S (40 :: rb xs):=by
 have em:(xs.map λx=>S (rx x))=(xs.map rx).map S:=by rw[aQ];rfl
 unfold tupleText;rw[em,qc,ac,ac];cases xs with
 | nil=>rw[rb];decide+kernel
 | cons x xs=>
  cases xs with
  | nil=>
   rw[if_pos (by simp)]
   show S [40]++S (jc [rx x])++S [44,41]=_;rw[UF,UF,rb,rc];simp[jc]
  | cons y ys=>
   rw[if_neg (by simp)]
   show S [40]++S (jc ((x :: y :: ys).map rx))++S [41]=_;rw[UF,UF];have h:=Ko x (y :: ys);have e:rb (x :: y :: ys)=rx x++rc (y :: ys) false:=by rw[rb,rc,rc]
   rw[e,← h];simp
theorem qd:∀(d:Nat) (x:T),Wt d x->(toD x).shown=S (rx x)/\okD x=true/\(toD x).depth<=d
 | 0,_,h=>h.elim
 | d+1,x,h=>by
  rcases h with ⟨i,rfl,h1,h2⟩ | ⟨w,rfl,hw⟩ | ⟨xs,rfl,h3,hxs⟩
  ·rw[toD,okD,YY];exact⟨by simp only[ig];exact xS i,decide_eq_true (by omega),by simp only[ii];omega⟩
  ·rw[toD,okD,QG];exact⟨by simp only[ig];exact qb hw,rfl,by simp only[ii];omega⟩
  ·have go:∀ys:List T,(∀y∈ys,Wt d y)->fG (u8 ys)=(ys.map λy=>S (rx y))/\yX ys=true/\fH (u8 ys)<=d:=by
    intro ys
    induction ys with
    | nil=>intro _;rw[u8,yX];exact⟨by simp only[fG,bY],rfl,by simp only[fH];omega⟩
    | cons y ys ih=>
     intro hy;obtain⟨a1,a2,a3⟩:=qd d y (hy y ah);obtain⟨b1,b2,b3⟩:=ih λz hz=>hy z (ae _ hz);rw[u8,yX];exact⟨by simp only[fG,aB,a1,b1],by rw[a2,b2];rfl,by simp only[fH];omega⟩
   obtain⟨g1,g2,g3⟩:=go xs hxs;rw[toD,okD,UL];exact⟨by simp only[ig];rw[g1,QI],g2,by simp only[ii];omega⟩
def sx:T->List Nat
 | .int i=>nl i
 | .str x=>x.cps.toList
 | .tup xs=>40 :: rb xs
 | _=>[]
def lr:Nat->Nat
 | 0=>0
 | d+1=>3*lr d+8
theorem vQ {B:Nat}:∀(xs:List T) (b:Bool),(∀x∈xs,(rx x).length<=B)->(rc xs b).length<=xs.length*(B+2)+2
 | [],b,_=>by rw[rc];cases b <;> simp
 | x :: xs,b,h=>by
  have h1:=h x ah;have h2:=vQ xs false λy hy=>h y (ae _ hy);rw[rc];simp only[al,aA,iC];omega
theorem Kp {B:Nat}(xs:List T)(h3:xs.length<=3)(h:∀x∈xs,(rx x).length<=B):(rb xs).length<=3*B+6:=by
 cases xs with
 | nil=>rw[rb];simp only[al,aP];omega
 | cons x xs=>
  have h1:=h x ah;have h2:=vQ (B:=B) xs true λy hy=>h y (ae _ hy);rw[rb,aA];have:xs.length*(B+2)<=2*(B+2):=Nat.mul_le_mul_right _ (by simp at h3;omega)
  omega
theorem vR:∀(d:Nat) (x:T),Wt d x->(rx x).length<=lr d
 | 0,_,h=>h.elim
 | d+1,x,h=>by
  rcases h with ⟨i,rfl,h1,h2⟩ | ⟨w,rfl,hw⟩ | ⟨xs,rfl,h3,hxs⟩
  ·rw[YY];have:=(Xb h1 h2).1;unfold lr;omega
  ·rw[QG];have:=U6 hw;simp only[al,aA,aP,lr];omega
  ·have:=Kp (B:=lr d) xs h3 λy hy=>vR d y (hxs y hy);rw[UL];simp only[al,lr];omega
theorem Kq {x:T}(h:Wt 3 x){f:En->R T}{ρ:En}(hf:f ρ= .ok x):ap1 Ws f ρ= .ok (.str (S (sx x))):=by
 obtain⟨a1,a2,a3⟩:=qd 3 x h;have hl:=vR 3 x h;have e3:lr 3=104:=by decide
 rw[e3]at hl;rcases h with ⟨i,rfl,h1,h2⟩ | ⟨w,rfl,hw⟩ | ⟨xs,rfl,h3,hxs⟩
 ·rw[zY,hf,bOk];show vn (.int i)=_;have:=z0b h1 h2 (f:=cE (.int i)) (ρ:=[]) rfl;rw[zY,zq,bOk]at this;exact this
 ·rw[zY,hf,bOk];show vn (.str w)=_;have:=z0c hw (f:=cE (.str w)) (ρ:=[]) rfl;rw[zY,zq,bOk]at this;exact this
 ·rw[zY,hf,bOk];rw[UL]at a1 hl;rw[okD]at a2;have hlen:(toD (.tup xs)).shown.length<=10000:=by rw[a1,z09];omega
  unfold Ws;dsimp only;rw[if_pos ⟨a2,by omega,hlen⟩,a1];rfl
theorem wZ:Del []:=λc q h=>by cases h
theorem Kr {k:Kd}(hk:k.Ok 3){x y:T}(hx:k.has x=true)(hy:k.has y=true)(e:sx x=sx y):x=y:=by
 have wx:=YX 3 k x hk hx;have wy:=YX 3 k y hk hy;have key:(∃i,x= .int i)/\(∃j,y= .int j)\/(∃w,x= .str w)/\(∃v,y= .str v)\/(∃xs,x= .tup xs)/\∃ys,y= .tup ys:=by
  cases k with
  | whole lo hi=>
   rw[Kd.has]at hx hy;obtain⟨i,rfl⟩:=jY hx;obtain⟨j,rfl⟩:=jY hy;exact .inl ⟨⟨i,rfl⟩,⟨j,rfl⟩⟩
  | pick cs=>
   rw[Kd.has]at hx hy;cases x with
   | str w=>
    cases y with
    | str v=>exact .inr (.inl ⟨⟨w,rfl⟩,⟨v,rfl⟩⟩)
    | _=>cases hy
   | _=>cases hx
  | row ks=>
   rw[Kd.has]at hx hy;cases x with
   | tup w=>
    cases y with
    | tup v=>exact .inr (.inr ⟨⟨w,rfl⟩,⟨v,rfl⟩⟩)
    | _=>cases hy
   | _=>cases hx
  | many q lo hi=>
   rw[Kd.has]at hx hy;cases x with
   | tup w=>
    cases y with
    | tup v=>exact .inr (.inr ⟨⟨w,rfl⟩,⟨v,rfl⟩⟩)
    | _=>cases hy
   | _=>cases hx
 rcases key with ⟨⟨i,rfl⟩,⟨j,rfl⟩⟩ | ⟨⟨w,rfl⟩,⟨v,rfl⟩⟩ | ⟨⟨xs,rfl⟩,⟨ys,rfl⟩⟩
 ·exact(qa 3 _ _ [] [] wx wy wZ wZ (by rw[YY,YY];show nl i++[]=nl j++[];rw[show nl i=nl j from e])).1
 ·have e:w.cps.toList=v.cps.toList:=e;rw[← Xa w,← Xa v,e]
 ·exact(qa 3 _ _ [] [] wx wy wZ wZ (by rw[UL,UL];show (40 :: rb xs)++[]=(40 :: rb ys)++[];rw[show 40 :: rb xs=40 :: rb ys from e])).1
def pr (w:T):T:= .tup [.str (S (sx w)),w]
def sndT:T->T
 | .tup [_,b]=>b
 | t=>t
theorem Ks (w:T):kkT (pr w)=sx w:=Ki _
theorem QJ (a b:T):leP a b=true↔kkT a<=kkT b:=by
 unfold leP;rw[eP,decide_eq_false_iff_not,iB]
theorem j1 (ts:List T):(WR ts).Perm ts:=fS _ _
theorem vS (ts:List T):(WR ts).Pairwise λa b=>leP a b=true:=fk (λa b c h1 h2=>by
 rw[QJ]at*;exact List.le_trans h1 h2) (λa b=>by
 rw[dL,QJ,QJ];exact List.le_total _ _) ts
theorem Kt {l m:List T}(hp:l.Perm m)(hn:(m.map kkT).Nodup):WR l=WR m:=by
 refine eT (le:=λa b=>leP a b=true) (λa b ha hb h1 h2=> ?_) (vS l) (vS m) (((j1 l).trans hp).trans (j1 m).symm);rw[QJ]at h1 h2;have e:kkT a=kkT b:=ir h1 h2;have ha' :=hp.mem_iff.mp ((j1 l).mem_iff.mp ha);have hb' :=(j1 m).mem_iff.mp hb;obtain⟨i,hi,rfl⟩:=bJ.mp ha';obtain⟨j,hj,rfl⟩:=bJ.mp hb';have:=(cv (i:=i) (j:=j) (h₀:=by simpa using hi) (h₁:=by simpa using hj) hn).mp (by simpa using e)
 subst this;rfl
theorem uu {k:Kd}(hk:k.Ok 3):((k.all.map pr).map kkT).Nodup:=by
 rw[aQ];have e:(kkT ∘ pr)=sx:=funext Ks;rw[e];refine cj.mpr (eU (λ{a b} ha hb hab z=>hab ?_) (Jj 3 k hk));exact Kr hk ((Zg k a).mp ha) ((Zg k b).mp hb) z
theorem vT:∀l:List T,(l.map pr).all X4=true
 | []=>rfl
 | x :: l=>by rw[aB,bc,vT l];rfl
theorem U8:∀(ts:List T) (x y:Sl),(∀t∈ts,∃a b,t= .tup [a,b])->zI (Zb 0 1) Z1 (vE 1) ts [x,y]= .ok (ts.map sndT)
 | [],_,_,_=>rfl
 | t :: ts,x,y,h=>by
  obtain⟨a,b,rfl⟩:=h t ah;have e:zI (Zb 0 1) Z1 (vE 1) (.tup [a,b] :: ts) [x,y]=(zI (Zb 0 1) Z1 (vE 1) ts [.vl a,.vl b]).bind λvs=> .ok (b :: vs):=rfl;rw[e,U8 ts _ _ λu hu=>h u (ae _ hu)];rfl
def hasO:Option Kd->T->Bool
 | some c=>c.has
 | none=>λ_=>false
def okO (m:Nat):Option Kd->Prop
 | some c=>c.Ok 3/\c.all.length<=m
 | none=>True
theorem uv {k l:Kd}(hk:k.Ok 3)(hl:l.Ok 3):f_c [k.t,l.t]=S_5 20 0 [k.t,l.t]:=by
 show zg (b_c f_l (f_5 20) (en2 k.t l.t))=_;unfold b_c;rw[ze (ut (t:= .non) (by rw[zM,v0,bOk,ur hk])),ze (ut (t:= .non) (by rw[zM,v1,bOk,ur hl])),Zu]
 show za 2 _ _ (en2 k.t l.t)=_;rw[Zq,v0,bOk,v1,bOk]
theorem com {k l:Kd}(hk:k.Ok 3)(hl:l.Ok 3):∃o:Option Kd,f_c [k.t,l.t]= .ok (Z4 o)/\okO k.all.length o/\(∀x,hasO o x=(k.has x && l.has x))/\
  f_p [k.t,l.t]= .ok (.bl (match o with | some c=>c.all.length == k.all.length | none=>false))/\f_o [k.t,l.t]= .ok (.bl o.isNone):=by
 have hb:=uv hk hl;have ew:∀t,f_c [k.t,l.t]= .ok t->f_p [k.t,l.t]=Ja (Zi Z8 (vB 2) (cE .non)) (Zi eqC (za 1 (f_4 20) (z9 (vE 2) (zc))) (za 1 (f_4 20) (z9 (vE 0) (zc)))) [.vl k.t,.vl l.t,.vl t]:=λt ht=>by
  have e1:zx 2 (za 2 f_c (z9 (vE 0) (z9 (vE 1) (zc)))) [.vl k.t,.vl l.t,.un]= .nx [.vl k.t,.vl l.t,.vl t]:=by
   rw[zG (t:=t)]
   ·rfl
   ·rw[Zq,v0,bOk,v1,bOk,ht]
  show zg (b_p (f_4 20) f_c [.vl k.t,.vl l.t,.un])=_;unfold b_p;rw[ze e1,Zu];rfl
 have ea:∀t,f_c [k.t,l.t]= .ok t->f_o [k.t,l.t]=Zi Jl (cE t) (cE .non) []:=λt ht=>by
  show zg (b_o f_c (en2 k.t l.t))=_;unfold b_o;rw[Zu];show Zi _ _ _ (en2 k.t l.t)=_;rw[Z3,Zq,v0,bOk,v1,bOk,ht];rfl
 rcases vN 3 20 (by omega) k l hk hl with ⟨c,a1,a2,a3⟩ | ⟨a1,a2⟩
 ·have hs:∀x,c.has x=true->k.has x=true:=λx hx=>by rw[a3]at hx;exact(ck.mp hx).1
  obtain⟨y,r,hct⟩:=gu c;refine⟨some c,hb.trans a1,⟨a2,(xQ a2 hk hs).1⟩,a3, ?_, ?_⟩
  ·rw[ew _ (hb.trans a1)];have e0:Zi Z8 (vB 2) (cE .non) [.vl k.t,.vl l.t,.vl c.t]= .ok (.bl true):=by rw[hct];rfl
   rw[JJ,e0,Zx,if_pos rfl,Z3,zM,v2,bOk,Jq (by omega) a2,bOk,zM,v0,bOk,Jq (by omega) hk,bOk,eqI,bOk,ww]
  ·rw[ea _ (hb.trans a1),Z3,zq,bOk,zq,bOk,hct];rfl
 ·refine⟨none,hb.trans a1,trivial,λx=>(a2 x).symm, ?_, ?_⟩
  ·rw[ew _ (hb.trans a1)];rfl
  ·rw[ea _ (hb.trans a1)];rfl
theorem nb {b:Bool}:neC (.bl b) (.bl b)= .ok false:=by cases b <;> rfl
abbrev trK:En->R T:=Uu 2 f_c f_p f_o (vE 0) (z9 (vE 1) (z9 (vE 2) (zc)))
theorem jg {w t x v:T}(h:trK (en6 w t x .non)= .ok v):f_6 [w,t,x]= .ok v:=by
 show zg (b_6 f_9 f_c f_p f_o [.vl w,.vl t,.vl x,.un,.un,.un])=_;have e1:zx 3 (cE .non) [.vl w,.vl t,.vl x,.un,.un,.un]= .nx [.vl w,.vl t,.vl x,.vl .non,.un,.un]:=rfl;have e2:zx 4 (cE .non) [.vl w,.vl t,.vl x,.vl .non,.un,.un]= .nx (en6 w t x .non):=rfl;have e3:VL 3 okX (zx 4 trK) (en6 w t x .non)= .nx (en6 w t x v):=by unfold VL;rw[set4 h]
 have e4:kC 3 (en6 w t x v)= .ok true:=rfl;rw[b_6,ze e1,ze e2,ze e3,j5 (t:=v)]
 ·rfl
 ·rw[uo e4];rfl
theorem W0 {w t x:T}(h:trK (en6 w t x .non)= .ex 0):f_6 [w,t,x]= .ok (.str "no kind"):=by
 show zg (b_6 f_9 f_c f_p f_o [.vl w,.vl t,.vl x,.un,.un,.un])=_;have e1:zx 3 (cE .non) [.vl w,.vl t,.vl x,.un,.un,.un]= .nx [.vl w,.vl t,.vl x,.vl .non,.un,.un]:=rfl;have e2:zx 4 (cE .non) [.vl w,.vl t,.vl x,.vl .non,.un,.un]= .nx (en6 w t x .non):=rfl;have e3:VL 3 okX (zx 4 trK) (en6 w t x .non)= .nx [.un,.un,.un,.xc 0,.un,.un]:=by unfold VL;rw[vJ h];rfl
 have e4:kC 3 [.un,.un,.un,.xc 0,.un,.un]= .ok false:=rfl;rw[b_6,ze e1,ze e2,ze e3,ze (zz e4)];show zg ((f_9 0).s λt=> .rt t)=_;rw[z06];rfl
theorem gy {t x a:T}:trK (en6 (.int 0) t x a)=f_c [t,x]:=by
 have e:trK (en6 (.int 0) t x a)=za 2 f_c (z9 (vE 1) (z9 (vE 2) (zc))) (en6 (.int 0) t x a):=by unfold trK Uu;rw[v0,bOk];rfl
 rw[e,Zq,v1,bOk,v2,bOk]
theorem trK1 {t x a:T}:trK (en6 (.int 1) t x a)=f_p [t,x]:=by
 have e:trK (en6 (.int 1) t x a)=za 2 f_p (z9 (vE 1) (z9 (vE 2) (zc))) (en6 (.int 1) t x a):=by unfold trK Uu;rw[v0,bOk];rfl
 rw[e,Zq,v1,bOk,v2,bOk]
theorem trK2 {t x a:T}:trK (en6 (.int 2) t x a)=f_o [t,x]:=by
 have e:trK (en6 (.int 2) t x a)=za 2 f_o (z9 (vE 1) (z9 (vE 2) (zc))) (en6 (.int 2) t x a):=by unfold trK Uu;rw[v0,bOk];rfl
 rw[e,Zq,v1,bOk,v2,bOk]
theorem com3 {k l:Kd}(hk:k.Ok 3)(hl:l.Ok 3):∃o:Option Kd,f_6 [.int 0,k.t,l.t]= .ok (Z4 o)/\okO k.all.length o/\(∀x,hasO o x=(k.has x && l.has x))/\
  f_6 [.int 1,k.t,l.t]= .ok (.bl (match o with | some c=>c.all.length == k.all.length | none=>false))/\f_6 [.int 2,k.t,l.t]= .ok (.bl o.isNone):=by
 obtain⟨o,a1,a2,a3,a4,a5⟩:=com hk hl;exact⟨o,jg (gy.trans a1),a2,a3,jg (trK1.trans a4),jg (trK2.trans a5)⟩
theorem uw {f g:En->RS}{ρ:En}{c:Nat}(h:f ρ= .ex c):zm f g ρ= .ex c:=by unfold zm;rw[h]
theorem xT {t x:T}(h:f_l [t]= .ex 0\/f_l [t]= .ok .non/\f_l [x]= .ex 0):f_c [t,x]= .ex 0:=by
 show zg (b_c f_l (f_5 20) (en2 t x))=_;unfold b_c;rcases h with h | ⟨h1,h2⟩
 ·rw[uw (YJ (by rw[zM,v0,bOk,h]))];rfl
 ·rw[ze (ut (t:= .non) (by rw[zM,v0,bOk,h1])),uw (YJ (by rw[zM,v1,bOk,h2]))];rfl
theorem WQ {t x:T}(h:f_l [t]= .ex 0\/f_l [t]= .ok .non/\f_l [x]= .ex 0)(j:Nat)(hj:j < 3):f_6 [.int (j:Int),t,x]= .ok (.str "no kind"):=by
 have hb:=xT h;have:j=0\/j=1\/j=2:=by omega
 rcases this with rfl | rfl | rfl
 ·exact W0 (gy.trans hb)
 ·refine W0 (trK1.trans ?_);show zg (b_p (f_4 20) f_c [.vl t,.vl x,.un])=_;unfold b_p;rw[uw (vJ (by rw[Zq,v0,bOk,v1,bOk,hb]))];rfl
 ·refine W0 (trK2.trans ?_);show zg (b_o f_c (en2 t x))=_;unfold b_o;rw[Zu];show Zi _ _ _ (en2 t x)=_;rw[Z3,Zq,v0,bOk,v1,bOk,hb];rfl
theorem Ku {f:T->T->Option Bool}:∀xs ys:List T,(∀x∈xs,∀y∈ys,∃b,f x y=some b/\(b=true↔x=y))->∃b,eqL f xs ys=some b/\(b=true↔xs=ys)
 | [],[],_=>⟨true,rfl,by simp⟩
 | [],y :: ys,_=>⟨false,rfl,by simp⟩
 | x :: xs,[],_=>⟨false,rfl,by simp⟩
 | x :: xs,y :: ys,H=>by
  obtain⟨b,e,h⟩:=H x ah y ah;obtain⟨c,e',h'⟩:=Ku xs ys λu hu v hv=>H u (ae _ hu) v (ae _ hv);have e0:eqL f (x :: xs) (y :: ys)=match f x y with
   | none=>none
   | some b=>match eqL f xs ys with
    | none=>none
    | some c=>some (b && c):=rfl
  refine⟨b && c,by rw[e0,e,e'], ?_⟩
  rw[af,h,h',List.cons.injEq]
theorem Kv:∀(n d e:Nat) (x y:T),d<=n->Wt d x->Wt e y->∃b,eqF n x y=some b/\(b=true↔x=y)
 | n,0,_,_,_,_,h,_=>h.elim
 | n,d+1,0,_,_,_,_,h=>h.elim
 | 0,d+1,e+1,_,_,h,_,_=>by omega
 | n+1,d+1,e+1,x,y,hn,hx,hy=>by
  rcases hx with ⟨i,rfl,_,_⟩ | ⟨i,rfl,_⟩ | ⟨xs,rfl,_,hx⟩ <;> rcases hy with ⟨j,rfl,_,_⟩ | ⟨j,rfl,_⟩ | ⟨ys,rfl,_,hy⟩
  ·exact⟨i == j,rfl,by rw[beq_iff_eq,T.int.injEq]⟩
  ·exact⟨false,rfl,by simp⟩
  ·exact⟨false,rfl,by simp⟩
  ·exact⟨false,rfl,by simp⟩
  ·exact⟨i == j,rfl,by rw[beq_iff_eq,T.str.injEq]⟩
  ·exact⟨false,rfl,by simp⟩
  ·exact⟨false,rfl,by simp⟩
  ·exact⟨false,rfl,by simp⟩
  ·obtain⟨b,e1,h1⟩:=Ku (f:=eqF n) xs ys λu hu v hv=>Kv n d e u v (by omega) (hx u hu) (hy v hv)
   exact⟨b,e1,by rw[h1,T.tup.injEq]⟩
theorem vU {x:T}(hx:Wt 3 x):∀ys:List T,(∀y∈ys,Wt 3 y)->∃b,wG (λy=>eqF 30 y x) ys=some b/\(b=true↔x∈ys)
 | [],_=>⟨false,rfl,by simp⟩
 | y :: ys,H=>by
  obtain⟨b,e,h⟩:=Kv 30 3 3 y x (by omega) (H y ah) hx
  obtain⟨c,e',h'⟩:=vU hx ys λv hv=>H v (ae _ hv);have e0:wG (λy=>eqF 30 y x) (y :: ys)=match eqF 30 y x with
   | none=>none
   | some b=>match wG (λy=>eqF 30 y x) ys with
    | none=>none
    | some d=>some (b || d):=rfl
  refine⟨b || c,by rw[e0,e,e'], ?_⟩
  rw[dL,h,h',ax];exact⟨λq=>q.elim (λz=> .inl z.symm) .inr,λq=>q.elim (λz=> .inl z.symm) .inr⟩
theorem wz {k:Kd}(hk:k.Ok 3):∀x∈k.all,Wt 3 x:=λx hx=>YX 3 k x hk ((Zg k x).mp hx)
theorem vV {k:Kd}(hk:k.Ok 3){x:T}(hx:Wt 3 x):inC x (.lst k.all)= .ok (k.has x):=by
 obtain⟨b,e,h⟩:=vU hx k.all (wz hk);have hb:b=k.has x:=by rw[dh,h,Zg]
 show (match wG (λy=>eqF 30 y x) k.all with | some b=>R.ok b | none=> .bad)=_
 rw[e,hb]
abbrev du (k l:Kd):List T:=k.all.filter l.has
def ws (l:List T):List T:=(WR (l.map pr)).map sndT
theorem JY {l:List T}(hl:∀x∈l,Wt 3 x)(hk:((l.map pr).map kkT).Nodup)(h64:l.length < 64\/l.length=64/\((l.map pr).map kkT).Pairwise (· < ·)):f_d [.lst l]= .ok (.lst (ws l)):=by
 have hb:bnd=16777216:=rfl;have h65:l.length<=64:=by omega
 have e1:zC (Zm (vE 0)) (zo 0) Z1 (zp (z9 (ap1 Ws (vE 0)) (z9 (vE 0) (zc)))) 1 [] [.vl (.lst l)]= .ok (.lst (l.map pr)):=by
  have ec:zF (zo 0) Z1 (zp (z9 (ap1 Ws (vE 0)) (z9 (vE 0) (zc)))) 1 [] [.vl (.lst l)] l= .ok (l.map pr):=
   Z2 _ (by omega) λt ht=>wP (Kq (hl t ht) rfl) rfl
  rw[zE,Zs,v0,bOk];show ((R.ok l).bind _)=_;rw[bOk,ec,bOk]
 have e2:Zm (ap1 uR (zC (Zm (vE 0)) (zo 0) Z1 (zp (z9 (ap1 Ws (vE 0)) (z9 (vE 0) (zc)))) 1 [])) [.vl (.lst l)]= .ok (WR (l.map pr)):=by
  rw[Zs,zY,e1,bOk];have:uR (.lst (l.map pr))= .ok (.lst (WR (l.map pr))):=if_pos ⟨vT _,hk,by rw[ac];exact h64⟩
  rw[this,bOk];rfl
 have hm:∀t∈WR (l.map pr),∃a b,t= .tup [a,b]:=λt ht=>by
  obtain⟨w,_,rfl⟩:=aw.mp ((j1 _).mem_iff.mp ht);exact⟨_,_,rfl⟩
 show zg (b_d [.vl (.lst l)])=_;unfold b_d;rw[Zu];show zC _ _ _ _ _ _ [.vl (.lst l)]=_;rw[zE,e2,bOk];unfold zF;rw[if_pos (by rw[(j1 _).length_eq,ac];omega)]
 show (quiet (zI _ _ _ _ [.un,.un])).bind _=_;rw[U8 _ _ _ hm];rfl
theorem z0d {l:List T}(hl:∀x∈l,Pl 3 x):Pl 30 (.lst (ws l)):=by
 refine Pl.le (n:=4) (by omega) λx hx=> ?_
 unfold ws at hx;obtain⟨t,ht,rfl⟩:=aw.mp hx;obtain⟨w,hw,rfl⟩:=aw.mp ((j1 _).mem_iff.mp ht);exact hl w hw
theorem Kw {l m:List T}(hp:l.Perm m)(hk:((m.map pr).map kkT).Nodup):ws l=ws m:=by
 unfold ws;rw[Kt (hp.map pr) hk]
theorem J6 {ft:En->R Bool}{p:T->Bool}{k:Nat}{js:List Nat}{ρ:En}(ts:List T)(hl:ts.length<=bnd)(H:∀t∈ts,ft ((Jp k js ρ).set 0 (.vl t))= .ok (p t)/\vE 0 ((Jp k js ρ).set 0 (.vl t))= .ok t):zF (zo 0) ft (vE 0) k js ρ ts= .ok (ts.filter p):=by
 unfold zF;rw[if_pos hl,zW (h:=id) ts _ λt ht=>⟨(H t ht).1,λ_=>(H t ht).2⟩,eQ];rfl
theorem U9 {ws:List Str}:Dst ws↔ws.Nodup:=by
 constructor
 ·intro h;refine br.mpr λi j hi hj hij e=> ?_;refine h j ws[j] (ad hj) ?_;rw[← e];exact eJ.mpr ⟨i,by omega,rfl⟩
 ·intro h k w hk hm;obtain⟨hk',rfl⟩:=az.mp hk;obtain⟨i,hi,e⟩:=eJ.mp hm;exact br.mp h i k (by omega) hk' (by omega) e
abbrev nE (ns:List Int)(a:Int)(t:T)(p x y z:Sl):En:=[.vl (scr ns),.vl (.int a),.vl t,p,x,y,z]
abbrev Near (c:List T->R T)(ns:List Int)(d:Nat)(k:Kd):Prop:=∀a:Int,0<=a->∃q:Kd,c [scr ns,.int a,k.t]= .ok q.t/\q.Ok d
theorem nx0 {ns:List Int}{a:Int}{x w:Str}{r:List T}{p u y z:Sl}:zi eqC (zb ixT (vE 2) (cE (.int 0))) (cE (.str w)) (nE ns a (.tup (.str x :: r)) p u y z)= .ok (x == w):=by
 rw[zj,zf,v2,bOk,zq,bOk,at0,bOk,zq,bOk];rfl
theorem nx1 {ns:List Int}{a:Int}{x w:T}{r:List T}{p u y z:Sl}:zb ixT (vE 2) (cE (.int 1)) (nE ns a (.tup (x :: w :: r)) p u y z)= .ok w:=by rw[zf,v2,bOk,zq,bOk,at1]
theorem nx2 {ns:List Int}{a:Int}{x w v:T}{r:List T}{p u y z:Sl}:zb ixT (vE 2) (cE (.int 2)) (nE ns a (.tup (x :: w :: v :: r)) p u y z)= .ok v:=by rw[zf,v2,bOk,zq,bOk,at2]
theorem nx3 {ns:List Int}{a:Int}{x w v o:T}{r:List T}{p u y z:Sl}:zb ixT (vE 2) (cE (.int 3)) (nE ns a (.tup (x :: w :: v :: o :: r)) p u y z)= .ok o:=by rw[zf,v2,bOk,zq,bOk,at3]
abbrev nPk (g:En->R T):En->R T:=za 3 f_2 (z9 (vE 0) (z9 (zb zl (vE 1) (cE (.int 1))) (z9 g (zc))))
theorem npk {ns:List Int}{a:Int}(ha:0<=a){m:Nat}(hm:1<=m):∃q:Nat,q < m/\∀(g:En->R T) (t:T) (p u y z:Sl),g (nE ns a t p u y z)= .ok (.int (m:Int))->nPk g (nE ns a t p u y z)= .ok (.int (q:Int)):=by
 obtain⟨q,hq,q0,q1⟩:=zL ns (a+1) (m:Int) (by omega) (by omega)
 refine⟨q.toNat,by omega,λg t p u y z hg=> ?_⟩
 unfold nPk;rw[zD,v0,bOk,zf,v1,bOk,zq,bOk,zJ,bOk,hg,bOk,hq];rw[show ((q.toNat:Nat):Int)=q by omega]
theorem xU:∀(d:Nat) (k:Kd),k.Ok d->Pl (2*d+2) k.t
 | 0,_,h=>h.elim
 | d+1,.whole lo hi,_=>by
  rw[Kd.t];intro x hx;simp only[ax,aY,or_false]at hx;rcases hx with rfl | rfl | rfl <;> trivial
 | d+1,.pick cs,_=>by
  rw[Kd.t];intro x hx;simp only[ax,aY,or_false]at hx;rcases hx with rfl | rfl
  ·trivial
  ·intro y hy;obtain⟨c,_,rfl⟩:=aw.mp hy;unfold Zo;show Pl (2*d+2) _;intro z hz;simp only[ax,aY,or_false]at hz;rcases hz with rfl | rfl <;> trivial
 | d+1,.row ks,h=>by
  rw[Kd.t,Kd.ts_map];intro x hx;simp only[ax,aY,or_false]at hx;rcases hx with rfl | rfl
  ·trivial
  ·intro y hy;obtain⟨c,hc,rfl⟩:=aw.mp hy;exact xU d c (h.2.2 c hc)
 | d+1,.many k lo hi,h=>by
  rw[Kd.t];intro x hx;simp only[ax,aY,or_false]at hx;rcases hx with rfl | rfl | rfl | rfl
  ·trivial
  ·exact(xU d k h.2.2).up
  ·trivial
  ·trivial
theorem UG {ns:List Int}{a:Int}(ha:0<=a){d:Nat}{p:Int}(p0:0<=p)(p3:p < 3)(lo hi:Int)(h:(Kd.whole lo hi).Ok (d+1)){g:En->RS}:∃q:Kd,zg (zm (ifS (zi eqC (zb ixT (vE 2) (cE (.int 0))) (cE (.str "whole"))) (zm (zx 4 (zb Jn (uE (cE (.int 20))) (zb ZY (cE (.int 20)) (zb jN (zb zl (zb ixT (vE 2) (cE (.int 1))) (vE 3)) (cE (.int 1))))))
  (zt (zp (z9 (cE (.str "whole")) (z9 (vE 4) (z9 (zb Jn (vE 4) (zb ZY (cE (.int 20)) (zb jN (zb zl (zb ixT (vE 2) (cE (.int 2))) (nPk (cE (.int 3)))) (cE (.int 1))))) (zc))))))) (nxS)) g (nE ns a (Kd.whole lo hi).t (.vl (.int p)) .un .un .un))= .ok q.t/\q.Ok (d+1):=by
 obtain⟨h1,h2,h3⟩:=h;obtain⟨q,q3,hq⟩:=npk (ns:=ns) ha (m:=3) (by omega)
 rw[Kd.t];have e4:zx 4 (zb Jn (uE (cE (.int 20))) (zb ZY (cE (.int 20)) (zb jN (zb zl (zb ixT (vE 2) (cE (.int 1))) (vE 3)) (cE (.int 1))))) (nE ns a (.tup [.str "whole",.int lo,.int hi]) (.vl (.int p)) .un .un .un)= .nx (nE ns a (.tup [.str "whole",.int lo,.int hi]) (.vl (.int p)) (.vl (.int (max (-20) (min 20 (lo+p - 1))))) .un .un):=by
  rw[zG (t:= .int (max (-20) (min 20 (lo+p - 1))))]
  ·rfl
  ·exact QD rfl (YO rfl (by rw[zf,zf,nx1,bOk,v3,bOk,zJ,bOk,zq,bOk,j4]))
 have er:zp (z9 (cE (.str "whole")) (z9 (vE 4) (z9 (zb Jn (vE 4) (zb ZY (cE (.int 20)) (zb jN (zb zl (zb ixT (vE 2) (cE (.int 2))) (nPk (cE (.int 3)))) (cE (.int 1))))) (zc)))) (nE ns a (.tup [.str "whole",.int lo,.int hi]) (.vl (.int p)) (.vl (.int (max (-20) (min 20 (lo+p - 1))))) .un .un)= .ok (.tup [.str "whole",.int (max (-20) (min 20 (lo+p - 1))),.int (max (max (-20) (min 20 (lo+p - 1))) (min 20 (hi+(q:Int) - 1)))]):=
  K0 rfl rfl (QD rfl (YO rfl (by rw[zf,zf,nx2,bOk,hq _ _ _ _ _ _ rfl,bOk,zJ,bOk,zq,bOk,j4])))
 refine⟨.whole (max (-20) (min 20 (lo+p - 1))) (max (max (-20) (min 20 (lo+p - 1))) (min 20 (hi+(q:Int) - 1))), ?_,⟨by omega,by omega,by omega⟩⟩
 rw[j5 (t:= .tup [.str "whole",.int (max (-20) (min 20 (lo+p - 1))),.int (max (max (-20) (min 20 (lo+p - 1))) (min 20 (hi+(q:Int) - 1)))]) (by rw[uo nx0,ze e4];exact Zv er),Kd.t];rfl
def hv (c:Str×Int):Str×Int:=(c.1,1+c.2 % 20)
theorem qe:∀(cs:List (Str×Int)) (x y:Sl),zI (Zb 0 1) Z1 (zp (z9 (vE 0) (z9 (zb zl (cE (.int 1)) (zb jB (vE 1) (cE (.int 20)))) (zc)))) (cs.map Zo) [x,y]= .ok ((cs.map hv).map Zo)
 | [],_,_=>rfl
 | c :: cs,x,y=>by
  have e:zI (Zb 0 1) Z1 (zp (z9 (vE 0) (z9 (zb zl (cE (.int 1)) (zb jB (vE 1) (cE (.int 20)))) (zc)))) ((c :: cs).map Zo) [x,y]=(R.ok (Zo (hv c))).bind λv=>(zI (Zb 0 1) Z1 (zp (z9 (vE 0) (z9 (zb zl (cE (.int 1)) (zb jB (vE 1) (cE (.int 20)))) (zc)))) (cs.map Zo) [.vl (.str c.1),.vl (.int c.2)]).bind λvs=> .ok (v :: vs):=rfl;rw[e,qe cs,bOk,bOk];rfl
theorem qf {ns:List Int}{a:Int}(ha:0<=a){d:Nat}{p:Int}(p0:0<=p)(cs:List (Str×Int))(h:(Kd.pick cs).Ok (d+1)){g:En->RS}:∃q:Kd,zg (zm (ifS (zi eqC (zb ixT (vE 2) (cE (.int 0))) (cE (.str "pick"))) (zm (zx 5 (ifE (zi gtC (vB 3) (cE (.int 0))) (slE (zb ixT (vE 2) (cE (.int 1))) (Z5 (nPk (ap1 zK (zb ixT (vE 2) (cE (.int 1)))))) (noO)) (ap1 Y5 (zb ixT (vE 2) (cE (.int 1))))))
  (zt (zp (z9 (cE (.str "pick")) (z9 (ap1 UI (zC (Zm (vE 5)) (Zb 0 1) (Z1) (zp (z9 (vE 0) (z9 (zb zl (cE (.int 1)) (zb jB (vE 1) (cE (.int 20)))) (zc)))) 2 [])) (zc)))))) (nxS)) g (nE ns a (Kd.pick cs).t (.vl (.int p)) .un .un .un))= .ok q.t/\q.Ok (d+1):=by
 obtain⟨h1,h4,hc,hd⟩:=h;have hb:bnd=16777216:=rfl;obtain⟨q,q3,hq⟩:=npk (ns:=ns) ha (m:=cs.length) (by omega)
 rw[Kd.t];have e5:∃es:List (Str×Int),1<=es.length/\es.length<=4/\(∀c∈es,c∈cs)/\(es.map (·.1)).Nodup/\ifE (zi gtC (vB 3) (cE (.int 0))) (slE (zb ixT (vE 2) (cE (.int 1))) (Z5 (nPk (ap1 zK (zb ixT (vE 2) (cE (.int 1)))))) (noO)) (ap1 Y5 (zb ixT (vE 2) (cE (.int 1)))) (nE ns a (.tup [.str "pick",.tup (cs.map Zo)]) (.vl (.int p)) .un .un .un)= .ok (.tup (es.map Zo)):=by
  have et:zi gtC (vB 3) (cE (.int 0)) (nE ns a (.tup [.str "pick",.tup (cs.map Zo)]) (.vl (.int p)) .un .un .un)= .ok (decide (0 < p)):=rfl
  by_cases hp:0 < p
  ·refine⟨cs.drop q,by rw[bB];omega,by rw[bB];omega,λc hc=>fQ hc, ?_, ?_⟩
   ·rw[fX];exact(U9.mp hd).sublist (List.drop_sublist _ _)
   ·rw[QA (by rw[et,decide_eq_true hp]),Jo,nx1,bOk,je (hq _ _ _ _ _ _ (by rw[zY,nx1,bOk,ZD,ac])),bOk,Yd,bOk,WF (by rw[ac];omega),fX]
  ·refine⟨cs.reverse,by rw[dO];omega,by rw[dO];omega,λc hc=>List.mem_reverse.mp hc, ?_, ?_⟩
   ·rw[ix];exact(List.reverse_perm _).nodup_iff.mpr (U9.mp hd)
   ·rw[QB (by rw[et,decide_eq_false hp]),zY,nx1,bOk]
    show (if (cs.map Zo).length<=bnd/\cs.map Zo ≠ [] then R.ok (T.tup (cs.map Zo).reverse) else .bad)=_
    rw[if_pos ⟨by rw[ac];omega,λz=>by have:=congrArg iy z;rw[ac,aP]at this;omega⟩,ix]
 obtain⟨es,s1,s2,s3,s4,s5⟩:=e5;have e6:zx 5 (ifE (zi gtC (vB 3) (cE (.int 0))) (slE (zb ixT (vE 2) (cE (.int 1))) (Z5 (nPk (ap1 zK (zb ixT (vE 2) (cE (.int 1)))))) (noO)) (ap1 Y5 (zb ixT (vE 2) (cE (.int 1))))) (nE ns a (.tup [.str "pick",.tup (cs.map Zo)]) (.vl (.int p)) .un .un .un)= .nx (nE ns a (.tup [.str "pick",.tup (cs.map Zo)]) (.vl (.int p)) .un (.vl (.tup (es.map Zo))) .un):=by
  rw[zG s5];rfl
 have er:zp (z9 (cE (.str "pick")) (z9 (ap1 UI (zC (Zm (vE 5)) (Zb 0 1) (Z1) (zp (z9 (vE 0) (z9 (zb zl (cE (.int 1)) (zb jB (vE 1) (cE (.int 20)))) (zc)))) 2 [])) (zc))) (nE ns a (.tup [.str "pick",.tup (cs.map Zo)]) (.vl (.int p)) .un (.vl (.tup (es.map Zo))) .un)= .ok (.tup [.str "pick",.tup ((es.map hv).map Zo)]):=by
  refine wP rfl ?_;rw[zY,zE];show R.bind (R.bind (R.ok (es.map Zo)) _) _=_;rw[bOk];unfold zF;rw[if_pos (by rw[ac];omega)]
  show R.bind (R.bind (quiet (zI _ _ _ _ [.un,.un])) _) _=_;rw[qe];rfl
 refine⟨.pick (es.map hv), ?_,⟨by rw[ac];exact s1,by rw[ac];exact s2,λc hc' => ?_,U9.mpr ?_⟩⟩
 ·rw[j5 (t:= .tup [.str "pick",.tup ((es.map hv).map Zo)]) (by rw[uo nx0,ze e6];exact Zv er),Kd.t];rfl
 ·obtain⟨e,he,rfl⟩:=aw.mp hc';have h0:=hc e (s3 e he);refine⟨h0.1, ?_, ?_⟩
  ·show 1<=1+e.2 % 20;omega
  ·show 1+e.2 % 20<=20;omega
 ·rw[aQ];exact s4
theorem ux (xs:List T):eqC (.lst xs) (.lst [])= .ok xs.isEmpty:=by cases xs <;> rfl
theorem QK {ns:List Int}{a:Int}(ha:0<=a){d:Nat}{p:Int}{c:List T->R T}(ks:List Kd)(h:(Kd.row ks).Ok (d+1))(hd:d<=2)(hc:∀k∈ks,Near c ns d k){g:En->RS}:∃q:Kd,zg (zm (ifS (zi eqC (zb ixT (vE 2) (cE (.int 0))) (cE (.str "row"))) (zm (zx 6 (nPk (ap1 zK (zb ixT (vE 2) (cE (.int 1))))))
  (zm (ifS (jt (zi eqC (vB 3) (cE (.int 0))) (zi eqC (zC (Zm (zb ixT (vE 2) (cE (.int 1)))) (zo 0) (zi neC (vB 0) (zb ixT (zb ixT (vE 1) (cE (.int 1))) (cE (.int 0)))) (vE 0) 1 [2]) (Zp (zc)))) (zt (zp (z9 (cE (.str "many")) (z9 (zb ixT (zb ixT (vE 2) (cE (.int 1))) (cE (.int 0))) (z9 (zb ZY (cE (.int 1)) (ap1 zK (zb ixT (vE 2) (cE (.int 1))))) (z9 (ap1 zK (zb ixT (vE 2) (cE (.int 1)))) (zc))))))) (nxS))
  (zt (zp (z9 (cE (.str "row")) (z9 (zb zl (zb zl (slE (zb ixT (vE 2) (cE (.int 1))) (noO) (Z5 (vE 6))) (zp (z9 (za 3 c (z9 (vE 0) (z9 (zb zl (vE 1) (cE (.int 7))) (z9 (zb ixT (zb ixT (vE 2) (cE (.int 1))) (vE 6)) (zc))))) (zc)))) (slE (zb ixT (vE 2) (cE (.int 1))) (Z5 (zb zl (vE 6) (cE (.int 1)))) (noO))) (zc))))))) (nxS)) g (nE ns a (Kd.row ks).t (.vl (.int p)) .un .un .un))= .ok q.t/\q.Ok (d+1):=by
 obtain⟨h1,h3,h4⟩:=h;have hb:bnd=16777216:=rfl;obtain⟨q,ql,hq⟩:=npk (ns:=ns) ha (m:=ks.length) (by omega)
 obtain⟨k0,hk0⟩:=vH (xs:=ks) (i:=0) (by omega)
 obtain⟨kq,hkq⟩:=vH (xs:=ks) (i:=q) ql;obtain⟨r,r1,r2⟩:=hc kq (bx hkq) (a+7) (by omega)
 rw[Kd.t,Kd.ts_map];have e6:zx 6 (nPk (ap1 zK (zb ixT (vE 2) (cE (.int 1))))) (nE ns a (.tup [.str "row",.tup (ks.map Kd.t)]) (.vl (.int p)) .un .un .un)= .nx (nE ns a (.tup [.str "row",.tup (ks.map Kd.t)]) (.vl (.int p)) .un .un (.vl (.int (q:Int)))):=by
  rw[zG (hq _ _ _ _ _ _ (by rw[zY,nx1,bOk,ZD,ac]))];rfl
 have ex:∀{p u y z:Sl} {i:Nat} {k:Kd} {f:En->R T},ks[i]? =some k->f (nE ns a (.tup [.str "row",.tup (ks.map Kd.t)]) p u y z)= .ok (.int (i:Int))->zb ixT (zb ixT (vE 2) (cE (.int 1))) f (nE ns a (.tup [.str "row",.tup (ks.map Kd.t)]) p u y z)= .ok k.t:=λhi hf=>by
  rw[zf,nx1,bOk,hf,bOk];exact vI (by rw[aG,hi];rfl)
 have eb:∃b,jt (zi eqC (vB 3) (cE (.int 0))) (zi eqC (zC (Zm (zb ixT (vE 2) (cE (.int 1)))) (zo 0) (zi neC (vB 0) (zb ixT (zb ixT (vE 1) (cE (.int 1))) (cE (.int 0)))) (vE 0) 1 [2]) (Zp (zc))) (nE ns a (.tup [.str "row",.tup (ks.map Kd.t)]) (.vl (.int p)) .un .un (.vl (.int (q:Int))))= .ok b:=by
  rw[ZZ,zj];show ∃b,R.bind (R.ok (p == 0)) _= .ok b;rw[bOk];split
  ·have ec:zF (zo 0) (zi neC (vB 0) (zb ixT (zb ixT (vE 1) (cE (.int 1))) (cE (.int 0)))) (vE 0) 1 [2] (nE ns a (.tup [.str "row",.tup (ks.map Kd.t)]) (.vl (.int p)) .un .un (.vl (.int (q:Int)))) (ks.map Kd.t)= .ok ((ks.map Kd.t).filter λt=>match eqF 30 t k0.t with | some b=> !b | none=>false):=by
    refine J6 _ (by rw[ac];omega) λt ht=>⟨?_,rfl⟩
    obtain⟨k,hk,rfl⟩:=aw.mp ht;show zi neC (vB 0) _ (en2 k.t (.tup [.str "row",.tup (ks.map Kd.t)]))=_;have e0:zb ixT (zb ixT (vE 1) (cE (.int 1))) (cE (.int 0)) (en2 k.t (.tup [.str "row",.tup (ks.map Kd.t)]))= .ok k0.t:=by
     rw[zf,zf,v1,bOk,zq,bOk,at1,bOk,zq,bOk];exact vI (j:=0) (by rw[aG,hk0];rfl)
    rw[zj,w0,bOk,e0,bOk];obtain⟨b,hb⟩:=Jy 30 k.t k0.t ((xU d k (h4 k hk)).le (by omega))
    unfold neC;rw[hb]
   have ei:Zm (zb ixT (vE 2) (cE (.int 1))) (nE ns a (.tup [.str "row",.tup (ks.map Kd.t)]) (.vl (.int p)) .un .un (.vl (.int (q:Int))))= .ok (ks.map Kd.t):=by rw[Zs,nx1,bOk];rfl
   rw[zj,zE,ei,bOk,ec,bOk,bOk];exact⟨_,ux _⟩
  ·exact⟨_,rfl⟩
 obtain⟨b,eb⟩:=eb;cases b with
 | true=>
  refine⟨.many k0 1 ks.length, ?_,⟨by omega,h3,h4 k0 (bx hk0)⟩⟩
  have el:∀{p u y z:Sl},ap1 zK (zb ixT (vE 2) (cE (.int 1))) (nE ns a (.tup [.str "row",.tup (ks.map Kd.t)]) p u y z)= .ok (.int (ks.length:Int)):=by
   intro p u y z;rw[zY,nx1,bOk,ZD,ac]
  have er:zp (z9 (cE (.str "many")) (z9 (zb ixT (zb ixT (vE 2) (cE (.int 1))) (cE (.int 0))) (z9 (zb ZY (cE (.int 1)) (ap1 zK (zb ixT (vE 2) (cE (.int 1))))) (z9 (ap1 zK (zb ixT (vE 2) (cE (.int 1)))) (zc))))) (nE ns a (.tup [.str "row",.tup (ks.map Kd.t)]) (.vl (.int p)) .un .un (.vl (.int (q:Int))))= .ok (.tup [.str "many",k0.t,.int ((1:Nat):Int),.int (ks.length:Int)]):=
   Qj rfl (ex (i:=0) hk0 rfl) (by rw[YO rfl el];rw[show min 1 (ks.length:Int)=((1:Nat):Int) by omega]) el
  rw[j5 (t:= .tup [.str "many",k0.t,.int ((1:Nat):Int),.int (ks.length:Int)]) (by rw[uo nx0,ze e6,j5 (by rw[uo eb];exact Zv er)]),Kd.t];rfl
 | false=>
  have es:zb zl (zb zl (slE (zb ixT (vE 2) (cE (.int 1))) (noO) (Z5 (vE 6))) (zp (z9 (za 3 c (z9 (vE 0) (z9 (zb zl (vE 1) (cE (.int 7))) (z9 (zb ixT (zb ixT (vE 2) (cE (.int 1))) (vE 6)) (zc))))) (zc)))) (slE (zb ixT (vE 2) (cE (.int 1))) (Z5 (zb zl (vE 6) (cE (.int 1)))) (noO)) (nE ns a (.tup [.str "row",.tup (ks.map Kd.t)]) (.vl (.int p)) .un .un (.vl (.int (q:Int))))= .ok (.tup ((ks.take q++[r]++ks.drop (q+1)).map Kd.t)):=by
   have s1:slE (zb ixT (vE 2) (cE (.int 1))) (noO) (Z5 (vE 6)) (nE ns a (.tup [.str "row",.tup (ks.map Kd.t)]) (.vl (.int p)) .un .un (.vl (.int (q:Int))))= .ok (.tup ((ks.map Kd.t).take q)):=by
    rw[Jo,nx1,bOk,Yd,bOk,je (i:=(q:Int)) rfl,bOk,Kh]
   have s2:slE (zb ixT (vE 2) (cE (.int 1))) (Z5 (zb zl (vE 6) (cE (.int 1)))) (noO) (nE ns a (.tup [.str "row",.tup (ks.map Kd.t)]) (.vl (.int p)) .un .un (.vl (.int (q:Int))))= .ok (.tup ((ks.map Kd.t).drop (q+1))):=by
    rw[Jo,nx1,bOk,je (i:=((q+1:Nat):Int)) rfl,bOk,Yd,bOk,WF (by rw[ac];omega)]
   have s3:zp (z9 (za 3 c (z9 (vE 0) (z9 (zb zl (vE 1) (cE (.int 7))) (z9 (zb ixT (zb ixT (vE 2) (cE (.int 1))) (vE 6)) (zc))))) (zc)) (nE ns a (.tup [.str "row",.tup (ks.map Kd.t)]) (.vl (.int p)) .un .un (.vl (.int (q:Int))))= .ok (.tup [r.t]):=by
    refine X9 ?_;rw[zD,v0,bOk,zf,v1,bOk,zq,bOk,zJ,bOk,ex hkq rfl,bOk,r1]
   rw[zf,zf,s1,bOk,s3,bOk,Jg (by rw[bn,ac];simp only[al,aP];omega),bOk,s2,bOk,Jg (by rw[aA,bn,bB,ac];simp only[al,aP];omega)]
   rw[df,df,List.map_take,fX];rfl
  refine⟨.row (ks.take q++[r]++ks.drop (q+1)), ?_,⟨?_, ?_,λk hk=> ?_⟩⟩
  ·rw[j5 (t:= .tup [.str "row",.tup ((ks.take q++[r]++ks.drop (q+1)).map Kd.t)]) (by rw[uo nx0,ze e6,ze (zz eb)];exact Zv (wP rfl es)),Kd.t,Kd.ts_map];rfl
  ·simp only[aA,al,aP];omega
  ·simp only[aA,al,aP,bn,bB];omega
  ·rcases bV.mp hk with hk | hk
   ·rcases bV.mp hk with hk | hk
    ·exact h4 k (List.mem_of_mem_take hk)
    ·rw[aT.mp hk];exact r2
   ·exact h4 k (fQ hk)
theorem qg (ns:List Int):∀(d n:Nat),d<=n->d<=3->∀k:Kd,k.Ok d->Near (S_h n 0) ns d k
 | 0,_,_,_,_,h=>h.elim
 | d+1,n+1,hn,h3,k,h=>λa ha=>by
  have ih:=qg ns d n (by omega) (by omega)
  obtain⟨p,hp,p0,p4⟩:=zL ns a 4 ha (by omega)
  have e:S_h (n+1) 0 [scr ns,.int a,k.t]=zg (b_h f_2 f_k (S_h n 0) (nE ns a k.t .un .un .un .un)):=by rw[S_h];rfl
  have e1:zx 3 (za 3 f_2 (z9 (vE 0) (z9 (vE 1) (z9 (cE (.int 4)) (zc))))) (nE ns a k.t .un .un .un .un)= .nx (nE ns a k.t (.vl (.int p)) .un .un .un):=by
   rw[zG (t:= .int p)]
   ·rfl
   ·rw[zD,v0,bOk,v1,bOk,zq,bOk,hp]
  have e2:∀{j:Int} {t:T} {x y z:Sl},zi eqC (vB 3) (cE (.int j)) (nE ns a t (.vl (.int p)) x y z)= .ok (p == j):=rfl;rw[e];unfold b_h;rw[ze e1]
  by_cases hp3:p=3
  ·obtain⟨t,ht,hi⟩:=Yg ns (a+5) (by omega)
   obtain⟨q,rfl,hq⟩:=wT (d+1) t (hi d);refine⟨q, ?_,hq⟩;rw[zr (by rw[e2,hp3];rfl)]
   show za 2 _ _ (nE ns a k.t (.vl (.int p)) .un .un .un)=_;rw[Zq,v0,bOk,zf,v1,bOk,zq,bOk,zJ,bOk,ht]
  ·rw[ze (zz (by rw[e2];exact congrArg R.ok (beq_false_of_ne hp3)))]
   cases k with
   | whole lo hi=>exact UG ha p0 (by omega) lo hi h
   | pick cs=>
    rw[ze (zz (by rw[Kd.t];exact nx0))]
    exact qf ha p0 cs h
   | row ks=>
    rw[ze (zz (by rw[Kd.t];exact nx0)),ze (zz (by rw[Kd.t];exact nx0))]
    exact QK ha ks h (by omega) λk hk=>ih k (h.2.2 k hk)
   | many k lo hi=>
    obtain⟨h1,h2,h4⟩:=h;rw[ze (zz (by rw[Kd.t];exact nx0)),ze (zz (by rw[Kd.t];exact nx0)),ze (zz (by rw[Kd.t];exact nx0))]
    have hp' :p=0\/p=1\/p=2:=by omega
    rcases hp' with rfl | rfl | rfl
    ·obtain⟨q,q1,q2⟩:=ih k h4 (a+7) (by omega)
     refine⟨.many q lo hi, ?_,⟨h1,h2,q2⟩⟩;rw[zr (by rw[e2];rfl),Kd.t]
     show zp _ (nE ns a (.tup [.str "many",k.t,.int (lo:Int),.int (hi:Int)]) (.vl (.int 0)) .un .un .un)=_;rw[Qj (x:= .str "many") rfl (by rw[zD,v0,bOk,zf,v1,bOk,zq,bOk,zJ,bOk,nx1,bOk,q1]) nx2 nx3,Kd.t]
    ·obtain⟨q,q3,hq⟩:=npk (ns:=ns) ha (m:=3) (by omega)
     refine⟨.row (ag (1+q) k), ?_,⟨by rw[aI];omega,by rw[aI];omega,λz hz=>by rw[bF hz];exact h4⟩⟩
     rw[ze (zz (by rw[e2];rfl)),zr (by rw[e2];rfl),Kd.t]
     show zp _ (nE ns a (.tup [.str "many",k.t,.int (lo:Int),.int (hi:Int)]) (.vl (.int 1)) .un .un .un)=_;have hq' :=hq (cE (.int 3)) (.tup [.str "many",k.t,.int (lo:Int),.int (hi:Int)]) (.vl (.int 1)) .un .un .un rfl;unfold nPk at hq';rw[wP (x:= .str "row") rfl (by rw[zf,X9 nx1,bOk,zf,zq,bOk,hq',bOk,zJ,bOk];exact vK (m:=1+q) (by omega) (by omega))]
     rw[Kd.ts_map,bH]
    ·obtain⟨q,q3,hq⟩:=npk (ns:=ns) ha (m:=hi+1) (by omega)
     refine⟨.many k q hi, ?_,⟨by omega,h2,h4⟩⟩
     have e4:zx 4 (nPk (zb zl (zb ixT (vE 2) (cE (.int 3))) (cE (.int 1)))) (nE ns a (.tup [.str "many",k.t,.int (lo:Int),.int (hi:Int)]) (.vl (.int 2)) .un .un .un)= .nx (nE ns a (.tup [.str "many",k.t,.int (lo:Int),.int (hi:Int)]) (.vl (.int 2)) (.vl (.int (q:Int))) .un .un):=by
      rw[zG (hq _ _ _ _ _ _ (by rw[zf,nx3,bOk,zq,bOk,zJ];rfl))];rfl
     rw[ze (zz (by rw[e2];rfl)),ze (zz (by rw[e2];rfl)),Kd.t,ze e4,Zu]
     show zp _ (nE ns a (.tup [.str "many",k.t,.int (lo:Int),.int (hi:Int)]) (.vl (.int 2)) (.vl (.int (q:Int))) .un .un)=_;rw[Qj (x:= .str "many") rfl nx1 rfl nx3,Kd.t]
theorem QL {k:Kd}(hk:k.Ok 3)(l:Kd):(du k l).Nodup:=(Jj 3 k hk).sublist dQ
theorem Jk (k l:Kd)(x:T):x∈du k l↔k.has x=true/\l.has x=true:=by rw[bO,Zg]
theorem JZ {k l:Kd}(hk:k.Ok 3)(hl:l.Ok 3):(du l k).Perm (du k l):=by
 rw[cO (QL hl k) (QL hk l)];intro x;rw[Jk,Jk];exact And.comm
def Tld (k l:Kd):Option Kd->Prop
 | some c=>c.Ok 3/\c.all.Perm (du k l)
 | none=>du k l=[]
theorem qv {k l:Kd}(hk:k.Ok 3)(hl:l.Ok 3):∃o:Option Kd,f_6 [.int 0,k.t,l.t]= .ok (Z4 o)/\Tld k l o/\f_6 [.int 1,k.t,l.t]= .ok (.bl ((du k l).length == k.all.length))/\f_6 [.int 2,k.t,l.t]= .ok (.bl (du k l).isEmpty):=by
 obtain⟨o,a1,a2,a3,a4,a5⟩:=com3 hk hl;cases o with
 | none=>
  have hd:du k l=[]:=cA.mpr λx hx=>by
   have:=a3 x;obtain⟨u,v⟩:=(Jk k l x).mp hx;rw[u,v]at this;cases this
  refine⟨none,a1,hd, ?_, ?_⟩
  ·rw[a4,hd];have:=ZF 3 k hk;show R.ok (T.bl false)= .ok (.bl (0 == k.all.length));rw[beq_false_of_ne (by omega)]
  ·rw[a5,hd];rfl
 | some c=>
  have hp:c.all.Perm (du k l):=by
   rw[cO (Jj 3 c a2.1) (QL hk l)];intro x;rw[Zg,Jk];have:c.has x=(k.has x && l.has x):=a3 x;rw[this,af]
  refine⟨some c,a1,⟨a2.1,hp⟩, ?_, ?_⟩
  ·rw[a4];show R.ok (T.bl (c.all.length == k.all.length))=_;rw[hp.length_eq]
  ·rw[a5];have h1:=ZF 3 c a2.1;rw[hp.length_eq]at h1;cases hd:du k l with
   | nil=>rw[hd]at h1;cases h1
   | cons x xs=>rfl
abbrev C64 (l:List T):Prop:=l.length < 64\/l.length=64/\((l.map pr).map kkT).Pairwise (· < ·)
theorem z0e {k:Kd}(hk:k.Ok 3)(l:Kd):∀x∈du k l,Wt 3 x:=λx hx=>wz hk x (bO.mp hx).1
theorem W1 {k:Kd}(hk:k.Ok 3)(l:Kd):(((du k l).map pr).map kkT).Nodup:=(uu hk).sublist ((dQ.map _).map _)
theorem z0f {k:Kd}(hk:k.Ok 3)(l:Kd):∀x∈du k l,Pl 3 x:=λx hx=>xN 3 k x hk ((Zg k x).mp (bO.mp hx).1)
theorem qh {k l:Kd}(hk:k.Ok 3)(hd:C64 (du k l)):f_d [.lst (du k l)]= .ok (.lst (ws (du k l)))/\Pl 30 (.lst (ws (du k l))):=⟨JY (z0e hk l) (W1 hk l) hd,z0d (z0f hk l)⟩
theorem xV {c k l:Kd}(hk:k.Ok 3)(hc:c.Ok 3)(hp:c.all.Perm (du k l))(h64:C64 c.all):f_d [.lst c.all]= .ok (.lst (ws (du k l))):=by
 rw[JY (wz hc) (uu hc) h64,Kw hp (W1 hk l)]
theorem qi (k:Kd):du k k=k.all:=cU.mpr λx hx=>(Zg k x).mp hx
theorem J7 (o:Option Kd):Jl (Z4 o) .non= .ok o.isNone:=by
 cases o with
 | none=>rfl
 | some q=>obtain⟨x,r,h⟩:=gu q;show Jl q.t .non=_;rw[h];rfl
theorem ZT {k l:Kd}{o:Option Kd}(h:Tld k l o):o.isNone=(du k l).isEmpty:=by
 cases o with
 | none=>have h:du k l=[]:=h;rw[h];rfl
 | some c=>
  have h1:=ZF 3 c h.1;rw[h.2.length_eq]at h1;cases hd:du k l with
  | nil=>rw[hd]at h1;cases h1
  | cons x xs=>rfl
theorem qj {c:Kd}(hc:c.Ok 3):f_1 [c.t]= .ok (.bl true):=by
 have hi:=WO 3 c hc;rw[wt c.t (jK 3 c.t hi).so,hi]
theorem QM {k l:Kd}(hk:k.Ok 3)(hl:l.Ok 3)(hz:k.all.length<=1000){ρ:En}{i:Nat}(hi:ρ[i]? =some (.vl (.lst l.all))):zF (zo 0) (zi inC (vB 0) (vB 1)) (vE 0) 1 [i] ρ k.all= .ok (du k l):=by
 have hb:bnd=16777216:=rfl;refine J6 _ (by omega) λt ht=> ?_
 have ec:(Jp 1 [i] ρ).set 0 (.vl t)=en2 t (.lst l.all):=by
  unfold Jp qr;simp only[aB,bY,hi];rfl
 rw[ec];exact⟨vV hl (wz hk t ht),rfl⟩
abbrev r3:Kd:= .row [.whole 0 3,.whole 0 3,.whole 0 3]
theorem c30 (lo:Nat)(h:lo < 4):S_5 20 0 [r3.t,(Kd.many (.whole 0 3) lo 3).t]= .ok r3.t/\S_5 20 0 [(Kd.many (.whole 0 3) lo 3).t,r3.t]= .ok r3.t:=by
 have:lo=0\/lo=1\/lo=2\/lo=3:=by omega
 rcases this with rfl | rfl | rfl | rfl <;> exact⟨rfl,rfl⟩
theorem c32:(r3.all.map sx).Pairwise (· < ·):=by decide+kernel
abbrev RE (a b c d e:Sl)(D:List T)(x y z:Sl):En:=[a,b,c,d,e,.vl (.lst D),x,y,z]
abbrev rcB:En->RS:=(zm (zx 8 (za 3 f_6 (z9 (cE (.int 0)) (z9 (vE 6) (z9 (vE 7) (zc))))))
  (zm (ifS (orT (zi neC (Zi Jl (vB 8) (cE .non)) (Zi eqC (vB 5) (Zp (zc)))) (jt (zi Z8 (vB 8) (cE .non)) (zi Z8 (za 1 f_1 (z9 (vE 8) (zc))) (cE (.bl true))))) (zt (cE (.bl false))) (nxS))
  (zm (ifS (jt (zi Z8 (vB 8) (cE .non)) (zi neC (za 1 f_d (z9 (za 1 (f_3 8) (z9 (vE 8) (zc))) (zc))) (za 1 f_d (z9 (vE 5) (zc))))) (zt (cE (.bl false))) (nxS))
  (ifS (orT (zi neC (za 3 f_6 (z9 (cE (.int 1)) (z9 (vE 6) (z9 (vE 7) (zc))))) (Zi eqC (ap1 zK (vB 5)) (ap1 zK (za 1 (f_3 8) (z9 (vE 6) (zc)))))) (zi neC (za 3 f_6 (z9 (cE (.int 2)) (z9 (vE 6) (z9 (vE 7) (zc))))) (Zi eqC (vB 5) (Zp (zc))))) (zt (cE (.bl false))) (nxS)))))
theorem alls {c:Kd}(hc:c.Ok 3)(hz:c.all.length<=1000):f_3 8 [c.t]= .ok (.lst c.all):=Yy 3 8 (by omega) (by omega) c hc (by omega)
theorem W2 {l m:List T}(h:l.Perm m):l.isEmpty=m.isEmpty:=by
 have:=h.length_eq;cases l <;> cases m <;> first | rfl | cases this
theorem qk {k l:Kd}(hk:k.Ok 3)(hl:l.Ok 3)(hz:k.all.length<=1000){D:List T}(hD:D.Perm (du k l))(hs:f_d [.lst D]= .ok (.lst (ws D)))(hpl:Pl 30 (.lst (ws D)))(hn:((D.map pr).map kkT).Nodup)
  (h64:∀c:Kd,f_6 [.int 0,k.t,l.t]= .ok c.t->c.Ok 3->c.all.Perm D->C64 c.all) (a b c d e z:Sl):∃z',rcB (RE a b c d e D (.vl k.t) (.vl l.t) z)= .nx (RE a b c d e D (.vl k.t) (.vl l.t) z'):=by
 obtain⟨o,o1,o2,o3,o4⟩:=qv hk hl;have hdl:(du k l).length<=1000:=aq (aW _ _) hz;have hem:=ZT o2;refine⟨.vl (Z4 o), ?_⟩;have v6:∀z,vE 6 (RE a b c d e D (.vl k.t) (.vl l.t) z)= .ok k.t:=λ_=>rfl;have v7:∀z,vE 7 (RE a b c d e D (.vl k.t) (.vl l.t) z)= .ok l.t:=λ_=>rfl;have v8:vE 8 (RE a b c d e D (.vl k.t) (.vl l.t) (.vl (Z4 o)))= .ok (Z4 o):=rfl;have w8:vB 8 (RE a b c d e D (.vl k.t) (.vl l.t) (.vl (Z4 o)))= .ok (Z4 o):=rfl;have v5:vE 5 (RE a b c d e D (.vl k.t) (.vl l.t) (.vl (Z4 o)))= .ok (.lst D):=rfl;have w5:vB 5 (RE a b c d e D (.vl k.t) (.vl l.t) (.vl (Z4 o)))= .ok (.lst D):=rfl;have n0:∀ρ,Zp zc ρ= .ok (.lst []):=λ_=>rfl;have e1:zx 8 (za 3 f_6 (z9 (cE (.int 0)) (z9 (vE 6) (z9 (vE 7) (zc))))) (RE a b c d e D (.vl k.t) (.vl l.t) z)= .nx (RE a b c d e D (.vl k.t) (.vl l.t) (.vl (Z4 o))):=by
  rw[zG (t:=Z4 o)]
  ·rfl
  ·rw[zD,zq,bOk,v6,bOk,v7,bOk,o1]
 have isnN:Z8 (Z4 o) .non= .ok (!o.isNone):=by unfold Z8;rw[J7];rfl
 have eE:Zi eqC (vB 5) (Zp (zc)) (RE a b c d e D (.vl k.t) (.vl l.t) (.vl (Z4 o)))= .ok (.bl (du k l).isEmpty):=by
  rw[Z3,w5,bOk,n0,bOk,ux,bOk,W2 hD]
 have e2:orT (zi neC (Zi Jl (vB 8) (cE .non)) (Zi eqC (vB 5) (Zp (zc)))) (jt (zi Z8 (vB 8) (cE .non)) (zi Z8 (za 1 f_1 (z9 (vE 8) (zc))) (cE (.bl true)))) (RE a b c d e D (.vl k.t) (.vl l.t) (.vl (Z4 o)))= .ok false:=by
  rw[jW,zj,Z3,w8,bOk,zq,bOk,J7,bOk,bOk,eE,bOk,hem,nb,bOk,if_neg ao,ZZ,zj,w8,bOk,zq,bOk,isnN,bOk];cases o with
  | none=>rfl
  | some q=>
   rw[if_pos (show (!(some q:Option Kd).isNone)=true from rfl),zj,zM,v8,bOk,show f_1 [Z4 (some q)]= .ok (.bl true) from qj o2.1,bOk];rfl
 have e3:jt (zi Z8 (vB 8) (cE .non)) (zi neC (za 1 f_d (z9 (za 1 (f_3 8) (z9 (vE 8) (zc))) (zc))) (za 1 f_d (z9 (vE 5) (zc)))) (RE a b c d e D (.vl k.t) (.vl l.t) (.vl (Z4 o)))= .ok false:=by
  rw[ZZ,zj,w8,bOk,zq,bOk,isnN,bOk];cases o with
  | none=>rfl
  | some q=>
   have hqD:q.all.Perm D:=o2.2.trans hD.symm;rw[if_pos (show (!(some q:Option Kd).isNone)=true from rfl),zj,zM,zM,v8,bOk,show f_3 8 [Z4 (some q)]= .ok (.lst q.all) from alls o2.1 (by rw[o2.2.length_eq];exact hdl),bOk,JY (wz o2.1) (uu o2.1) (h64 q o1 o2.1 hqD),bOk,zM,v5,bOk,hs,bOk,Kw hqD hn,wX hpl]
 have e4:orT (zi neC (za 3 f_6 (z9 (cE (.int 1)) (z9 (vE 6) (z9 (vE 7) (zc))))) (Zi eqC (ap1 zK (vB 5)) (ap1 zK (za 1 (f_3 8) (z9 (vE 6) (zc)))))) (zi neC (za 3 f_6 (z9 (cE (.int 2)) (z9 (vE 6) (z9 (vE 7) (zc))))) (Zi eqC (vB 5) (Zp (zc)))) (RE a b c d e D (.vl k.t) (.vl l.t) (.vl (Z4 o)))= .ok false:=by
  rw[jW,zj,zD,zq,bOk,v6,bOk,v7,bOk,o3,bOk,Z3,zY,w5,bOk,wb,bOk,zY,zM,v6,bOk,alls hk hz,bOk,wb,bOk,eqI,bOk,bOk,ww,hD.length_eq,nb,bOk,if_neg ao,zj,zD,zq,bOk,v6,bOk,v7,bOk,o4,bOk,eE,bOk,nb]
 unfold rcB;rw[ze e1,ze (zz e2),ze (zz e3),zz e4]
def pkv (ns:List Int)(a m:Int):Int:=match f_2 [scr ns,.int a,.int m] with
 | .ok (.int p)=>p
 | _=>0
theorem wA (ns:List Int){a m:Int}(ha:0<=a)(hm:0 < m):f_2 [scr ns,.int a,.int m]= .ok (.int (pkv ns a m))/\0<=pkv ns a m/\pkv ns a m < m:=by
 obtain⟨p,hp,p0,p1⟩:=zL ns a m ha hm;have e:pkv ns a m=p:=by unfold pkv;rw[hp]
 rw[e];exact⟨hp,p0,p1⟩
theorem Kx:∀ms:List Nat,(∀m∈ms,m<=4)->ms.length<=3->64<=prd ms->ms=[4,4,4]
 | [],_,_,h=>by rw[prd]at h;omega
 | [a],H,_,h=>by
  have:=H a (by simp)
  rw[prd,prd]at h;omega
 | [a,b],H,_,h=>by
  have h1:=H a (by simp)
  have h2:=uY (N:=4) (by omega) [b] λx hx=>H x (ae _ hx)
  rw[prd]at h;have:=cy h1 h2;simp only[al,aP]at this;omega
 | [a,b,c],H,_,h=>by
  have h1:=H a (by simp)
  have h2:=H b (by simp)
  have h3:=H c (by simp)
  simp only[prd,Nat.mul_one]at h;have:b*c<=16:=cy h2 h3;have ha:a=4:=by
   have:=dP a this;omega
  subst ha;have hbc:16<=b*c:=by omega
  have hb:b=4:=by
   have:=dP b h3;omega
  subst hb;have hc:c=4:=by omega
  subst hc;rfl
 | a :: b :: c :: d :: r,_,h3,_=>by simp only[al]at h3;omega
abbrev pks (ns:List Int)(n:Nat):List Kd:=(aC n).map λ(j:Nat)=>Kd.whole 0 (1+pkv ns (7600+(j:Int)) 3)
theorem qm (ns:List Int)(n:Nat):∀k∈pks ns n,∃q:Int,0<=q/\q < 3/\k= .whole 0 (1+q):=λk hk=>by
 obtain⟨j,_,rfl⟩:=aw.mp hk;obtain⟨_,a,b⟩:=wA ns (a:=7600+(j:Int)) (m:=3) (by omega) (by omega)
 exact⟨_,a,b,rfl⟩
theorem z0g {ns:List Int}{n:Nat}(h3:n<=3):(Kd.row (pks ns n)).all.length<=64/\(64<=(Kd.row (pks ns n)).all.length->Kd.row (pks ns n)=r3):=by
 rw[j0];have h4:∀m∈(pks ns n).map λk=>k.all.length,m<=4:=λm hm=>by
  obtain⟨k,hk,rfl⟩:=aw.mp hm;obtain⟨q,q0,q3,rfl⟩:=qm ns n k hk;rw[Zt];omega
 have hl:((pks ns n).map λk=>k.all.length).length<=3:=by rw[ac,ac,a_];exact h3
 refine⟨aq (uY (N:=4) (by omega) _ h4) (fO (by omega) hl),λh=> ?_⟩
 have e:=Kx _ h4 hl h;have hn:n=3:=by
  have:=congrArg iy e;rw[ac,ac,a_]at this;exact this
 subst hn;have hw:∀k∈pks ns 3,k=Kd.whole 0 3:=λk hk=>by
  obtain⟨q,q0,q3,rfl⟩:=qm ns 3 k hk;have:(Kd.whole 0 (1+q)).all.length∈(pks ns 3).map λk=>k.all.length:=aw.mpr ⟨_,hk,rfl⟩;rw[e,Zt]at this;have h2:(1+q - 0+1).toNat=4:=by simpa using this
  rw[show 1+q=3 by omega]
 have:pks ns 3=ag 3 (Kd.whole 0 3):=List.eq_replicate_iff.mpr ⟨by rw[ac,a_],hw⟩
 rw[this];rfl
theorem Ua {i j:Nat}{f g:En->R T}{ρ:En}{x y:T}(hf:f ρ= .ok x)(hg:g ρ= .ok y):uJ i j (z9 f (z9 g zc)) ρ= .nx ((ρ.set i (.vl x)).set j (.vl y)):=by
 unfold uJ z9 zc;rw[hf,hg];rfl
theorem qo {f:En->R T}{ρ:En}{ts:List T}(h:f ρ= .ok (.tup ts)):Zm f ρ= .ok ts:=by rw[Zs,h,bOk];rfl
theorem vW {fi:En->R (List T)}{g:T->En->R En}{fb:En->RS}{ρ:En}{ts:List T}(h:fi ρ= .ok ts):ju fi g fb ρ=ZK g fb ts ρ:=by unfold ju;rw[h,Z9]
theorem xW {c k:Kd}(hc:c.Ok 3)(hk:k.Ok 3)(hz:c.all.length<=1000)(hz' :k.all.length<=1000)(e:c.t=k.t):c.all=k.all:=by
 have h:=alls hc hz;rw[e,alls hk hz']at h;injection h with h;injection h with h;exact h.symm
theorem QN:r3.Ok 3:=⟨by show 1<=3;omega,by show 3<=3;omega,λk hk=>by
 have:k∈ag 3 (Kd.whole 0 3):=hk;rw[bF this];exact⟨by decide,by decide,by decide⟩⟩
theorem xX:C64 r3.all:= .inr ⟨by rw[j0];simp only[aB,bY,Zt,prd];decide,by
 have e:(r3.all.map pr).map kkT=r3.all.map sx:=by
  rw[aQ];exact bN λx _=>Ks x
 rw[e];exact c32⟩
theorem big {k l c:Kd}(hk:k=r3){b:Int}{lo hi:Nat}(hl:l= .many (.whole b 3) lo hi)(b0:0<=b)(h3:hi<=3)(hd:64<=(du k l).length)(hlo:l.Ok 3)(hc:c.Ok 3)(hcz:c.all.length<=1000):
  C64 (du k l)/\(f_6 [.int 0,k.t,l.t]= .ok c.t\/f_6 [.int 0,l.t,k.t]= .ok c.t->C64 c.all):=by
 subst hk;subst hl;have hd:64<=(r3.all.filter (Kd.many (.whole b 3) lo hi).has).length:=hd;have hf:=aW (Kd.many (.whole b 3) lo hi).has r3.all;have h64:r3.all.length=64:=by
  rcases xX with h | h
  ·omega
  ·exact h.1
 have hall:du r3 (.many (.whole b 3) lo hi)=r3.all:=cU.mpr (List.length_filter_eq_length_iff.mp (Nat.le_antisymm (aW _ _) (by omega)))
 have h0:(T.tup [.int 0,.int 0,.int 0])∈r3.all:=(Zg _ _).mpr (by rfl)
 have hm:(Kd.many (.whole b 3) lo hi).has (.tup [.int 0,.int 0,.int 0])=true:=by
  rw[← hall]at h0;exact((Jk _ _ _).mp h0).2
 rw[ZA]at hm;simp only[af,decide_eq_true_eq,bc]at hm;have hw:(Kd.whole b 3).has (.int 0)=true:=hm.2.1;rw[Kd.has]at hw;have hw:(decide (b<=0) && decide ((0:Int)<=3))=true:=hw;have hb:b=0:=by simp only[af,decide_eq_true_eq]at hw;omega
 have hl3:lo<=3/\3<=hi:=hm.1;have hi3:hi=3:=by omega
 subst hb;subst hi3;refine⟨by rw[hall];exact xX,λh=> ?_⟩
 obtain⟨q1,q2⟩:=c30 lo (by omega)
 have:c.t=r3.t:=by
  rcases h with h | h
  ·have e:=jg (gy.trans ((uv QN hlo).trans q1));rw[e]at h;injection h with h;exact h.symm
  ·have e:=jg (gy.trans ((uv hlo QN).trans q2));rw[e]at h;injection h with h;exact h.symm
 rw[xW hc QN hcz (by omega) this];exact xX
theorem QO:∀n < 5,∀lo < 4,∀hi < 4,pw n lo hi<=1000:=by decide
theorem QP (ns:List Int):f_r [scr ns]= .ok (.bl true):=by
 obtain⟨p1,p2,p3⟩:=wA ns (a:=7610) (m:=3) (by omega) (by omega)
 obtain⟨l1,l2,l3⟩:=wA ns (a:=7611) (m:=4) (by omega) (by omega)
 obtain⟨b1,b2,b3⟩:=wA ns (a:=7613) (m:=3) (by omega) (by omega)
 obtain⟨g1,g2,g3⟩:=wA ns (a:=7612) (m:=4 - pkv ns 7611 4) (by omega) (by omega)
 obtain⟨n,hn⟩:∃n:Nat,1+pkv ns 7610 3=(n:Int):=⟨(1+pkv ns 7610 3).toNat,by omega⟩
 obtain⟨lo,hlo⟩:∃lo:Nat,pkv ns 7611 4=(lo:Int):=⟨(pkv ns 7611 4).toNat,by omega⟩
 obtain⟨g,hg⟩:∃g:Nat,pkv ns 7612 (4 - pkv ns 7611 4)=(g:Int):=⟨(pkv ns 7612 (4 - pkv ns 7611 4)).toNat,by omega⟩
 have hbd:bnd=16777216:=rfl;obtain⟨r64,rbig⟩:=z0g (ns:=ns) (n:=n) (by omega)
 have hpk:∀k∈pks ns n,k.Ok 2:=λk hk=>by
  obtain⟨q,q0,q3,rfl⟩:=qm ns n k hk;exact⟨by omega,by omega,by omega⟩
 have hpl:(pks ns n).length=n:=by rw[ac,a_]
 generalize hr:Kd.row (pks ns n)=r at r64 rbig;have hrk:r.Ok 3:=by rw[← hr];exact⟨by omega,by omega,hpk⟩
 generalize hm:Kd.many (.whole (pkv ns 7613 3) 3) lo (lo+g)=m;have hmk:m.Ok 3:=by rw[← hm];exact⟨by omega,by omega,⟨by omega,by omega,by omega⟩⟩
 have hml:m.all.length<=1000:=by
  rw[← hm];rw[jn,Zt];exact QO _ (by omega) _ (by omega) _ (by omega)
 have e:f_r [scr ns]=zg (b_r f_1 f_2 (f_3 8) f_6 f_d [.vl (scr ns),.un,.un,.un,.un,.un,.un,.un,.un]):=rfl;have e1:zx 1 (zC (Zd (zb zl (cE (.int 1)) (za 3 f_2 (z9 (vE 0) (z9 (cE (.int 7610)) (z9 (cE (.int 3)) (zc))))))) (zo 0) (Z1) (zp (z9 (cE (.str "whole")) (z9 (cE (.int 0)) (z9 (zb zl (cE (.int 1)) (za 3 f_2 (z9 (vE 1) (z9 (zb zl (cE (.int 7600)) (vE 0)) (z9 (cE (.int 3)) (zc)))))) (zc))))) 1 [0]) [.vl (scr ns),.un,.un,.un,.un,.un,.un,.un,.un]= .nx [.vl (scr ns),.vl (.lst ((pks ns n).map Kd.t)),.un,.un,.un,.un,.un,.un,.un]:=by
  rw[zG (t:= .lst ((pks ns n).map Kd.t))]
  ·rfl
  ·have ei:Zd (zb zl (cE (.int 1)) (za 3 f_2 (z9 (vE 0) (z9 (cE (.int 7610)) (z9 (cE (.int 3)) (zc)))))) [.vl (scr ns),.un,.un,.un,.un,.un,.un,.un,.un]= .ok (rng 0 n):=by
    rw[YK (j:=(n:Int)) (by rw[zf,zq,bOk,zD,v0,bOk,zq,bOk,zq,bOk,p1,bOk,zJ,hn]) (by omega)];rfl
   have ec:zF (zo 0) (Z1) (zp (z9 (cE (.str "whole")) (z9 (cE (.int 0)) (z9 (zb zl (cE (.int 1)) (za 3 f_2 (z9 (vE 1) (z9 (zb zl (cE (.int 7600)) (vE 0)) (z9 (cE (.int 3)) (zc)))))) (zc))))) 1 [0] [.vl (scr ns),.un,.un,.un,.un,.un,.un,.un,.un] (rng 0 n)= .ok ((rng 0 n).map λt=>match t with | .int j=>(Kd.whole 0 (1+pkv ns (7600+j) 3)).t | y=>y):=by
    refine Z2 _ (by unfold rng;rw[ac,a_];omega) λt ht=> ?_
    unfold rng at ht;obtain⟨j,hj,rfl⟩:=aw.mp ht;show zp _ (en2 (.int (0+(j:Int))) (scr ns))= .ok (Kd.whole 0 (1+pkv ns (7600+(0+(j:Int))) 3)).t;rw[Kd.t];exact K0 (x:= .str "whole") (y:= .int 0) rfl rfl (by rw[zf,zq,bOk,zD,v1,bOk,zf,zq,bOk,v0,bOk,zJ,bOk,zq,bOk,(wA ns (a:=7600+(0+(j:Int))) (m:=3) (by omega) (by omega)).1,bOk,zJ])
   rw[zE,ei,bOk,ec,bOk];unfold rng;rw[aQ,aQ];congr 2
   exact bN λj _=>by show (Kd.whole 0 (1+pkv ns (7600+(0+(j:Int))) 3)).t=(Kd.whole 0 (1+pkv ns (7600+(j:Int)) 3)).t;rw[dR]
 have e2:uJ 2 3 (z9 (zp (z9 (cE (.str "row")) (z9 (ap1 UI (vE 1)) (zc)))) (z9 (za 3 f_2 (z9 (vE 0) (z9 (cE (.int 7611)) (z9 (cE (.int 4)) (zc))))) (zc))) [.vl (scr ns),.vl (.lst ((pks ns n).map Kd.t)),.un,.un,.un,.un,.un,.un,.un]= .nx [.vl (scr ns),.vl (.lst ((pks ns n).map Kd.t)),.vl r.t,.vl (.int (lo:Int)),.un,.un,.un,.un,.un]:=by
  have ea:zp (z9 (cE (.str "row")) (z9 (ap1 UI (vE 1)) (zc))) [.vl (scr ns),.vl (.lst ((pks ns n).map Kd.t)),.un,.un,.un,.un,.un,.un,.un]= .ok r.t:=by
   rw[← hr,Kd.t,Kd.ts_map];exact wP rfl rfl
  have eb:za 3 f_2 (z9 (vE 0) (z9 (cE (.int 7611)) (z9 (cE (.int 4)) (zc)))) [.vl (scr ns),.vl (.lst ((pks ns n).map Kd.t)),.un,.un,.un,.un,.un,.un,.un]= .ok (.int (lo:Int)):=by
   rw[zD,v0,bOk,zq,bOk,zq,bOk,l1,hlo]
  rw[Ua ea eb];rfl
 have e3:zx 4 (zp (z9 (cE (.str "many")) (z9 (zp (z9 (cE (.str "whole")) (z9 (za 3 f_2 (z9 (vE 0) (z9 (cE (.int 7613)) (z9 (cE (.int 3)) (zc))))) (z9 (cE (.int 3)) (zc))))) (z9 (vE 3) (z9 (zb zl (vE 3) (za 3 f_2 (z9 (vE 0) (z9 (cE (.int 7612)) (z9 (zb jN (cE (.int 4)) (vE 3)) (zc)))))) (zc)))))) [.vl (scr ns),.vl (.lst ((pks ns n).map Kd.t)),.vl r.t,.vl (.int (lo:Int)),.un,.un,.un,.un,.un]= .nx [.vl (scr ns),.vl (.lst ((pks ns n).map Kd.t)),.vl r.t,.vl (.int (lo:Int)),.vl m.t,.un,.un,.un,.un]:=by
  rw[zG (t:=m.t)]
  ·rfl
  ·have ew:zp (z9 (cE (.str "whole")) (z9 (za 3 f_2 (z9 (vE 0) (z9 (cE (.int 7613)) (z9 (cE (.int 3)) (zc))))) (z9 (cE (.int 3)) (zc)))) [.vl (scr ns),.vl (.lst ((pks ns n).map Kd.t)),.vl r.t,.vl (.int (lo:Int)),.un,.un,.un,.un,.un]= .ok (Kd.whole (pkv ns 7613 3) 3).t:=by
    rw[Kd.t];exact K0 rfl (by rw[zD,v0,bOk,zq,bOk,zq,bOk,b1]) rfl
   have eg:zb zl (vE 3) (za 3 f_2 (z9 (vE 0) (z9 (cE (.int 7612)) (z9 (zb jN (cE (.int 4)) (vE 3)) (zc))))) [.vl (scr ns),.vl (.lst ((pks ns n).map Kd.t)),.vl r.t,.vl (.int (lo:Int)),.un,.un,.un,.un,.un]= .ok (.int ((lo+g:Nat):Int)):=by
    rw[hlo]at g1 hg;rw[zf,v3,bOk,zD,v0,bOk,zq,bOk,zf,zq,bOk,v3,bOk,j4,bOk,g1,bOk,hg,zJ];rfl
   rw[← hm];exact Qj rfl ew rfl eg
 have hz:r.all.length<=1000:=by omega
 have e4:zx 5 (zC (Zm (za 1 (f_3 8) (z9 (vE 2) (zc)))) (zo 0) (zi inC (vB 0) (za 1 (f_3 8) (z9 (vE 1) (zc)))) (vE 0) 1 [4]) [.vl (scr ns),.vl (.lst ((pks ns n).map Kd.t)),.vl r.t,.vl (.int (lo:Int)),.vl m.t,.un,.un,.un,.un]= .nx (RE (.vl (scr ns)) (.vl (.lst ((pks ns n).map Kd.t))) (.vl r.t) (.vl (.int (lo:Int))) (.vl m.t) (du r m) .un .un .un):=by
  rw[zG (t:= .lst (du r m))]
  ·rfl
  ·have ei:Zm (za 1 (f_3 8) (z9 (vE 2) (zc))) [.vl (scr ns),.vl (.lst ((pks ns n).map Kd.t)),.vl r.t,.vl (.int (lo:Int)),.vl m.t,.un,.un,.un,.un]= .ok r.all:=by
    rw[Zs,zM,v2,bOk,alls hrk hz,bOk];rfl
   have ec:zF (zo 0) (zi inC (vB 0) (za 1 (f_3 8) (z9 (vE 1) (zc)))) (vE 0) 1 [4] [.vl (scr ns),.vl (.lst ((pks ns n).map Kd.t)),.vl r.t,.vl (.int (lo:Int)),.vl m.t,.un,.un,.un,.un] r.all= .ok (du r m):=
    J6 _ (by omega) λt ht=>⟨by
     show zi inC _ _ (en2 t m.t)=_;rw[zj,w0,bOk,zM,v1,bOk,alls hmk hml,bOk,vV hmk (wz hrk t ht)],rfl⟩
   rw[zE,ei,bOk,ec,bOk]
 have hdl:(du r m).length<=64:=aq (aW _ _) r64;have C:∀c:Kd,f_6 [.int 0,r.t,m.t]= .ok c.t\/f_6 [.int 0,m.t,r.t]= .ok c.t->c.Ok 3->c.all.Perm (du r m)->C64 c.all:=λc hc hk hp=>by
  by_cases hd:(du r m).length < 64
  ·exact .inl (by rw[hp.length_eq];exact hd)
  ·have hd:64<=(du r m).length:=by omega
   exact(big (rbig (aq hd (aW _ _))) hm.symm b2 (by omega) hd hmk hk (by rw[hp.length_eq];omega)).2 hc
 have CD:C64 (du r m):=by
  by_cases hd:(du r m).length < 64
  ·exact .inl hd
  ·have hd:64<=(du r m).length:=by omega
   exact(big (rbig (aq hd (aW _ _))) hm.symm b2 (by omega) hd hmk QN (by rw[j0];simp only[aB,bY,Zt,prd];decide)).1
 obtain⟨s1,s2⟩:=qh hrk CD;obtain⟨z1,t1⟩:=qk hrk hmk hz (.refl _) s1 s2 (W1 hrk m) (λc h=>C c (.inl h)) (.vl (scr ns)) (.vl (.lst ((pks ns n).map Kd.t))) (.vl r.t) (.vl (.int (lo:Int))) (.vl m.t) .un;obtain⟨z2,t2⟩:=qk hmk hrk hml (JZ hmk hrk) s1 s2 (W1 hrk m) (λc h=>C c (.inr h)) (.vl (scr ns)) (.vl (.lst ((pks ns n).map Kd.t))) (.vl r.t) (.vl (.int (lo:Int))) (.vl m.t) z1;have e5:ju (Zm (zp (z9 (zp (z9 (vE 2) (z9 (vE 4) (zc)))) (z9 (zp (z9 (vE 4) (z9 (vE 2) (zc)))) (zc))))) (Zb 6 7) rcB (RE (.vl (scr ns)) (.vl (.lst ((pks ns n).map Kd.t))) (.vl r.t) (.vl (.int (lo:Int))) (.vl m.t) (du r m) .un .un .un)= .nx (RE (.vl (scr ns)) (.vl (.lst ((pks ns n).map Kd.t))) (.vl r.t) (.vl (.int (lo:Int))) (.vl m.t) (du r m) (.vl m.t) (.vl r.t) z2):=by
  rw[vW (qo (wP (x:= .tup [r.t,m.t]) (y:= .tup [m.t,r.t]) (wP rfl rfl) (wP rfl rfl))),JU (ρ1:=RE (.vl (scr ns)) (.vl (.lst ((pks ns n).map Kd.t))) (.vl r.t) (.vl (.int (lo:Int))) (.vl m.t) (du r m) (.vl r.t) (.vl m.t) .un) rfl t1];exact(JU (ρ1:=RE (.vl (scr ns)) (.vl (.lst ((pks ns n).map Kd.t))) (.vl r.t) (.vl (.int (lo:Int))) (.vl m.t) (du r m) (.vl m.t) (.vl r.t) z1) rfl t2).trans rfl
 rw[e,b_r,ze e1,ze e2,ze e3,ze e4,ze e5,Zu];rfl
abbrev EL (ns:List Int)(k l:Kd)(t u:T)(a b c d e f:Sl):En:=[.vl (scr ns),.vl (Kd.whole 0 1).t,.vl k.t,.vl l.t,.vl (.lst k.all),.vl (.lst l.all),.vl (.lst (du k l)),.vl t,.vl u,a,b,c,d,e,f]
theorem Ub (o:Option Kd):Z8 (Z4 o) .non= .ok (!o.isNone):=by unfold Z8;rw[J7];rfl
theorem w01 {d:Nat}:(Kd.whole 0 1).Ok (d+1):=⟨by decide,by decide,by decide⟩
abbrev rp (n:Nat):Kd:= .row (ag n (.whole 0 1))
theorem Ky {n:Nat}(h1:1<=n)(h3:n<=3):(rp n).Ok 3:=⟨by rw[aI];exact h1,by rw[aI];exact h3,λk hk=>by rw[bF hk];exact w01⟩
theorem xY:f_6 [.int 0,(rp 2).t,(rp 3).t]= .ok .non:=by
 obtain⟨o,o1,o2,_,_⟩:=qv (Ky (n:=2) (by omega) (by omega)) (Ky (n:=3) (by omega) (by omega))
 have hd:du (rp 2) (rp 3)=[]:=cA.mpr λx hx=>by
  obtain⟨u,v⟩:=(Jk _ _ x).mp hx;obtain⟨xs,rfl,h1,_⟩:=YV _ x u;obtain⟨ys,e,h2,_⟩:=YV _ _ v;injection e with e;subst e;rw[aI]at h1 h2;omega
 have:=ZT o2;rw[hd]at this;cases o with
 | none=>exact o1
 | some c=>cases this
theorem z0h {y:T}(h1:(Kd.whole 0 2).has y=true)(h2:(Kd.pick [("a",1)]).has y=true):False:=by
 obtain⟨i,rfl⟩:∃i,y= .int i:=by rw[Kd.has]at h1;exact jY h1
 have h2:false=true:=h2;cases h2
theorem qp {lo le:Nat}(h1:lo<=1)(h2:le<=1){k l:Kd}(hkl:k= .many (.whole 0 2) lo 2/\l= .many (.pick [("a",1)]) le (1+lo)\/l= .many (.whole 0 2) lo 2/\k= .many (.pick [("a",1)]) le (1+lo)):
  k.Ok 3/\l.Ok 3/\du k l=if lo+le=0 then [.tup []] else []:=by
 have ka:(Kd.many (.whole 0 2) lo 2).Ok 3:=⟨by omega,by omega,by decide,by decide,by decide⟩
 have la:(Kd.many (.pick [("a",1)]) le (1+lo)).Ok 3:=⟨by omega,by omega,by decide,by decide,λc hc=>by rw[aT.mp hc];exact⟨rfl,by decide,by decide⟩,U9.mpr (by decide)⟩
 have hb:∀x,(Kd.many (.whole 0 2) lo 2).has x=true->(Kd.many (.pick [("a",1)]) le (1+lo)).has x=true->x= .tup []/\lo+le=0:=λx u v=>by
  cases x with
  | tup xs=>
   rw[ZA]at u v;simp only[af,decide_eq_true_eq]at u v;cases xs with
   | nil=>exact⟨rfl,by have:=u.1.1;have:=v.1.1;simp only[aP]at*;omega⟩
   | cons y ys=>
    have u2:=u.2;have v2:=v.2;rw[bc,af]at u2 v2;exact(z0h u2.1 v2.1).elim
  | _=>rw[Kd.has]at u;cases u
 have hc:∀x,lo+le=0->x=T.tup []->(Kd.many (.whole 0 2) lo 2).has x=true/\(Kd.many (.pick [("a",1)]) le (1+lo)).has x=true:=λx h0 e=>by
  subst e;obtain⟨rfl,rfl⟩:lo=0/\le=0:=by omega
  exact⟨by rw[ZA];rfl,by rw[ZA];rfl⟩
 have hkl2:k.Ok 3/\l.Ok 3/\∀x,x∈du k l↔x= .tup []/\lo+le=0:=by
  rcases hkl with ⟨rfl,rfl⟩ | ⟨rfl,rfl⟩
  ·exact⟨ka,la,λx=>by rw[Jk];exact⟨λh=>hb x h.1 h.2,λh=>hc x h.2 h.1⟩⟩
  ·exact⟨la,ka,λx=>by rw[Jk];exact⟨λh=>hb x h.2 h.1,λh=>(hc x h.2 h.1).symm⟩⟩
 obtain⟨a1,a2,a3⟩:=hkl2;refine⟨a1,a2, ?_⟩;split
 ·rename_i h0;refine fV.mp ((cO (QL a1 l) (da.mpr ⟨aY,List.nodup_nil⟩)).mpr λx=> ?_);rw[a3,aT];exact⟨And.left,λh=>⟨h,h0⟩⟩
 ·rename_i h0;exact cA.mpr λx hx=>h0 ((a3 x).mp hx).2
section
variable {ns:List Int}{k l:Kd}{t u:T}{a b c d e f:Sl}
theorem g0:vE 0 (EL ns k l t u a b c d e f)= .ok (scr ns):=rfl
theorem g2:vE 2 (EL ns k l t u a b c d e f)= .ok k.t:=rfl
theorem g3:vE 3 (EL ns k l t u a b c d e f)= .ok l.t:=rfl
theorem g4:vE 4 (EL ns k l t u a b c d e f)= .ok (.lst k.all):=rfl
theorem h4:vB 4 (EL ns k l t u a b c d e f)= .ok (.lst k.all):=rfl
theorem h5:vB 5 (EL ns k l t u a b c d e f)= .ok (.lst l.all):=rfl
theorem g6:vE 6 (EL ns k l t u a b c d e f)= .ok (.lst (du k l)):=rfl
theorem h6:vB 6 (EL ns k l t u a b c d e f)= .ok (.lst (du k l)):=rfl
theorem g7:vE 7 (EL ns k l t u a b c d e f)= .ok t:=rfl
theorem h7:vB 7 (EL ns k l t u a b c d e f)= .ok t:=rfl
theorem g8:vE 8 (EL ns k l t u a b c d e f)= .ok u:=rfl
theorem h8:vB 8 (EL ns k l t u a b c d e f)= .ok u:=rfl
theorem nl_e {ρ:En}:Zp zc ρ= .ok (.lst []):=rfl
theorem isnT:Z8 (.bl true) (.bl true)= .ok false:=rfl
theorem eD:Zi eqC (vB 6) (Zp (zc)) (EL ns k l t u a b c d e f)= .ok (.bl (du k l).isEmpty):=by
 rw[Z3,h6,bOk,nl_e,bOk,ux,bOk]
theorem s9 {o p:Option Kd}(ho:o.isNone=(du k l).isEmpty)(hp:p.isNone=(du k l).isEmpty):orT (zi neC (Zi Jl (vB 7) (cE .non)) (Zi eqC (vB 6) (Zp (zc)))) (zi neC (Zi Jl (vB 8) (cE .non)) (Zi eqC (vB 6) (Zp (zc)))) (EL ns k l (Z4 o) (Z4 p) a b c d e f)= .ok false:=by
 rw[jW,zj,Z3,h7,bOk,zq,bOk,J7,bOk,bOk,eD,bOk,ho,nb,bOk,if_neg ao,zj,Z3,h8,bOk,zq,bOk,J7,bOk,bOk,eD,bOk,hp,nb]
theorem xZ {q:Kd}(hk:k.Ok 3)(h60:k.all.length<=60)(hq:q.Ok 3)(hp:q.all.Perm (du k l)):f_3 8 [q.t]= .ok (.lst q.all)/\f_d [.lst q.all]= .ok (.lst (ws (du k l))):=by
 have hl:(du k l).length<=60:=aq (aW _ _) h60;have:=hp.length_eq;exact⟨alls hq (by omega),xV hk hq hp (.inl (by omega))⟩
theorem Kz (hk:k.Ok 3)(h60:k.all.length<=60):f_d [.lst (du k l)]= .ok (.lst (ws (du k l)))/\Pl 30 (.lst (ws (du k l))):=by
 have hl:(du k l).length<=60:=aq (aW _ _) h60;exact qh hk (.inl (by omega))
theorem s10 {o p:Option Kd}(hk:k.Ok 3)(h60:k.all.length<=60)(ho:Tld k l o)(hl:l.Ok 3)(hp:Tld l k p):ifS (zi Z8 (vB 7) (cE .non)) (zm (ifS (orT (zi Z8 (za 1 f_1 (z9 (vE 7) (zc))) (cE (.bl true))) (zi neC (za 1 f_d (z9 (za 1 (f_3 8) (z9 (vE 7) (zc))) (zc))) (za 1 f_d (z9 (vE 6) (zc))))) (zt (cE (.bl false))) (nxS))
  (ifS (zi neC (za 1 f_d (z9 (za 1 (f_3 8) (z9 (vE 8) (zc))) (zc))) (za 1 f_d (z9 (vE 6) (zc)))) (zt (cE (.bl false))) (nxS))) (nxS) (EL ns k l (Z4 o) (Z4 p) a b c d e f)= .nx (EL ns k l (Z4 o) (Z4 p) a b c d e f):=by
 have et:zi Z8 (vB 7) (cE .non) (EL ns k l (Z4 o) (Z4 p) a b c d e f)= .ok (!o.isNone):=by rw[zj,h7,bOk,zq,bOk,Ub]
 have hop:=ZT ho;rw[← W2 (JZ hk hl),← ZT hp]at hop;cases o with
 | none=>exact zz et
 | some q=>
  cases p with
  | none=>cases hop
  | some r=>
   obtain⟨d1,d2⟩:=Kz (l:=l) hk h60;obtain⟨q1,q2⟩:=xZ hk h60 ho.1 ho.2;obtain⟨r1,r2⟩:=xZ hk h60 hp.1 (hp.2.trans (JZ hk hl));have e1:orT (zi Z8 (za 1 f_1 (z9 (vE 7) (zc))) (cE (.bl true))) (zi neC (za 1 f_d (z9 (za 1 (f_3 8) (z9 (vE 7) (zc))) (zc))) (za 1 f_d (z9 (vE 6) (zc)))) (EL ns k l q.t r.t a b c d e f)= .ok false:=by
    rw[jW,zj,zM,g7,bOk,qj ho.1,bOk,zq,bOk,isnT,bOk,if_neg ao,zj,zM,zM,g7,bOk,q1,bOk,q2,bOk,zM,g6,bOk,d1,bOk,wX d2]
   have e2:zi neC (za 1 f_d (z9 (za 1 (f_3 8) (z9 (vE 8) (zc))) (zc))) (za 1 f_d (z9 (vE 6) (zc))) (EL ns k l q.t r.t a b c d e f)= .ok false:=by
    rw[zj,zM,zM,g8,bOk,r1,bOk,r2,bOk,zM,g6,bOk,d1,bOk,wX d2]
   rw[uo et];show zm _ _ (EL ns k l q.t r.t a b c d e f)= .nx (EL ns k l q.t r.t a b c d e f);rw[ze (zz e1),zz e2]
theorem s11 (hk:k.Ok 3)(hl:l.Ok 3):orT (zi neC (za 3 f_6 (z9 (cE (.int 1)) (z9 (vE 2) (z9 (vE 3) (zc))))) (Zi eqC (ap1 zK (vB 6)) (ap1 zK (vB 4)))) (zi neC (za 3 f_6 (z9 (cE (.int 1)) (z9 (vE 3) (z9 (vE 2) (zc))))) (Zi eqC (ap1 zK (vB 6)) (ap1 zK (vB 5)))) (EL ns k l t u a b c d e f)= .ok false:=by
 obtain⟨_,_,_,o3,_⟩:=qv hk hl;obtain⟨_,_,_,p3,_⟩:=qv hl hk;rw[jW,zj,zD,zq,bOk,g2,bOk,g3,bOk,o3,bOk,Z3,zY,h6,bOk,wb,bOk,zY,h4,bOk,wb,bOk,eqI,bOk,bOk,ww,nb,bOk,if_neg ao,zj,zD,zq,bOk,g3,bOk,g2,bOk,p3,bOk,Z3,zY,h6,bOk,wb,bOk,zY,h5,bOk,wb,bOk,eqI,bOk,bOk,ww,(JZ hk hl).length_eq,nb]
theorem s12 (hk:k.Ok 3)(hl:l.Ok 3)(h60:k.all.length<=60):orT (zi neC (za 3 f_6 (z9 (cE (.int 2)) (z9 (vE 2) (z9 (vE 3) (zc))))) (Zi eqC (vB 6) (Zp (zc)))) (zi neC (za 1 f_d (z9 (za 1 (f_3 8) (z9 (za 3 f_6 (z9 (cE (.int 0)) (z9 (vE 2) (z9 (vE 2) (zc))))) (zc))) (zc))) (za 1 f_d (z9 (vE 4) (zc)))) (EL ns k l t u a b c d e f)= .ok false:=by
 obtain⟨_,_,_,_,o4⟩:=qv hk hl;obtain⟨p,p1,p2,_,_⟩:=qv hk hk;have hp:=ZT p2;have h1:=ZF 3 k hk;rw[qi]at hp;cases p with
 | none=>
  cases hd:k.all with
  | nil=>rw[hd]at h1;cases h1
  | cons x xs=>rw[hd]at hp;cases hp
 | some q=>
  obtain⟨d1,d2⟩:=Kz (l:=k) hk h60;obtain⟨q1,q2⟩:=xZ hk h60 p2.1 p2.2;have p1:f_6 [.int 0,k.t,k.t]= .ok q.t:=p1;rw[qi]at d1 d2 q2;rw[jW,zj,zD,zq,bOk,g2,bOk,g3,bOk,o4,bOk,eD,bOk,nb,bOk,if_neg ao,zj,zM,zM,zD,zq,bOk,g2,bOk,bOk,p1,bOk,q1,bOk,q2,bOk,zM,g4,bOk,d1,bOk,wX d2]
abbrev ffB:En->RS:=(zm (ifS (zi neC (Zi Jl (vB 7) (cE .non)) (Zi gtC (zb zl (vE 9) (vE 10)) (cE (.int 0)))) (zt (cE (.bl false))) (nxS))
  (ifS (jt (zi Z8 (vB 7) (cE .non)) (orT (zi Z8 (za 1 f_1 (z9 (vE 7) (zc))) (cE (.bl true))) (zi neC (za 1 (f_3 8) (z9 (vE 7) (zc))) (Zp (z9 (zp (zc)) (zc)))))) (zt (cE (.bl false))) (nxS)))
theorem qq {lo le:Nat}(h1:lo<=1)(h2:le<=1){x y:Kd}{o:Option Kd}(hx:x.Ok 3)(ho:Tld x y o)(hd:du x y=if lo+le=0 then [.tup []] else []):ffB (EL ns k l (Z4 o) u (.vl (.int (lo:Int))) (.vl (.int (le:Int))) c d e f)= .nx (EL ns k l (Z4 o) u (.vl (.int (lo:Int))) (.vl (.int (le:Int))) c d e f):=by
 have hn:=ZT ho;have hz:o.isNone=decide (0 < (lo:Int)+(le:Int)):=by
  rw[hn,hd];split
  ·rw[decide_eq_false (by omega)];rfl
  ·rw[decide_eq_true (by omega)];rfl
 have e1:zi neC (Zi Jl (vB 7) (cE .non)) (Zi gtC (zb zl (vE 9) (vE 10)) (cE (.int 0))) (EL ns k l (Z4 o) u (.vl (.int (lo:Int))) (.vl (.int (le:Int))) c d e f)= .ok false:=by
  have eg:Zi gtC (zb zl (vE 9) (vE 10)) (cE (.int 0)) (EL ns k l (Z4 o) u (.vl (.int (lo:Int))) (.vl (.int (le:Int))) c d e f)= .ok (.bl (decide (0 < (lo:Int)+(le:Int)))):=rfl;rw[zj,Z3,h7,bOk,zq,bOk,J7,bOk,bOk,eg,bOk,hz,nb]
 have e2:jt (zi Z8 (vB 7) (cE .non)) (orT (zi Z8 (za 1 f_1 (z9 (vE 7) (zc))) (cE (.bl true))) (zi neC (za 1 (f_3 8) (z9 (vE 7) (zc))) (Zp (z9 (zp (zc)) (zc))))) (EL ns k l (Z4 o) u (.vl (.int (lo:Int))) (.vl (.int (le:Int))) c d e f)= .ok false:=by
  rw[ZZ,zj,h7,bOk,zq,bOk,Ub,bOk];cases o with
  | none=>rfl
  | some q=>
   have hq:q.all=[.tup []]:=by
    have:=ho.2;rw[hd]at this;split at this
    ·exact fV.mp this
    ·have h3:=ZF 3 q ho.1;rw[this.length_eq]at h3;cases h3
   rw[if_pos (show (!(some q:Option Kd).isNone)=true from rfl),jW,zj,zM,g7,bOk,show f_1 [Z4 (some q)]= .ok (.bl true) from qj ho.1,bOk,zq,bOk,isnT,bOk,if_neg ao,zj,zM,g7,bOk,show f_3 8 [Z4 (some q)]= .ok (.lst q.all) from alls ho.1 (by rw[hq];decide),bOk,hq];rfl
 unfold ffB;rw[ze (zz e1),zz e2]
end
abbrev E0 (ns:List Int)(a b c d e f g h:Sl):En:=[.vl (scr ns),a,b,c,d,e,f,g,h,.un,.un,.un,.un,.un,.un]
theorem bads {ns:List Int}{k l:Kd}{t u:T}{a b c d f:Sl}{w:T}(F:En->R T)(h:∀j:Nat,j < 3->F [.vl (.int (j:Int)),.vl k.t,.vl w]= .ok (.str "no kind")):zC (Zd (cE (.int 3))) (zo 0) Z1 F 1 [2,13] (EL ns k l t u a b c d (.vl w) f)= .ok (.lst [.str "no kind",.str "no kind",.str "no kind"]):=by
 have ei:Zd (cE (.int 3)) (EL ns k l t u a b c d (.vl w) f)= .ok (rng 0 3):=by rw[YK (j:=3) rfl (by decide)];rfl
 have ec:zF (zo 0) Z1 F 1 [2,13] (EL ns k l t u a b c d (.vl w) f) (rng 0 3)= .ok ((rng 0 3).map λ_=>T.str "no kind"):=
  Z2 _ (by show 3<=bnd;decide) λx hx=>by
   unfold rng at hx;obtain⟨j,hj,rfl⟩:=aw.mp hx;show F [.vl (.int (0+(j:Int))),.vl k.t,.vl w]=_;rw[show (0:Int)+(j:Int)=(j:Int) by omega]
   exact h j (ba.mp hj)
 rw[zE,ei,bOk,ec,bOk];rfl
theorem law_ok (ns:List Int)(h:ns.length<=63):f_0 [.fz (ns.map T.int)]= .ok (.bl true):=by
 obtain⟨k,hk,h60,hs⟩:=U0 ns 0 (by omega) 60 (by omega)
 have hs:f_u [scr ns,.int 0,.int 60]= .ok k.t:=hs;obtain⟨q,hq,q3⟩:=qg ns 3 8 (by omega) (by omega) k hk 4000 (by omega)
 have hq:f_h 8 [scr ns,.int 4000,k.t]= .ok q.t:=hq;obtain⟨m,hm,m60,hms⟩:=U0 ns 6000 (by omega) 60 (by omega)
 have hms:f_u [scr ns,.int 6000,.int 60]= .ok m.t:=hms;obtain⟨y,hy,y0,y1⟩:=zL ns 4900 5 (by omega) (by omega)
 have e:f_0 [.fz (ns.map T.int)]=zg (b_0 f_1 f_2 (f_3 8) (f_8 8) f_u (f_a 12) X6 f_6 (f_h 8) f_d f_r (E0 ns .un .un .un .un .un .un .un .un)):=rfl;have e1:zx 1 (zp (z9 (cE (.str "whole")) (z9 (cE (.int 0)) (z9 (cE (.int 1)) (zc))))) (E0 ns .un .un .un .un .un .un .un .un)= .nx (E0 ns (.vl (Kd.whole 0 1).t) .un .un .un .un .un .un .un):=by
  rw[Kd.t];rfl
 have e2:zi Z8 (za 3 f_6 (z9 (cE (.int 0)) (z9 (zp (z9 (cE (.str "row")) (z9 (zb Z0 (zp (z9 (vE 1) (zc))) (cE (.int 2))) (zc)))) (z9 (zp (z9 (cE (.str "row")) (z9 (zb Z0 (zp (z9 (vE 1) (zc))) (cE (.int 3))) (zc)))) (zc))))) (cE .non) (E0 ns (.vl (Kd.whole 0 1).t) .un .un .un .un .un .un .un)= .ok false:=by
  have t2:zp (z9 (cE (.str "row")) (z9 (zb Z0 (zp (z9 (vE 1) (zc))) (cE (.int 2))) (zc))) (E0 ns (.vl (Kd.whole 0 1).t) .un .un .un .un .un .un .un)= .ok (rp 2).t:=rfl;have t3:zp (z9 (cE (.str "row")) (z9 (zb Z0 (zp (z9 (vE 1) (zc))) (cE (.int 3))) (zc))) (E0 ns (.vl (Kd.whole 0 1).t) .un .un .un .un .un .un .un)= .ok (rp 3).t:=rfl;rw[zj,zD,zq,bOk,t2,bOk,t3,bOk,xY,bOk];rfl
 have e3:zx 2 (za 3 f_u (z9 (vE 0) (z9 (cE (.int 0)) (z9 (cE (.int 60)) (zc))))) (E0 ns (.vl (Kd.whole 0 1).t) .un .un .un .un .un .un .un)= .nx (E0 ns (.vl (Kd.whole 0 1).t) (.vl k.t) .un .un .un .un .un .un):=by
  rw[zG (t:=k.t)]
  ·rfl
  ·rw[zD,v0,bOk,zq,bOk,zq,bOk,hs]
 have e4:zx 3 (za 3 (f_h 8) (z9 (vE 0) (z9 (cE (.int 4000)) (z9 (vE 2) (zc))))) (E0 ns (.vl (Kd.whole 0 1).t) (.vl k.t) .un .un .un .un .un .un)= .nx (E0 ns (.vl (Kd.whole 0 1).t) (.vl k.t) (.vl q.t) .un .un .un .un .un):=by
  rw[zG (t:=q.t)]
  ·rfl
  ·rw[zD,v0,bOk,zq,bOk,v2,bOk,hq]
 have hl:∃l:Kd,l.Ok 3/\l.all.length<=1000/\ifS (orT (zi gtC (za 1 (f_8 8) (z9 (vE 3) (zc))) (cE (.int 130))) (zi eqC (za 3 f_2 (z9 (vE 0) (z9 (cE (.int 4900)) (z9 (cE (.int 5)) (zc))))) (cE (.int 0)))) (zx 3 (za 3 f_u (z9 (vE 0) (z9 (cE (.int 6000)) (z9 (cE (.int 60)) (zc)))))) (nxS) (E0 ns (.vl (Kd.whole 0 1).t) (.vl k.t) (.vl q.t) .un .un .un .un .un)= .nx (E0 ns (.vl (Kd.whole 0 1).t) (.vl k.t) (.vl l.t) .un .un .un .un .un):=by
  have et:orT (zi gtC (za 1 (f_8 8) (z9 (vE 3) (zc))) (cE (.int 130))) (zi eqC (za 3 f_2 (z9 (vE 0) (z9 (cE (.int 4900)) (z9 (cE (.int 5)) (zc))))) (cE (.int 0))) (E0 ns (.vl (Kd.whole 0 1).t) (.vl k.t) (.vl q.t) .un .un .un .un .un)= .ok (decide (130 < (q.all.length:Int)) || y == 0):=by
   have hsz:f_8 8 [q.t]= .ok (.int (q.all.length:Int)):=uq 3 8 (by omega) (by omega) q q3
   rw[jW,zj,zM,v3,bOk,hsz,bOk,zq,bOk,z05,bOk,zj,zD,v0,bOk,zq,bOk,zq,bOk,hy,bOk,zq,bOk];cases decide (130 < (q.all.length:Int)) <;> rfl
  cases hb:(decide (130 < (q.all.length:Int)) || y == 0) with
  | true=>
   refine⟨m,hm,by omega, ?_⟩
   rw[hb]at et;rw[uo et,zG (t:=m.t)]
   ·rfl
   ·rw[zD,v0,bOk,zq,bOk,zq,bOk,hms]
  | false=>
   refine⟨q,q3, ?_, ?_⟩
   ·rw[fP,decide_eq_false_iff_not]at hb;omega
   ·rw[hb]at et;exact zz et
 obtain⟨l,l3,lz,e5⟩:=hl;have hz:k.all.length<=1000:=by omega
 have e6:KZ (zp (z9 (za 1 (f_3 8) (z9 (vE 2) (zc))) (z9 (za 1 (f_3 8) (z9 (vE 3) (zc))) (zc)))) (Zb 4 5) (E0 ns (.vl (Kd.whole 0 1).t) (.vl k.t) (.vl l.t) .un .un .un .un .un)= .nx (E0 ns (.vl (Kd.whole 0 1).t) (.vl k.t) (.vl l.t) (.vl (.lst k.all)) (.vl (.lst l.all)) .un .un .un):=by
  unfold KZ;rw[wP (x:= .lst k.all) (y:= .lst l.all) (by rw[zM,v2,bOk,alls hk hz]) (by rw[zM,v3,bOk,alls l3 lz]),Z9];rfl
 have e7:zx 6 (zC (Zm (vE 4)) (zo 0) (zi inC (vB 0) (vB 1)) (vE 0) 1 [5]) (E0 ns (.vl (Kd.whole 0 1).t) (.vl k.t) (.vl l.t) (.vl (.lst k.all)) (.vl (.lst l.all)) .un .un .un)= .nx (E0 ns (.vl (Kd.whole 0 1).t) (.vl k.t) (.vl l.t) (.vl (.lst k.all)) (.vl (.lst l.all)) (.vl (.lst (du k l))) .un .un):=by
  rw[zG (t:= .lst (du k l))]
  ·rfl
  ·have ei:Zm (vE 4) (E0 ns (.vl (Kd.whole 0 1).t) (.vl k.t) (.vl l.t) (.vl (.lst k.all)) (.vl (.lst l.all)) .un .un .un)= .ok k.all:=rfl;rw[zE,ei,bOk,QM hk l3 hz rfl,bOk]
 obtain⟨o,o1,o2,o3,o4⟩:=qv hk l3;obtain⟨p,p1,p2,p3,p4⟩:=qv l3 hk;have e8:uJ 7 8 (z9 (za 3 f_6 (z9 (cE (.int 0)) (z9 (vE 2) (z9 (vE 3) (zc))))) (z9 (za 3 f_6 (z9 (cE (.int 0)) (z9 (vE 3) (z9 (vE 2) (zc))))) (zc))) (E0 ns (.vl (Kd.whole 0 1).t) (.vl k.t) (.vl l.t) (.vl (.lst k.all)) (.vl (.lst l.all)) (.vl (.lst (du k l))) .un .un)= .nx (EL ns k l (Z4 o) (Z4 p) .un .un .un .un .un .un):=by
  rw[Ua (x:=Z4 o) (y:=Z4 p)]
  ·rfl
  ·rw[zD,zq,bOk,v2,bOk,v3,bOk,o1]
  ·rw[zD,zq,bOk,v3,bOk,v2,bOk,p1]
 obtain⟨a1,a2,a3⟩:=zL ns 7500 2 (by omega) (by omega)
 obtain⟨b1,b2,b3⟩:=zL ns 7501 2 (by omega) (by omega)
 obtain⟨lo,rfl⟩:∃n:Nat,a1=(n:Int):=⟨a1.toNat,by omega⟩
 obtain⟨le,rfl⟩:∃n:Nat,b1=(n:Int):=⟨b1.toNat,by omega⟩
 have e13:uJ 9 10 (z9 (za 3 f_2 (z9 (vE 0) (z9 (cE (.int 7500)) (z9 (cE (.int 2)) (zc))))) (z9 (za 3 f_2 (z9 (vE 0) (z9 (cE (.int 7501)) (z9 (cE (.int 2)) (zc))))) (zc))) (EL ns k l (Z4 o) (Z4 p) .un .un .un .un .un .un)= .nx (EL ns k l (Z4 o) (Z4 p) (.vl (.int (lo:Int))) (.vl (.int (le:Int))) .un .un .un .un):=by
  rw[Ua (x:= .int (lo:Int)) (y:= .int (le:Int))]
  ·rfl
  ·rw[zD,g0,bOk,zq,bOk,zq,bOk,a2]
  ·rw[zD,g0,bOk,zq,bOk,zq,bOk,b2]
 obtain⟨f1,f2,f3⟩:=qp (lo:=lo) (le:=le) (by omega) (by omega) (.inl ⟨rfl,rfl⟩)
 obtain⟨f4,f5,f6⟩:=qp (lo:=lo) (le:=le) (by omega) (by omega) (.inr ⟨rfl,rfl⟩)
 generalize hfe:Kd.many (.whole 0 2) lo 2=fe at f1 f2 f3 f4 f5 f6;generalize hfa:Kd.many (.pick [("a",1)]) le (1+lo)=fa at f1 f2 f3 f4 f5 f6;have e14:uJ 11 12 (z9 (zp (z9 (cE (.str "many")) (z9 (zp (z9 (cE (.str "whole")) (z9 (cE (.int 0)) (z9 (cE (.int 2)) (zc))))) (z9 (vE 9) (z9 (cE (.int 2)) (zc)))))) (z9 (zp (z9 (cE (.str "many")) (z9 (zp (z9 (cE (.str "pick")) (z9 (zp (z9 (zp (z9 (cE (.str "a")) (z9 (cE (.int 1)) (zc)))) (zc))) (zc)))) (z9 (vE 10) (z9 (zb zl (cE (.int 1)) (vE 9)) (zc)))))) (zc))) (EL ns k l (Z4 o) (Z4 p) (.vl (.int (lo:Int))) (.vl (.int (le:Int))) .un .un .un .un)= .nx (EL ns k l (Z4 o) (Z4 p) (.vl (.int (lo:Int))) (.vl (.int (le:Int))) (.vl fe.t) (.vl fa.t) .un .un):=by
  rw[Ua (x:=fe.t) (y:=fa.t)]
  ·rfl
  ·rw[← hfe];exact Qj rfl rfl rfl rfl
  ·rw[← hfa];exact Qj rfl rfl rfl rfl
 obtain⟨v,w1,w2,_,_⟩:=qv f1 f2;obtain⟨v',x1,x2,_,_⟩:=qv f4 f5;have e15:ju (Zm (zp (z9 (za 3 f_6 (z9 (cE (.int 0)) (z9 (vE 11) (z9 (vE 12) (zc))))) (z9 (za 3 f_6 (z9 (cE (.int 0)) (z9 (vE 12) (z9 (vE 11) (zc))))) (zc))))) (zo 7) ffB (EL ns k l (Z4 o) (Z4 p) (.vl (.int (lo:Int))) (.vl (.int (le:Int))) (.vl fe.t) (.vl fa.t) .un .un)= .nx (EL ns k l (Z4 v') (Z4 p) (.vl (.int (lo:Int))) (.vl (.int (le:Int))) (.vl fe.t) (.vl fa.t) .un .un):=by
  have z1:∀{t u:T} {a b d e f:Sl} {x:T},vE 11 (EL ns k l t u a b (.vl x) d e f)= .ok x:=rfl;have z2:∀{t u:T} {a b c e f:Sl} {x:T},vE 12 (EL ns k l t u a b c (.vl x) e f)= .ok x:=rfl;rw[vW (qo (wP (x:=Z4 v) (y:=Z4 v') (by rw[zD,zq,bOk,z1,bOk,z2,bOk,w1]) (by rw[zD,zq,bOk,z2,bOk,z1,bOk,x1]))),JU (ρ1:=EL ns k l (Z4 v) (Z4 p) (.vl (.int (lo:Int))) (.vl (.int (le:Int))) (.vl fe.t) (.vl fa.t) .un .un) rfl (qq (by omega) (by omega) f1 w2 f3)]
  exact(JU (ρ1:=EL ns k l (Z4 v') (Z4 p) (.vl (.int (lo:Int))) (.vl (.int (le:Int))) (.vl fe.t) (.vl fa.t) .un .un) rfl (qq (by omega) (by omega) f4 x2 f6)).trans rfl
 have e16:jO (ZI (za 1 f_r (z9 (vE 0) (zc)))) (EL ns k l (Z4 v') (Z4 p) (.vl (.int (lo:Int))) (.vl (.int (le:Int))) (.vl fe.t) (.vl fa.t) .un .un)= .ok false:=by
  rw[JK,jb,zM,g0,bOk,QP,bOk,Zn,bOk];rfl
 obtain⟨r,hr,hF⟩:=Ys ns 7000 (by omega) (by omega) (by decide) (jK 3 k.t (WO 3 k hk))
 have e17:zx 13 (za 3 X6 (z9 (vE 0) (z9 (cE (.int 7000)) (z9 (vE 2) (zc))))) (EL ns k l (Z4 v') (Z4 p) (.vl (.int (lo:Int))) (.vl (.int (le:Int))) (.vl fe.t) (.vl fa.t) .un .un)= .nx (EL ns k l (Z4 v') (Z4 p) (.vl (.int (lo:Int))) (.vl (.int (le:Int))) (.vl fe.t) (.vl fa.t) (.vl r) .un):=by
  rw[zG (t:=r)]
  ·rfl
  ·rw[zD,g0,bOk,zq,bOk,g2,bOk,hr]
 have e18:ZI (za 2 (f_a 12) (z9 (vE 13) (z9 (cE (.int 3)) (zc)))) (EL ns k l (Z4 v') (Z4 p) (.vl (.int (lo:Int))) (.vl (.int (le:Int))) (.vl fe.t) (.vl fa.t) (.vl r) .un)= .ok (isK 3 r):=by
  have z3:∀{t u:T} {a b c d f:Sl},vE 13 (EL ns k l t u a b c d (.vl r) f)= .ok r:=rfl;rw[jb,Zq,z3,bOk,zq,bOk,wc r hF.so,bOk,Zn]
 rw[e,b_0,ze e1,ze (zz e2),ze e3,ze e4,ze e5,ze e6,ze e7,ze e8,ze (zz (s9 (ZT o2) ((ZT p2).trans (W2 (JZ hk l3))))),ze (s10 hk h60 o2 l3 p2),ze (zz (s11 hk l3)),ze (zz (s12 hk l3 h60)),ze e13,ze e14,ze e15,ze (zz e16),ze e17];cases hi:isK 3 r with
 | true=>rw[hi]at e18;rw[zr e18];rfl
 | false=>
  rw[hi]at e18;have hno:=xO hF.so hi;have e19:zx 14 (zb zl (zC (Zd (cE (.int 3))) (zo 0) (Z1) (za 3 f_6 (z9 (vE 0) (z9 (vE 2) (z9 (vE 1) (zc))))) 1 [2,13]) (zC (Zd (cE (.int 3))) (zo 0) (Z1) (za 3 f_6 (z9 (vE 0) (z9 (vE 1) (z9 (vE 2) (zc))))) 1 [2,13])) (EL ns k l (Z4 v') (Z4 p) (.vl (.int (lo:Int))) (.vl (.int (le:Int))) (.vl fe.t) (.vl fa.t) (.vl r) .un)= .nx (EL ns k l (Z4 v') (Z4 p) (.vl (.int (lo:Int))) (.vl (.int (le:Int))) (.vl fe.t) (.vl fa.t) (.vl r) (.vl (.lst (ag 6 (.str "no kind"))))):=by
   rw[zG (t:= .lst (ag 6 (.str "no kind")))]
   ·rfl
   ·rw[zf,bads _ λj hj=> ?_,bOk,bads _ λj hj=> ?_,bOk]
    ·rfl
    ·rw[zD,v0,bOk,v1,bOk,v2,bOk];exact WQ (.inr ⟨ur hk,hno⟩) j hj
    ·rw[zD,v0,bOk,v2,bOk,v1,bOk];exact WQ (.inl hno) j hj
  rw[ze (zz e18),ze e19,Zu];rfl
end G
namespace G
open PySem PySem.Spec PyProof.Rows L2 PV
def top (i:Nat):Stmt:=PySem.Challenge.pw_worthkinds_k30_whole_common.main.body.getD i (.Pass ⟨0,0,0,0⟩)
abbrev s_16:Stmt:=top 36
abbrev N_16:List Str:=["_law_script","_law_k"]
theorem KA:zh N_16 ["_law_script","_law_k"] (zd s_16):=by refine⟨rfl,rfl,rfl, ?_,rfl, ?_, ?_⟩ <;> decide+kernel
abbrev s_2:Stmt:=top 37
abbrev N_2:List Str:=["_law_script","_law_k","_law_many","_law_drawn"]
theorem sc_2:zh N_2 ["_law_script","_law_k","_law_many"] (zd s_2):=by refine⟨rfl,rfl,rfl, ?_,rfl, ?_, ?_⟩ <;> decide+kernel
abbrev s_w:Stmt:=top 38
abbrev N_w:List Str:=["_law_script","_law_at_here","_law_letters"]
theorem sc_w:zh N_w ["_law_script","_law_at_here"] (zd s_w):=by refine⟨rfl,rfl,rfl, ?_,rfl, ?_, ?_⟩ <;> decide+kernel
abbrev s_k:Stmt:=top 39
abbrev N_k:List Str:=["_law_script","_law_at_here","_law_low","_law_words","_law_k","_law_word_here"]
theorem sc_k:zh N_k ["_law_script","_law_at_here"] (zd s_k):=by refine⟨rfl,rfl,rfl, ?_,rfl, ?_, ?_⟩ <;> decide+kernel
abbrev s_g:Stmt:=top 40
abbrev N_g:List Str:=["_law_script","_law_at_here","_law_deep","_law_way","_law_some","_law_low"]
theorem z0i:zh N_g ["_law_script","_law_at_here","_law_deep"] (zd s_g):=by refine⟨rfl,rfl,rfl, ?_,rfl, ?_, ?_⟩ <;> decide+kernel
abbrev s_f:Stmt:=top 42
abbrev N_f:List Str:=["_law_lists","_law_made","_law_some","_law_longer","_law_ahead"]
theorem sc_f:zh N_f ["_law_lists"] (zd s_f):=by refine⟨rfl,rfl,rfl, ?_,rfl, ?_, ?_⟩ <;> decide+kernel
abbrev s_3:Stmt:=top 41
abbrev N_3:List Str:=["_law_kind_here","_law_made","_law_size_here"]
theorem sc_3:zh N_3 ["_law_kind_here"] (zd s_3):=by refine⟨rfl,rfl,rfl, ?_,rfl, ?_, ?_⟩ <;> decide+kernel
abbrev s_8:Stmt:=top 43
abbrev N_8:List Str:=["_law_kind_here","_law_sizes","_law_made","_law_size_here","_law_inner"]
theorem sc_8:zh N_8 ["_law_kind_here"] (zd s_8):=by refine⟨rfl,rfl,rfl, ?_,rfl, ?_, ?_⟩ <;> decide+kernel
abbrev s_u:Stmt:=top 44
abbrev N_u:List Str:=["_law_script","_law_at_here","_law_most","_law_kind_here","_law_k"]
theorem sc_u:zh N_u ["_law_script","_law_at_here","_law_most"] (zd s_u):=by refine⟨rfl,rfl,rfl, ?_,rfl, ?_, ?_⟩ <;> decide+kernel
abbrev s_h:Stmt:=top 54
abbrev N_h:List Str:=["_law_script","_law_at_here","_law_kind_here","_law_way","_law_low","_law_some","_law_k"]
theorem sc_h:zh N_h ["_law_script","_law_at_here","_law_kind_here"] (zd s_h):=by refine⟨rfl,rfl,rfl, ?_,rfl, ?_, ?_⟩ <;> decide+kernel
abbrev s_i:Stmt:=top 48
abbrev N_i:List Str:=["_law_thing","_law_made","_law_k"]
theorem sc_i:zh N_i ["_law_thing"] (zd s_i):=by refine⟨rfl,rfl,rfl, ?_,rfl, ?_, ?_⟩ <;> decide+kernel
abbrev s_11:Stmt:=top 49
abbrev N_11:List Str:=["_law_thing","_law_place","_law_k"]
theorem KC:zh N_11 ["_law_thing","_law_place"] (zd s_11):=by refine⟨rfl,rfl,rfl, ?_,rfl, ?_, ?_⟩ <;> decide+kernel
abbrev s_e:Stmt:=top 50
abbrev N_e:List Str:=["_law_thing","_law_place","_law_new","_law_k"]
theorem sc_e:zh N_e ["_law_thing","_law_place","_law_new"] (zd s_e):=by refine⟨rfl,rfl,rfl, ?_,rfl, ?_, ?_⟩ <;> decide+kernel
abbrev s_10:Stmt:=top 51
abbrev N_10:List Str:=["_law_script","_law_at_here","_law_thing","_law_places_here","_law_place","_law_here","_law_some","_law_way","_law_k"]
theorem KD:zh N_10 ["_law_script","_law_at_here","_law_thing"] (zd s_10):=by refine⟨rfl,rfl,rfl, ?_,rfl, ?_, ?_⟩ <;> decide+kernel
abbrev s_m:Stmt:=top 45
abbrev N_m:List Str:=["_law_thing","_law_low","_law_high"]
theorem sc_m:zh N_m ["_law_thing","_law_low","_law_high"] (zd s_m):=by refine⟨rfl,rfl,rfl, ?_,rfl, ?_, ?_⟩ <;> decide+kernel
abbrev s_s:Stmt:=top 46
abbrev N_s:List Str:=["_law_thing"]
theorem sc_s:zh N_s ["_law_thing"] (zd s_s):=by refine⟨rfl,rfl,rfl, ?_,rfl, ?_, ?_⟩ <;> decide+kernel
abbrev s_a:Stmt:=top 47
abbrev N_a:List Str:=["_law_thing","_law_deep","_law_word_here","_law_rest","_law_some","_law_words"]
theorem z0j:zh N_a ["_law_thing","_law_deep"] (zd s_a):=by refine⟨rfl,rfl,rfl, ?_,rfl, ?_, ?_⟩ <;> decide+kernel
abbrev s_9:Stmt:=top 52
abbrev N_9:List Str:=["_law_kept","_law_kinds"]
theorem sc_9:zh N_9 ["_law_kept"] (zd s_9):=by refine⟨rfl,rfl,rfl, ?_,rfl, ?_, ?_⟩ <;> decide+kernel
abbrev s_q:Stmt:=top 12
abbrev N_q:List Str:=["thing"]
theorem sc_q:zh N_q ["thing"] (zd s_q):=by refine⟨rfl,rfl,rfl, ?_,rfl, ?_, ?_⟩ <;> decide+kernel
abbrev s_17:Stmt:=top 15
abbrev N_17:List Str:=["low","high","least","most"]
theorem KG:zh N_17 ["low","high","least","most"] (zd s_17):=by refine⟨rfl,rfl,rfl, ?_,rfl, ?_, ?_⟩ <;> decide+kernel
abbrev s_j:Stmt:=top 13
abbrev N_j:List Str:=["thing","least","most"]
theorem sc_j:zh N_j ["thing","least","most"] (zd s_j):=by refine⟨rfl,rfl,rfl, ?_,rfl, ?_, ?_⟩ <;> decide+kernel
abbrev s_7:Stmt:=top 14
abbrev N_7:List Str:=["thing"]
theorem sc_7:zh N_7 ["thing"] (zd s_7):=by refine⟨rfl,rfl,rfl, ?_,rfl, ?_, ?_⟩ <;> decide+kernel
abbrev s_z:Stmt:=top 18
abbrev N_z:List Str:=["thing"]
theorem sc_z:zh N_z ["thing"] (zd s_z):=by refine⟨rfl,rfl,rfl, ?_,rfl, ?_, ?_⟩ <;> decide+kernel
abbrev s_t:Stmt:=top 17
abbrev N_t:List Str:=["thing","words"]
theorem z0k:zh N_t ["thing"] (zd s_t):=by refine⟨rfl,rfl,rfl, ?_,rfl, ?_, ?_⟩ <;> decide+kernel
abbrev s_b:Stmt:=top 16
abbrev N_b:List Str:=["thing","levels"]
theorem sc_b:zh N_b ["thing","levels"] (zd s_b):=by refine⟨rfl,rfl,rfl, ?_,rfl, ?_, ?_⟩ <;> decide+kernel
abbrev z0l:Stmt:=top 19
abbrev N_15:List Str:=["thing","levels"]
theorem KH:zh N_15 ["thing","levels"] (zd z0l):=by refine⟨rfl,rfl,rfl, ?_,rfl, ?_, ?_⟩ <;> decide+kernel
abbrev s_1:Stmt:=top 10
abbrev N_1:List Str:=["thing"]
theorem sc_1:zh N_1 ["thing"] (zd s_1):=by refine⟨rfl,rfl,rfl, ?_,rfl, ?_, ?_⟩ <;> decide+kernel
abbrev s_l:Stmt:=top 11
abbrev N_l:List Str:=["kind"]
theorem sc_l:zh N_l ["kind"] (zd s_l):=by refine⟨rfl,rfl,rfl, ?_,rfl, ?_, ?_⟩ <;> decide+kernel
abbrev s_13:Stmt:=top 32
abbrev N_13:List Str:=["one","other","low","high"]
theorem KI:zh N_13 ["one","other"] (zd s_13):=by refine⟨rfl,rfl,rfl, ?_,rfl, ?_, ?_⟩ <;> decide+kernel
abbrev s_v:Stmt:=top 20
abbrev N_v:List Str:=["kind"]
theorem sc_v:zh N_v ["kind"] (zd s_v):=by refine⟨rfl,rfl,rfl, ?_,rfl, ?_, ?_⟩ <;> decide+kernel
abbrev s_x:Stmt:=top 33
abbrev N_x:List Str:=["one","other","words","choices"]
theorem z0m:zh N_x ["one","other"] (zd s_x):=by refine⟨rfl,rfl,rfl, ?_,rfl, ?_, ?_⟩ <;> decide+kernel
abbrev s_y:Stmt:=top 30
abbrev N_y:List Str:=["kind","length"]
theorem sc_y:zh N_y ["kind","length"] (zd s_y):=by refine⟨rfl,rfl,rfl, ?_,rfl, ?_, ?_⟩ <;> decide+kernel
abbrev s_5:Stmt:=top 29
abbrev N_5:List Str:=["one","other"]
theorem sc_5:zh N_5 ["one","other"] (zd s_5):=by refine⟨rfl,rfl,rfl, ?_,rfl, ?_, ?_⟩ <;> decide+kernel
abbrev z0n:Stmt:=top 31
abbrev N_14:List Str:=["one_kinds","other_kinds","shared"]
theorem X0:zh N_14 ["one_kinds","other_kinds"] (zd z0n):=by refine⟨rfl,rfl,rfl, ?_,rfl, ?_, ?_⟩ <;> decide+kernel
abbrev s_18:Stmt:=top 34
abbrev N_18:List Str:=["one","other","low","high","part"]
theorem KJ:zh N_18 ["one","other"] (zd s_18):=by refine⟨rfl,rfl,rfl, ?_,rfl, ?_, ?_⟩ <;> decide+kernel
abbrev s_c:Stmt:=top 26
abbrev N_c:List Str:=["one","other"]
theorem sc_c:zh N_c ["one","other"] (zd s_c):=by refine⟨rfl,rfl,rfl, ?_,rfl, ?_, ?_⟩ <;> decide+kernel
abbrev s_4:Stmt:=top 22
abbrev N_4:List Str:=["kind"]
theorem sc_4:zh N_4 ["kind"] (zd s_4):=by refine⟨rfl,rfl,rfl, ?_,rfl, ?_, ?_⟩ <;> decide+kernel
abbrev s_n:Stmt:=top 23
abbrev N_n:List Str:=["kinds","count","kind"]
theorem sc_n:zh N_n ["kinds"] (zd s_n):=by refine⟨rfl,rfl,rfl, ?_,rfl, ?_, ?_⟩ <;> decide+kernel
abbrev z0o:Stmt:=top 24
abbrev N_12:List Str:=["kind","length"]
theorem KK:zh N_12 ["kind","length"] (zd z0o):=by refine⟨rfl,rfl,rfl, ?_,rfl, ?_, ?_⟩ <;> decide+kernel
abbrev s_p:Stmt:=top 27
abbrev N_p:List Str:=["one","other","shared"]
theorem sc_p:zh N_p ["one","other"] (zd s_p):=by refine⟨rfl,rfl,rfl, ?_,rfl, ?_, ?_⟩ <;> decide+kernel
abbrev s_o:Stmt:=top 28
abbrev N_o:List Str:=["one","other"]
theorem sc_o:zh N_o ["one","other"] (zd s_o):=by refine⟨rfl,rfl,rfl, ?_,rfl, ?_, ?_⟩ <;> decide+kernel
abbrev s_6:Stmt:=top 53
abbrev N_6:List Str:=["_law_what","_law_one","_law_other","_law_kept","_law_answer","e"]
theorem z0p:zh N_6 ["_law_what","_law_one","_law_other"] (zd s_6):=by refine⟨rfl,rfl,rfl, ?_,rfl, ?_, ?_⟩ <;> decide+kernel
abbrev s_d:Stmt:=top 55
abbrev N_d:List Str:=["_law_worths"]
theorem sc_d:zh N_d ["_law_worths"] (zd s_d):=by refine⟨rfl,rfl,rfl, ?_,rfl, ?_, ?_⟩ <;> decide+kernel
abbrev s_r:Stmt:=top 56
abbrev N_r:List Str:=["_law_script","_law_parts","_law_row","_law_low","_law_many","_law_due","_law_one","_law_other","_law_told"]
theorem gz:zh N_r ["_law_script"] (zd s_r):=by refine⟨rfl,rfl,rfl, ?_,rfl, ?_, ?_⟩ <;> decide+kernel
abbrev s_0:Stmt:=top 57
abbrev N_0:List Str:=["_law_script","_law_plain","_law_one","_law_other","_law_mine","_law_yours","_law_due","_law_told","_law_turned","_law_low","_law_least","_law_few","_law_far","_law_bad","_law_some"]
theorem z0q:zh N_0 ["_law_script"] (zd s_0):=by refine⟨rfl,rfl,rfl, ?_,rfl, ?_, ?_⟩ <;> decide+kernel
structure Fn (K:ai) (mg:Str->Option Value) (x:Str) (st:Stmt) (ps:List Str) (f:Addr) (fd:FuncData):Prop where
 F:Fun K x x st f fd
 b:L2.Binds K fd ps []
 m:mg x=some (.ref f)
abbrev bmVE:List Value:=[.type "ValueError",.type "Exception",.type "BaseException",.type "object"]
set_option genInjectivity false in
set_option genSizeOf false in
structure Tx (K:ai) (mg:Str->Option Value) where
 a_16:Addr
 d_16:FuncData
 C_16:Fn K mg "_law_cell" s_16 ["_law_script","_law_k"] a_16 d_16
 a_2:Addr
 d_2:FuncData
 C_2:Fn K mg "_law_pick" s_2 ["_law_script","_law_k","_law_many"] a_2 d_2
 a_w:Addr
 d_w:FuncData
 C_w:Fn K mg "_law_word_of" s_w ["_law_script","_law_at_here"] a_w d_w
 a_k:Addr
 d_k:FuncData
 C_k:Fn K mg "_law_leaf_kind" s_k ["_law_script","_law_at_here"] a_k d_k
 a_g:Addr
 d_g:FuncData
 C_g:Fn K mg "_law_kind" s_g ["_law_script","_law_at_here","_law_deep"] a_g d_g
 a_f:Addr
 d_f:FuncData
 C_f:Fn K mg "_law_rows_of" s_f ["_law_lists"] a_f d_f
 a_3:Addr
 d_3:FuncData
 C_3:Fn K mg "_law_all" s_3 ["_law_kind_here"] a_3 d_3
 a_8:Addr
 d_8:FuncData
 C_8:Fn K mg "_law_size" s_8 ["_law_kind_here"] a_8 d_8
 a_u:Addr
 d_u:FuncData
 C_u:Fn K mg "_law_small" s_u ["_law_script","_law_at_here","_law_most"] a_u d_u
 a_h:Addr
 d_h:FuncData
 C_h:Fn K mg "_law_near" s_h ["_law_script","_law_at_here","_law_kind_here"] a_h d_h
 a_i:Addr
 d_i:FuncData
 C_i:Fn K mg "_law_places" s_i ["_law_thing"] a_i d_i
 a_11:Addr
 d_11:FuncData
 C_11:Fn K mg "_law_at" s_11 ["_law_thing","_law_place"] a_11 d_11
 a_e:Addr
 d_e:FuncData
 C_e:Fn K mg "_law_put" s_e ["_law_thing","_law_place","_law_new"] a_e d_e
 a_10:Addr
 d_10:FuncData
 C_10:Fn K mg "_law_spoilt_thing" s_10 ["_law_script","_law_at_here","_law_thing"] a_10 d_10
 a_m:Addr
 d_m:FuncData
 C_m:Fn K mg "_law_whole" s_m ["_law_thing","_law_low","_law_high"] a_m d_m
 a_s:Addr
 d_s:FuncData
 C_s:Fn K mg "_law_is_word" s_s ["_law_thing"] a_s d_s
 a_a:Addr
 d_a:FuncData
 C_a:Fn K mg "_law_is_kind" s_a ["_law_thing","_law_deep"] a_a d_a
 a_9:Addr
 d_9:FuncData
 C_9:Fn K mg "_law_word" s_9 ["_law_kept"] a_9 d_9
 a_q:Addr
 d_q:FuncData
 C_q:Fn K mg "is_whole" s_q ["thing"] a_q d_q
 a_17:Addr
 d_17:FuncData
 C_17:Fn K mg "is_span" s_17 ["low","high","least","most"] a_17 d_17
 a_j:Addr
 d_j:FuncData
 C_j:Fn K mg "is_tuple_of" s_j ["thing","least","most"] a_j d_j
 a_7:Addr
 d_7:FuncData
 C_7:Fn K mg "is_word" s_7 ["thing"] a_7 d_7
 a_z:Addr
 d_z:FuncData
 C_z:Fn K mg "is_choice" s_z ["thing"] a_z d_z
 a_t:Addr
 d_t:FuncData
 C_t:Fn K mg "are_choices" s_t ["thing"] a_t d_t
 a_b:Addr
 d_b:FuncData
 C_b:Fn K mg "is_kind_within" s_b ["thing","levels"] a_b d_b
 a_15:Addr
 d_15:FuncData
 C_15:Fn K mg "are_kinds_within" z0l ["thing","levels"] a_15 d_15
 a_1:Addr
 d_1:FuncData
 C_1:Fn K mg "is_kind" s_1 ["thing"] a_1 d_1
 a_l:Addr
 d_l:FuncData
 C_l:Fn K mg "need_kind" s_l ["kind"] a_l d_l
 a_13:Addr
 d_13:FuncData
 C_13:Fn K mg "common_whole" s_13 ["one","other"] a_13 d_13
 a_v:Addr
 d_v:FuncData
 C_v:Fn K mg "words_of_pick" s_v ["kind"] a_v d_v
 a_x:Addr
 d_x:FuncData
 C_x:Fn K mg "common_pick" s_x ["one","other"] a_x d_x
 a_y:Addr
 d_y:FuncData
 C_y:Fn K mg "kinds_of_parts" s_y ["kind","length"] a_y d_y
 a_5:Addr
 d_5:FuncData
 C_5:Fn K mg "common_kind" s_5 ["one","other"] a_5 d_5
 a_14:Addr
 d_14:FuncData
 C_14:Fn K mg "common_row" z0n ["one_kinds","other_kinds"] a_14 d_14
 a_18:Addr
 d_18:FuncData
 C_18:Fn K mg "common_many" s_18 ["one","other"] a_18 d_18
 a_c:Addr
 d_c:FuncData
 C_c:Fn K mg "both" s_c ["one","other"] a_c d_c
 a_4:Addr
 d_4:FuncData
 C_4:Fn K mg "count_of" s_4 ["kind"] a_4 d_4
 a_n:Addr
 d_n:FuncData
 C_n:Fn K mg "count_of_parts" s_n ["kinds"] a_n d_n
 a_12:Addr
 d_12:FuncData
 C_12:Fn K mg "count_shorter" z0o ["kind","length"] a_12 d_12
 a_p:Addr
 d_p:FuncData
 C_p:Fn K mg "is_within" s_p ["one","other"] a_p d_p
 a_o:Addr
 d_o:FuncData
 C_o:Fn K mg "are_apart" s_o ["one","other"] a_o d_o
 a_6:Addr
 d_6:FuncData
 C_6:Fn K mg "_law_tried" s_6 ["_law_what","_law_one","_law_other"] a_6 d_6
 a_d:Addr
 d_d:FuncData
 C_d:Fn K mg "_law_sorted" s_d ["_law_worths"] a_d d_d
 a_r:Addr
 d_r:FuncData
 C_r:Fn K mg "_law_are_rows_common" s_r ["_law_script"] a_r d_r
 a_0:Addr
 d_0:FuncData
 C_0:Fn K mg "law" s_0 ["_law_script"] a_0 d_0
 z_ValueError:mg "ValueError"=none
 z_all:mg "all"=none
 z_bool:mg "bool"=none
 z_enumerate:mg "enumerate"=none
 z_int:mg "int"=none
 z_isinstance:mg "isinstance"=none
 z_len:mg "len"=none
 z_list:mg "list"=none
 z_max:mg "max"=none
 z_min:mg "min"=none
 z_range:mg "range"=none
 z_set:mg "set"=none
 z_sorted:mg "sorted"=none
 z_str:mg "str"=none
 z_sum:mg "sum"=none
 z_tuple:mg "tuple"=none
 z_zip:mg "zip"=none
 c_DEEPEST:∃u,mg "DEEPEST"=some u/\∃t,u=Value.int 3 t
set_option genInjectivity false in
set_option genSizeOf false in
structure Tq (K:ai) (mg:Str->Option Value) (base:Heap) (cl:Nat->Value) where
 q_Ended:Addr
 q_NoKind:Addr
 q_NoRule:Addr
 q_NoText:Addr
 q_NoWorth:Addr
 q_TooMany:Addr
 q_WorthError:Addr
 X_k:XK1 K cl okX
 e_WorthError:∀c,okX c=true->PySem.W.exmOne K (cl c) (.ref q_WorthError)=some true
 l_NoKind:cl 0= .ref q_NoKind
 m_Ended:mg "Ended"=some (.ref q_Ended)
 m_NoKind:mg "NoKind"=some (.ref q_NoKind)
 m_NoRule:mg "NoRule"=some (.ref q_NoRule)
 m_NoText:mg "NoText"=some (.ref q_NoText)
 m_NoWorth:mg "NoWorth"=some (.ref q_NoWorth)
 m_TooMany:mg "TooMany"=some (.ref q_TooMany)
 m_WorthError:mg "WorthError"=some (.ref q_WorthError)
 o_NoKind:OwnCls "NoKind" q_NoKind bmVE "ValueError.__new__" mg base
 t_Ended:∀c,okX c=true->aN K (cl c) (.ref q_Ended)=some (JI c)
 t_NoKind:∀c,okX c=true->aN K (cl c) (.ref q_NoKind)=some (jS c)
 t_NoRule:∀c,okX c=true->aN K (cl c) (.ref q_NoRule)=some (jT c)
 t_NoText:∀c,okX c=true->aN K (cl c) (.ref q_NoText)=some (jU c)
 t_NoWorth:∀c,okX c=true->aN K (cl c) (.ref q_NoWorth)=some (jx c)
 t_TooMany:∀c,okX c=true->aN K (cl c) (.ref q_TooMany)=some (jy c)
 t_ValueError:∀c,okX c=true->aN K (cl c) (.type "ValueError")=some (ZV c)
section
variable (P:Program)(w:World){K:ai}{mg:Str->Option Value}(base:Heap)(cl:Nat->Value)(tx:Tx K mg)(k:Nat)(c:List T->R T)
abbrev z0r:Prop:=Zh P w K mg base CX0 k tx.a_16 tx.d_16 ["_law_script","_law_k"] (spP cl 2 c)
abbrev Q_2:Prop:=Zh P w K mg base CX0 k tx.a_2 tx.d_2 ["_law_script","_law_k","_law_many"] (spP cl 3 c)
abbrev Q_w:Prop:=Zh P w K mg base CX0 k tx.a_w tx.d_w ["_law_script","_law_at_here"] (spP cl 2 c)
abbrev Q_k:Prop:=Zh P w K mg base CX0 k tx.a_k tx.d_k ["_law_script","_law_at_here"] (spP cl 2 c)
abbrev Q_g:Prop:=Zh P w K mg base CX0 k tx.a_g tx.d_g ["_law_script","_law_at_here","_law_deep"] (spP cl 3 c)
abbrev Q_f:Prop:=Zh P w K mg base CX0 k tx.a_f tx.d_f ["_law_lists"] (spP cl 1 c)
abbrev Q_3:Prop:=Zh P w K mg base CX0 k tx.a_3 tx.d_3 ["_law_kind_here"] (spP cl 1 c)
abbrev Q_8:Prop:=Zh P w K mg base CX0 k tx.a_8 tx.d_8 ["_law_kind_here"] (spP cl 1 c)
abbrev Q_u:Prop:=Zh P w K mg base CX0 k tx.a_u tx.d_u ["_law_script","_law_at_here","_law_most"] (spP cl 3 c)
abbrev Q_h:Prop:=Zh P w K mg base CX0 k tx.a_h tx.d_h ["_law_script","_law_at_here","_law_kind_here"] (spP cl 3 c)
abbrev Q_i:Prop:=Zh P w K mg base CX0 k tx.a_i tx.d_i ["_law_thing"] (spP cl 1 c)
abbrev z0s:Prop:=Zh P w K mg base CX0 k tx.a_11 tx.d_11 ["_law_thing","_law_place"] (spP cl 2 c)
abbrev Q_e:Prop:=Zh P w K mg base CX0 k tx.a_e tx.d_e ["_law_thing","_law_place","_law_new"] (spP cl 3 c)
abbrev z0t:Prop:=Zh P w K mg base CX0 k tx.a_10 tx.d_10 ["_law_script","_law_at_here","_law_thing"] (spP cl 3 c)
abbrev Q_m:Prop:=Zh P w K mg base CX0 k tx.a_m tx.d_m ["_law_thing","_law_low","_law_high"] (spP cl 3 c)
abbrev Q_s:Prop:=Zh P w K mg base CX0 k tx.a_s tx.d_s ["_law_thing"] (spP cl 1 c)
abbrev Q_a:Prop:=Zh P w K mg base CX0 k tx.a_a tx.d_a ["_law_thing","_law_deep"] (spP cl 2 c)
abbrev Q_9 (c:Nat->R T):Prop:=Zh P w K mg base CX0 k tx.a_9 tx.d_9 ["_law_kept"] (spC cl c)
abbrev Q_q:Prop:=Zh P w K mg base CX0 k tx.a_q tx.d_q ["thing"] (spP cl 1 c)
abbrev z0u:Prop:=Zh P w K mg base CX0 k tx.a_17 tx.d_17 ["low","high","least","most"] (spP cl 4 c)
abbrev Q_j:Prop:=Zh P w K mg base CX0 k tx.a_j tx.d_j ["thing","least","most"] (spP cl 3 c)
abbrev Q_7:Prop:=Zh P w K mg base CX0 k tx.a_7 tx.d_7 ["thing"] (spP cl 1 c)
abbrev Q_z:Prop:=Zh P w K mg base CX0 k tx.a_z tx.d_z ["thing"] (spP cl 1 c)
abbrev Q_t:Prop:=Zh P w K mg base CX0 k tx.a_t tx.d_t ["thing"] (spP cl 1 c)
abbrev Q_b:Prop:=Zh P w K mg base CX0 k tx.a_b tx.d_b ["thing","levels"] (spP cl 2 c)
abbrev gA:Prop:=Zh P w K mg base CX0 k tx.a_15 tx.d_15 ["thing","levels"] (spP cl 2 c)
abbrev Q_1:Prop:=Zh P w K mg base CX0 k tx.a_1 tx.d_1 ["thing"] (spP cl 1 c)
abbrev Q_l:Prop:=Zh P w K mg base (CX1 P w) k tx.a_l tx.d_l ["kind"] (spP cl 1 c)
abbrev z0v:Prop:=Zh P w K mg base CX0 k tx.a_13 tx.d_13 ["one","other"] (spP cl 2 c)
abbrev Q_v:Prop:=Zh P w K mg base CX0 k tx.a_v tx.d_v ["kind"] (spP cl 1 c)
abbrev Q_x:Prop:=Zh P w K mg base CX0 k tx.a_x tx.d_x ["one","other"] (spP cl 2 c)
abbrev Q_y:Prop:=Zh P w K mg base CX0 k tx.a_y tx.d_y ["kind","length"] (spP cl 2 c)
abbrev Q_5:Prop:=Zh P w K mg base CX0 k tx.a_5 tx.d_5 ["one","other"] (spP cl 2 c)
abbrev gB:Prop:=Zh P w K mg base CX0 k tx.a_14 tx.d_14 ["one_kinds","other_kinds"] (spP cl 2 c)
abbrev gC:Prop:=Zh P w K mg base CX0 k tx.a_18 tx.d_18 ["one","other"] (spP cl 2 c)
abbrev Q_c:Prop:=Zh P w K mg base (CX1 P w) k tx.a_c tx.d_c ["one","other"] (spP cl 2 c)
abbrev Q_4:Prop:=Zh P w K mg base CX0 k tx.a_4 tx.d_4 ["kind"] (spP cl 1 c)
abbrev Q_n:Prop:=Zh P w K mg base CX0 k tx.a_n tx.d_n ["kinds"] (spP cl 1 c)
abbrev gD:Prop:=Zh P w K mg base CX0 k tx.a_12 tx.d_12 ["kind","length"] (spP cl 2 c)
abbrev Q_p:Prop:=Zh P w K mg base (CX1 P w) k tx.a_p tx.d_p ["one","other"] (spP cl 2 c)
abbrev Q_o:Prop:=Zh P w K mg base (CX1 P w) k tx.a_o tx.d_o ["one","other"] (spP cl 2 c)
abbrev Q_6:Prop:=Zh P w K mg base CX0 k tx.a_6 tx.d_6 ["_law_what","_law_one","_law_other"] (spP cl 3 c)
abbrev Q_d:Prop:=Zh P w K mg base CX0 k tx.a_d tx.d_d ["_law_worths"] (spP cl 1 c)
abbrev Q_r:Prop:=Zh P w K mg base CX0 k tx.a_r tx.d_r ["_law_script"] (spP cl 1 c)
abbrev Q_0:Prop:=Zh P w K mg base CX0 k tx.a_0 tx.d_0 ["_law_script"] (spP cl 1 c)
end
theorem cZ {X:Cx}{Y:Fx}{cl:Nat->Value}{k j n:Nat}{f:Addr}{fd:FuncData}{ps:List Str}{g:List T->R T}{x:Str}{st:Stmt}{a:Expr}{es:List Expr}{ga:En->R (List T)}{p pos:Pos}(hy:Y.cl=cl)(F:Zh X.prog X.w X.K X.mg X.base CX0 j f fd ps (spP cl n g))(hr:jv k X.A)(C:Fn X.K X.mg x st ps f fd)(ha:Wk X Y (a :: es) ga)(hj:j<=k:=by omega)(gl:Gl X x:=by rfl)(hd:(x == ("__debug__":Str))=false:=by decide)
  (hs:starEach (a :: es) X.env=(false,eval a X.env) :: starEach es X.env:=by exact zN rfl) (hz:((backTo pos (starEach es X.env)).any λx=>x.fst)=false:=by exact Zy rfl):Snd X Y (.Call (.Name x p) (a :: es) [] pos) (za n g ga):=VF hy F hr hj gl C.m C.F.kp C.b ha hd hs hz
theorem cX {X:Cx}{Y:Fx}{cl:Nat->Value}{k j n:Nat}{f:Addr}{fd:FuncData}{ps:List Str}{g:List T->R T}{x:Str}{st:Stmt}{a:Expr}{es:List Expr}{ga:En->R (List T)}{p pos:Pos}(hy:Y.cl=cl)(hp:ZQ (CX1 X.prog X.w) X Y.E)(F:Zh X.prog X.w X.K X.mg X.base (CX1 X.prog X.w) j f fd ps (spP cl n g))(hr:jv k X.A)(C:Fn X.K X.mg x st ps f fd)(ha:Wk X Y (a :: es) ga)(hj:j<=k:=by omega)(gl:Gl X x:=by rfl)(hd:(x == ("__debug__":Str))=false:=by decide)
  (hs:starEach (a :: es) X.env=(false,eval a X.env) :: starEach es X.env:=by exact zN rfl) (hz:((backTo pos (starEach es X.env)).any λx=>x.fst)=false:=by exact Zy rfl):Snd X Y (.Call (.Name x p) (a :: es) [] pos) (za n g ga):=VI hy hp F hr hj gl C.m C.F.kp C.b ha hd hs hz
section
variable {P:Program}{w:World}{K:ai}{mg:Str->Option Value}{base:Heap}{cl:Nat->Value}{tx:Tx K mg}
set_option hygiene false
local macro_rules | `(tactic| gp_on)=> `(tactic| first
  | (show Wk _ _ _ _;first
   | refine QZ ?_ ?_
   | exact XS)
  | (show Snd _ _ (.Constant ..) _;first
   | exact G5
   | exact XR
   | exact s_bl
   | exact G6)
  | (show Snd _ _ (.Name ..) _;first
   | exact G4 _ (pv _)
   | exact VG (by rfl) c_DEEPEST.1 c_DEEPEST.2)
  | (show jw _ _ _ _;first
   | exact XQ _ (pv _)
   | refine Snd.b ?_)
  | (show uF _ _ _ _;first
   | refine kd ?_ ?_
   | exact Gx
   | refine Gy ?_)
  | (show wH _ _ _ _;first
   | refine Gz ?_
   | refine GA ?_ ?_ ?_
   | refine ke nd (by rfl) (.inl (by rfl)) ?_
   | refine GD PassesOwn.never (by rfl) ?_ ?_ ?_
   | refine ke nd (by rfl) (.inr (by rfl)) ?_
   | refine kf nd (by rfl) (.inl (by rfl)) ?_
   | refine GI (by rfl) nd (by rfl) (by rfl) (by decide) (by rfl) (by rfl) ?_ (by rfl)
   | refine GC (pv _) ?_
   | refine kg ?_
   | refine GB (pv _) ?_
   | exact s_mv (pv _) nd (by rfl) (.inl (by rfl))
   | exact VJ (c:=_) xq.o_NoKind eC (by decide) eC hE (by rw[hy];exact xq.l_NoKind) (by rfl)
   | refine kN ?_ (vi (by rfl) nd (by rfl) (by rfl) (.inl (by rfl)) (.inr (by rfl))))
  | (show Snd _ _ (.Call ..) _;first
   | refine Gs (by rfl) tx.z_len ?_
   | refine qS (n:="tuple") (yv _) (by rfl) tx.z_isinstance (by rfl) tx.z_tuple PyProof.Rows.Boot.«tuple» ?_
   | refine k9 (by rfl) (by rfl) tx.z_min ?_ ?_
   | refine Vq (by rfl) tx.z_tuple ?_
   | refine kM (by rfl) tx.z_int ?_
   | refine kO (by rfl) (by rfl) tx.z_max ?_ ?_
   | refine qS (n:="int") (Vr _) (by rfl) tx.z_isinstance (by rfl) tx.z_int PyProof.Rows.Boot.«int» ?_
   | refine qS (n:="str") (Vs _) (by rfl) tx.z_isinstance (by rfl) tx.z_str PyProof.Rows.Boot.«str» ?_
   | refine Gw hr.hd (by rfl) tx.z_all ?_
   | refine qS (n:="bool") (qR _) (by rfl) tx.z_isinstance (by rfl) tx.z_bool PyProof.Rows.Boot.«bool» ?_
   | refine ky ?_
   | refine VZ hr.hd (by rfl) tx.z_list (by rfl) tx.z_range ?_ ?_
   | exact jR (hy ▸ xq.X_k) (hy ▸ xq.t_Ended) (by rfl) tx.z_isinstance (pv _) (by rfl) xq.m_Ended
   | exact jR (hy ▸ xq.X_k) (hy ▸ xq.t_NoKind) (by rfl) tx.z_isinstance (pv _) (by rfl) xq.m_NoKind
   | exact jR (hy ▸ xq.X_k) (hy ▸ xq.t_NoRule) (by rfl) tx.z_isinstance (pv _) (by rfl) xq.m_NoRule
   | exact jR (hy ▸ xq.X_k) (hy ▸ xq.t_NoText) (by rfl) tx.z_isinstance (pv _) (by rfl) xq.m_NoText
   | exact jR (hy ▸ xq.X_k) (hy ▸ xq.t_NoWorth) (by rfl) tx.z_isinstance (pv _) (by rfl) xq.m_NoWorth
   | exact jR (hy ▸ xq.X_k) (hy ▸ xq.t_TooMany) (by rfl) tx.z_isinstance (pv _) (by rfl) xq.m_TooMany
   | refine x6 hr.units ?_ ?_
   | exact VO (n:="ValueError") (hy ▸ xq.X_k) (hy ▸ xq.t_ValueError) (by rfl) tx.z_isinstance (pv _) (by rfl) tx.z_ValueError PyProof.Rows.Boot.«ValueError»
   | refine x8 hr.units ?_ ?_
   | refine kz hr.hd (by rfl) tx.z_len (by rfl) tx.z_set ?_
   | refine GQ hr.hd (by rfl) tx.z_sum ?_
   | refine xl hy hp tx.C_c.m tx.C_p.m tx.C_o.m (xk O_c hr (by omega) tx.C_c.F.kp tx.C_c.b) (xk O_p hr (by omega) tx.C_p.F.kp tx.C_p.b) (xk O_o hr (by omega) tx.C_o.F.kp tx.C_o.b) (by rfl) (by rfl) (by rfl) ?_ ?_
   | exact VQ hy O_9 hr (by omega) (by rfl) tx.C_9.m tx.C_9.F.kp tx.C_9.b (pv _)
   | refine xi (by rfl) tx.z_sorted ?_
   | refine kQ hr (by rfl) tx.z_str ?_
   | refine cZ hy O_2 hr tx.C_2 ?_
   | refine cZ hy O_6 hr tx.C_6 ?_
   | refine cZ hy O_3 hr tx.C_3 ?_
   | refine cZ hy O_d hr tx.C_d ?_
   | refine cZ hy O_e hr tx.C_e ?_
   | refine cZ hy O_8 hr tx.C_8 ?_
   | refine cZ hy O_m hr tx.C_m ?_
   | refine cZ hy O_1 hr tx.C_1 ?_
   | refine cZ (hy'.trans hy) O_2 hr tx.C_2 ?_
   | refine cZ hy O_g hr tx.C_g ?_
   | refine cZ hy O_h hr tx.C_h ?_
   | refine cZ hy O_q hr tx.C_q ?_
   | refine cZ hy O_j hr tx.C_j ?_
   | refine cZ hy O_4 hr tx.C_4 ?_
   | refine cZ hy O_k hr tx.C_k ?_
   | refine cZ hy O_f hr tx.C_f ?_
   | refine cZ (hy'.trans hy) O_3 hr tx.C_3 ?_
   | refine cZ hy O_i hr tx.C_i ?_
   | refine cZ hy O_a hr tx.C_a ?_
   | refine cZ hy O_17 hr tx.C_17 ?_
   | refine cZ hy O_b hr tx.C_b ?_
   | refine cZ hy O_14 hr tx.C_14 ?_
   | refine cZ hy O_y hr tx.C_y ?_
   | refine cZ hy O_5 hr tx.C_5 ?_
   | refine cX hy (hE ▸ XN) O_l hr tx.C_l ?_
   | refine cX hy (hE ▸ XN) O_c hr tx.C_c ?_
   | refine cZ hy O_u hr tx.C_u ?_
   | refine cZ (hy'.trans hy) O_6 hr tx.C_6 ?_
   | refine cZ hy O_16 hr tx.C_16 ?_
   | refine cZ hy O_w hr tx.C_w ?_
   | refine cZ (hy'.trans hy) O_g hr tx.C_g ?_
   | refine cZ (hy'.trans hy) O_8 hr tx.C_8 ?_
   | refine cZ hy O_11 hr tx.C_11 ?_
   | refine cZ (hy'.trans hy) O_s hr tx.C_s ?_
   | refine cZ (hy'.trans hy) O_m hr tx.C_m ?_
   | refine cZ (hy'.trans hy) O_a hr tx.C_a ?_
   | refine cZ hy O_7 hr tx.C_7 ?_
   | refine cZ (hy'.trans hy) O_z hr tx.C_z ?_
   | refine cZ hy O_t hr tx.C_t ?_
   | refine cZ hy O_15 hr tx.C_15 ?_
   | refine cZ (hy'.trans hy) O_b hr tx.C_b ?_
   | refine cZ hy O_v hr tx.C_v ?_
   | refine cZ hy O_13 hr tx.C_13 ?_
   | refine cZ hy O_x hr tx.C_x ?_
   | refine cZ hy O_18 hr tx.C_18 ?_
   | refine cZ (hy'.trans hy) O_5 hr tx.C_5 ?_
   | refine cZ hy O_n hr tx.C_n ?_
   | refine cZ hy O_12 hr tx.C_12 ?_
   | refine cZ (hy'.trans hy) O_n hr tx.C_n ?_
   | refine cZ hy O_r hr tx.C_r ?_
   | refine cZ hy O_10 hr tx.C_10 ?_)
  | (show Wj _ _ _ _;first
   | refine Wl XU (v9 hr.units) ?_ ?_ (jq _)
   | refine Wl Gg (XV hr.units) ?_ ?_ (jq _)
   | refine Gp ?_
   | refine Wl vb yq ?_ ?_ (jq _)
   | refine Wl Gh XX ?_ ?_ (jq _)
   | refine Wl XW va ?_ ?_ (jq _)
   | refine Wl Vl (XZ hr.units) ?_ ?_ (by rfl)
   | refine Vo Wm Wm J9 J9 ?_ ?_ ?_
   | refine Wl Wm J9 ?_ ?_ (jq _)
   | refine Wl XY (Vm hr.units) ?_ ?_ (by rfl)
   | exact kE (pv _)
   | refine Gq ?_
   | refine UH.t ?_)
  | (show Snd _ _ (.Subscript ..) _;first
   | refine s_ix ?_ ?_
   | refine Vv ?_ ?_ ?_
   | refine kR ?_)
  | (show Snd _ _ (.BinOp ..) _;first
   | refine Ga ?_ ?_
   | refine Ge ?_ ?_
   | refine Gb ?_ ?_
   | refine Gc ?_ ?_
   | refine GR ?_ ?_
   | refine XT ?_ ?_)
  | (show Snd _ _ (.Tuple ..) _;first
   | refine G7 ?_)
  | (show UH _ _ _ _;first
   | refine w_or ?_ ?_
   | refine Go ?_ ?_
   | refine Gn ?_
   | refine k6 ?_)
  | (show yC _ _ _ _ _;first
   | refine kl (by rfl) tx.z_range ?_
   | refine km (by rfl) tx.z_range ?_ ?_
   | refine kw (by rfl) tx.z_enumerate ?_
   | refine GM (by rfl) tx.z_zip ?_ ?_
   | refine GH ?_)
  | (show Snd _ _ (.Compare ..) _;first
   | refine qM XU (v9 hr.units) ?_ ?_ (jq _)
   | refine Vn Wm Wm J9 J9 ?_ ?_ ?_
   | refine qM qO vc ?_ ?_ (jq _)
   | refine qP Wm Wm Wm J9 J9 J9 ?_ ?_ ?_ ?_
   | refine qM vb yq ?_ ?_ (jq _)
   | refine qM XW va ?_ ?_ (jq _))
  | (show Snd _ _ (.BoolOp ..) _;first
   | refine Gk ?_ ?_
   | refine Gj ?_)
  | (show u5 _ _ _ _;first
   | exact kr
   | refine ku ?_)
  | (show Vt _ _ _ _;first
   | refine k8 ?_
   | exact k7)
  | (show Snd _ _ (.List ..) _;first
   | refine G8 ?_)
  | (show kn _ _ _ _;first
   | exact vh nd (by rfl) (.inl (by rfl))
   | exact vh nd (by rfl) (.inr (by rfl))
   | exact vi (by rfl) nd (by rfl) (by rfl) (.inl (by rfl)) (.inl (by rfl)))
  | (show Snd _ _ (.UnaryOp ..) _;first
   | refine Gf ?_
   | refine Gm ?_)
  | (show Snd _ _ (.IfExp ..) _;first
   | refine s_if ?_ ?_ ?_)
  )
theorem z0w:z0r P w base cl tx 1 (λts=>zg (b_16  (en0 2 ts))):=by
 refine Z6 tx.C_16.F KA rfl (λcdv A outer s H E Y hy hr=> ?_) (λts h=>rfl);have nd:=KA.nd
 repeat' gp_on
theorem ok_2 {c_16:List T->R T}(O_16:z0r P w base cl tx 1 c_16):Q_2 P w base cl tx 2 (λts=>zg (b_2 c_16 (en0 4 ts))):=by
 refine Z6 tx.C_2.F sc_2 rfl (λcdv A outer s H E Y hy hr=> ?_) (λts h=>rfl);have nd:=sc_2.nd
 repeat' gp_on
theorem ok_w {c_2:List T->R T}(O_2:Q_2 P w base cl tx 2 c_2):Q_w P w base cl tx 3 (λts=>zg (b_w c_2 (en0 3 ts))):=by
 refine Z6 tx.C_w.F sc_w rfl (λcdv A outer s H E Y hy hr=> ?_) (λts h=>rfl);have nd:=sc_w.nd
 repeat' gp_on
 refine Zf (zP ["_law_k","_law_script","_law_at_here","_law_letters"] N_w (zd s_w) (by rfl) (by rfl) (by decide+kernel) (by rfl) ?_ (λ_ _ _ _ _ _=>zn (show aK (["_law_k","_law_script","_law_at_here","_law_letters"]:List Str) by decide+kernel) (by rfl) (.inl (by rfl)) (.inr (by rfl))) (zA 0) (zB 0) (λY' hy' _ _ _ _ _ _=> ?_) (λY' hy' _ _ _ _ _ _ _ hp' => ?_))
 repeat' gp_on
theorem ok_k {c_2 c_w:List T->R T}(O_2:Q_2 P w base cl tx 2 c_2)(O_w:Q_w P w base cl tx 3 c_w):Q_k P w base cl tx 4 (λts=>zg (b_k c_2 c_w (en0 6 ts))):=by
 refine Z6 tx.C_k.F sc_k rfl (λcdv A outer s H E Y hy hr=> ?_) (λts h=>rfl);have nd:=sc_k.nd
 repeat' gp_on
 refine Zf (zP ["_law_k","_law_word_here","_law_script","_law_at_here"] N_k (zd s_k) (by rfl) (by rfl) (by decide+kernel) (by rfl) ?_ (λ_ _ _ _ _ _=>wf (by rfl) (Zj (zn (show aK (["_law_k","_law_word_here","_law_script","_law_at_here"]:List Str) by decide+kernel) (by rfl) (.inl (by rfl)) (.inr (by rfl))) (Zj (zn (show aK (["_law_k","_law_word_here","_law_script","_law_at_here"]:List Str) by decide+kernel) (by rfl) (.inl (by rfl)) (.inr (by rfl))) jP))) (jH _ 0 1) (jI 0 1) (λY' hy' _ _ _ _ _ _=> ?_) (λY' hy' _ _ _ _ _ _ _ hp' => ?_))
 repeat' gp_on
theorem ok_g {j:Nat}(hj:4<=j){c_2 c_k c_g:List T->R T}(O_2:Q_2 P w base cl tx 2 c_2)(O_k:Q_k P w base cl tx 4 c_k)(O_g:Q_g P w base cl tx j c_g):Q_g P w base cl tx (j+1) (λts=>zg (b_g c_2 c_k c_g (en0 6 ts))):=by
 refine Z6 tx.C_g.F z0i rfl (λcdv A outer s H E Y hy hr=> ?_) (λts h=>rfl);have nd:=z0i.nd
 repeat' gp_on
 refine Jb (i:=4) (zP ["_law_k","_law_script","_law_at_here","_law_deep"] N_g (zd s_g) (by rfl) (by rfl) (by decide+kernel) (by rfl) ?_ (λ_ _ _ _ _ _=>zn (show aK (["_law_k","_law_script","_law_at_here","_law_deep"]:List Str) by decide+kernel) (by rfl) (.inl (by rfl)) (.inr (by rfl))) (zA 0) (zB 0) (λY' hy' _ _ _ _ _ _=> ?_) (λY' hy' _ _ _ _ _ _ _ hp' => ?_)) z0i.nd (by rfl) (.inl (by rfl)) (by rfl)
 repeat' gp_on
theorem ok_f:Q_f P w base cl tx 1 (λts=>zg (b_f  (en0 5 ts))):=by
 refine Z6 tx.C_f.F sc_f rfl (λcdv A outer s H E Y hy hr=> ?_) (λts h=>rfl);have nd:=sc_f.nd
 repeat' gp_on
 refine Zf (zP ["_law_one","_law_ahead"] N_f (zd s_f) (by rfl) (by rfl) (by decide+kernel) (by rfl) ?_ (λ_ _ _ _ _ _=>zn (show aK (["_law_one","_law_ahead"]:List Str) by decide+kernel) (by rfl) (.inl (by rfl)) (.inr (by rfl))) (zA 0) (zB 0) (λY' hy' _ _ _ _ _ _=> ?_) (λY' hy' _ _ _ _ _ _ _ hp' => ?_))
 repeat' gp_on
theorem ok_3 {j:Nat}(hj:1<=j){c_3 c_f:List T->R T}(O_3:Q_3 P w base cl tx j c_3)(O_f:Q_f P w base cl tx 1 c_f):Q_3 P w base cl tx (j+1) (λts=>zg (b_3 c_3 c_f (en0 3 ts))):=by
 refine Z6 tx.C_3.F sc_3 rfl (λcdv A outer s H E Y hy hr=> ?_) (λts h=>rfl);have nd:=sc_3.nd
 repeat' gp_on
 refine Zf (zP ["_law_word_here","_law_heavy"] N_3 (zd s_3) (by rfl) (by rfl) (by decide+kernel) (by rfl) ?_ (λ_ _ _ _ _ _=>wf (by rfl) (Zj (zn (show aK (["_law_word_here","_law_heavy"]:List Str) by decide+kernel) (by rfl) (.inl (by rfl)) (.inr (by rfl))) (Zj (zn (show aK (["_law_word_here","_law_heavy"]:List Str) by decide+kernel) (by rfl) (.inl (by rfl)) (.inr (by rfl))) jP))) (jH _ 0 1) (jI 0 1) (λY' hy' _ _ _ _ _ _=> ?_) (λY' hy' _ _ _ _ _ _ _ hp' => ?_))
 repeat' gp_on
 refine Zf (zP ["_law_one"] N_3 (zd s_3) (by rfl) (by rfl) (by decide+kernel) (by rfl) ?_ (λ_ _ _ _ _ _=>zn (show aK (["_law_one"]:List Str) by decide+kernel) (by rfl) (.inl (by rfl)) (.inr (by rfl))) (zA 0) (zB 0) (λY' hy' _ _ _ _ _ _=> ?_) (λY' hy' _ _ _ _ _ _ _ hp' => ?_))
 repeat' gp_on
theorem ok_8 {j:Nat}(hj:9<=j){c_3 c_8:List T->R T}(O_3:Q_3 P w base cl tx 9 c_3)(O_8:Q_8 P w base cl tx j c_8):Q_8 P w base cl tx (j+1) (λts=>zg (b_8 c_3 c_8 (en0 5 ts))):=by
 refine Z6 tx.C_8.F sc_8 rfl (λcdv A outer s H E Y hy hr=> ?_) (λts h=>rfl);have nd:=sc_8.nd
 repeat' gp_on
 refine Zf (zP ["_law_one"] N_8 (zd s_8) (by rfl) (by rfl) (by decide+kernel) (by rfl) ?_ (λ_ _ _ _ _ _=>zn (show aK (["_law_one"]:List Str) by decide+kernel) (by rfl) (.inl (by rfl)) (.inr (by rfl))) (zA 0) (zB 0) (λY' hy' _ _ _ _ _ _=> ?_) (λY' hy' _ _ _ _ _ _ _ hp' => ?_))
 repeat' gp_on
theorem ok_u {c_g c_8:List T->R T}(O_g:Q_g P w base cl tx 12 c_g)(O_8:Q_8 P w base cl tx 17 c_8):Q_u P w base cl tx 18 (λts=>zg (b_u c_g c_8 (en0 5 ts))):=by
 refine Z6 tx.C_u.F sc_u rfl (λcdv A outer s H E Y hy hr=> ?_) (λts h=>rfl);have nd:=sc_u.nd
 repeat' gp_on
theorem ok_h {j:Nat}(hj:4<=j){c_2 c_k c_h:List T->R T}(O_2:Q_2 P w base cl tx 2 c_2)(O_k:Q_k P w base cl tx 4 c_k)(O_h:Q_h P w base cl tx j c_h):Q_h P w base cl tx (j+1) (λts=>zg (b_h c_2 c_k c_h (en0 7 ts))):=by
 refine Z6 tx.C_h.F sc_h rfl (λcdv A outer s H E Y hy hr=> ?_) (λts h=>rfl);have nd:=sc_h.nd
 repeat' gp_on
 refine Zf (zP ["_law_word_here","_law_heavy"] N_h (zd s_h) (by rfl) (by rfl) (by decide+kernel) (by rfl) ?_ (λ_ _ _ _ _ _=>wf (by rfl) (Zj (zn (show aK (["_law_word_here","_law_heavy"]:List Str) by decide+kernel) (by rfl) (.inl (by rfl)) (.inr (by rfl))) (Zj (zn (show aK (["_law_word_here","_law_heavy"]:List Str) by decide+kernel) (by rfl) (.inl (by rfl)) (.inr (by rfl))) jP))) (jH _ 0 1) (jI 0 1) (λY' hy' _ _ _ _ _ _=> ?_) (λY' hy' _ _ _ _ _ _ _ hp' => ?_))
 repeat' gp_on
 refine Zf (zP ["_law_one","_law_kind_here"] N_h (zd s_h) (by rfl) (by rfl) (by decide+kernel) (by rfl) ?_ (λ_ _ _ _ _ _=>zn (show aK (["_law_one","_law_kind_here"]:List Str) by decide+kernel) (by rfl) (.inl (by rfl)) (.inr (by rfl))) (zA 0) (zB 0) (λY' hy' _ _ _ _ _ _=> ?_) (λY' hy' _ _ _ _ _ _ _ hp' => ?_))
 repeat' gp_on
theorem ok_i {j:Nat}(hj:0<=j){c_i:List T->R T}(O_i:Q_i P w base cl tx j c_i):Q_i P w base cl tx (j+1) (λts=>zg (b_i c_i (en0 3 ts))):=by
 refine Z6 tx.C_i.F sc_i rfl (λcdv A outer s H E Y hy hr=> ?_) (λts h=>rfl);have nd:=sc_i.nd
 repeat' gp_on
 refine Zf (zP ["_law_place","_law_k"] N_i (zd s_i) (by rfl) (by rfl) (by decide+kernel) (by rfl) ?_ (λ_ _ _ _ _ _=>zn (show aK (["_law_place","_law_k"]:List Str) by decide+kernel) (by rfl) (.inl (by rfl)) (.inr (by rfl))) (zA 0) (zB 0) (λY' hy' _ _ _ _ _ _=> ?_) (λY' hy' _ _ _ _ _ _ _ hp' => ?_))
 repeat' gp_on
theorem z0x:z0s P w base cl tx 1 (λts=>zg (g9  (en0 3 ts))):=by
 refine Z6 tx.C_11.F KC rfl (λcdv A outer s H E Y hy hr=> ?_) (λts h=>rfl);have nd:=KC.nd
 repeat' gp_on
theorem ok_e {j:Nat}(hj:0<=j){c_e:List T->R T}(O_e:Q_e P w base cl tx j c_e):Q_e P w base cl tx (j+1) (λts=>zg (b_e c_e (en0 4 ts))):=by
 refine Z6 tx.C_e.F sc_e rfl (λcdv A outer s H E Y hy hr=> ?_) (λts h=>rfl);have nd:=sc_e.nd
 repeat' gp_on
theorem z0y {c_2 c_i c_11 c_e:List T->R T}(O_2:Q_2 P w base cl tx 2 c_2)(O_i:Q_i P w base cl tx 40 c_i)(O_11:z0s P w base cl tx 1 c_11)(O_e:Q_e P w base cl tx 40 c_e):z0t P w base cl tx 41 (λts=>zg (gc c_2 c_i c_11 c_e (en0 9 ts))):=by
 refine Z6 tx.C_10.F KD rfl (λcdv A outer s H E Y hy hr=> ?_) (λts h=>rfl);have nd:=KD.nd
 repeat' gp_on
theorem ok_m:Q_m P w base cl tx 1 (λts=>zg (b_m  (en0 3 ts))):=by
 refine Z6 tx.C_m.F sc_m rfl (λcdv A outer s H E Y hy hr=> ?_) (λts h=>rfl);have nd:=sc_m.nd
 repeat' gp_on
theorem ok_s:Q_s P w base cl tx 1 (λts=>zg (b_s  (en0 1 ts))):=by
 refine Z6 tx.C_s.F sc_s rfl (λcdv A outer s H E Y hy hr=> ?_) (λts h=>rfl);have nd:=sc_s.nd
 repeat' gp_on
 refine Zf (zP ["_law_sign"] N_s (zd s_s) (by rfl) (by rfl) (by decide+kernel) (by rfl) ?_ (λ_ _ _ _ _ _=>zn (show aK (["_law_sign"]:List Str) by decide+kernel) (by rfl) (.inl (by rfl)) (.inr (by rfl))) (zA 0) (zB 0) (λY' hy' _ _ _ _ _ _=> ?_) (λY' hy' _ _ _ _ _ _ _ hp' => ?_))
 repeat' gp_on
theorem ok_a {j:Nat}(hj:1<=j){c_m c_s c_a:List T->R T}(O_m:Q_m P w base cl tx 1 c_m)(O_s:Q_s P w base cl tx 1 c_s)(O_a:Q_a P w base cl tx j c_a):Q_a P w base cl tx (j+1) (λts=>zg (b_a c_m c_s c_a (en0 6 ts))):=by
 refine Z6 tx.C_a.F z0j rfl (λcdv A outer s H E Y hy hr=> ?_) (λts h=>rfl);have nd:=z0j.nd
 repeat' gp_on
 refine Jb (i:=4) (zP ["_law_one"] N_a (zd s_a) (by rfl) (by rfl) (by decide+kernel) (by rfl) ?_ (λ_ _ _ _ _ _=>zn (show aK (["_law_one"]:List Str) by decide+kernel) (by rfl) (.inl (by rfl)) (.inr (by rfl))) (zA 0) (zB 0) (λY' hy' _ _ _ _ _ _=> ?_) (λY' hy' _ _ _ _ _ _ _ hp' => ?_)) z0j.nd (by rfl) (.inl (by rfl)) (by rfl)
 repeat' gp_on
 refine Zf (zP ["_law_one"] N_a (zd s_a) (by rfl) (by rfl) (by decide+kernel) (by rfl) ?_ (λ_ _ _ _ _ _=>zn (show aK (["_law_one"]:List Str) by decide+kernel) (by rfl) (.inl (by rfl)) (.inr (by rfl))) (zA 0) (zB 0) (λY' hy' _ _ _ _ _ _=> ?_) (λY' hy' _ _ _ _ _ _ _ hp' => ?_))
 repeat' gp_on
 refine Zf (zP ["_law_k","_law_words"] N_a (zd s_a) (by rfl) (by rfl) (by decide+kernel) (by rfl) ?_ (λ_ _ _ _ _ _=>zn (show aK (["_law_k","_law_words"]:List Str) by decide+kernel) (by rfl) (.inl (by rfl)) (.inr (by rfl))) (zA 0) (zB 0) (λY' hy' _ _ _ _ _ _=> ?_) (λY' hy' _ _ _ _ _ _ _ hp' => ?_))
 repeat' gp_on
 refine Zf (zP ["_law_one","_law_deep"] N_a (zd s_a) (by rfl) (by rfl) (by decide+kernel) (by rfl) ?_ (λ_ _ _ _ _ _=>zn (show aK (["_law_one","_law_deep"]:List Str) by decide+kernel) (by rfl) (.inl (by rfl)) (.inr (by rfl))) (zA 0) (zB 0) (λY' hy' _ _ _ _ _ _=> ?_) (λY' hy' _ _ _ _ _ _ _ hp' => ?_))
 repeat' gp_on
theorem ok_9 (xq:Tq K mg base cl):Q_9 P w base cl tx 1 (λc=>zg (b_9  (enC 2 c))):=by
 refine kF tx.C_9.F sc_9 (by decide) (λcdv A outer s H E Y hy hr=> ?_) (λc=>rfl)
 have nd:=sc_9.nd
 repeat' gp_on
theorem ok_q:Q_q P w base cl tx 1 (λts=>zg (b_q  (en0 1 ts))):=by
 refine Z6 tx.C_q.F sc_q rfl (λcdv A outer s H E Y hy hr=> ?_) (λts h=>rfl);have nd:=sc_q.nd
 repeat' gp_on
theorem z0z {c_q:List T->R T}(O_q:Q_q P w base cl tx 1 c_q):z0u P w base cl tx 2 (λts=>zg (b_17 c_q (en0 4 ts))):=by
 refine Z6 tx.C_17.F KG rfl (λcdv A outer s H E Y hy hr=> ?_) (λts h=>rfl);have nd:=KG.nd
 repeat' gp_on
theorem ok_j:Q_j P w base cl tx 1 (λts=>zg (b_j  (en0 3 ts))):=by
 refine Z6 tx.C_j.F sc_j rfl (λcdv A outer s H E Y hy hr=> ?_) (λts h=>rfl);have nd:=sc_j.nd
 repeat' gp_on
theorem ok_7:Q_7 P w base cl tx 1 (λts=>zg (b_7  (en0 1 ts))):=by
 refine Z6 tx.C_7.F sc_7 rfl (λcdv A outer s H E Y hy hr=> ?_) (λts h=>rfl);have nd:=sc_7.nd
 repeat' gp_on
 refine Zf (zP ["sign"] N_7 (zd s_7) (by rfl) (by rfl) (by decide+kernel) (by rfl) ?_ (λ_ _ _ _ _ _=>zn (show aK (["sign"]:List Str) by decide+kernel) (by rfl) (.inl (by rfl)) (.inr (by rfl))) (zA 0) (zB 0) (λY' hy' _ _ _ _ _ _=> ?_) (λY' hy' _ _ _ _ _ _ _ hp' => ?_))
 repeat' gp_on
theorem ok_z {c_q c_j c_7:List T->R T}(O_q:Q_q P w base cl tx 1 c_q)(O_j:Q_j P w base cl tx 1 c_j)(O_7:Q_7 P w base cl tx 1 c_7):Q_z P w base cl tx 2 (λts=>zg (b_z c_q c_j c_7 (en0 1 ts))):=by
 refine Z6 tx.C_z.F sc_z rfl (λcdv A outer s H E Y hy hr=> ?_) (λts h=>rfl);have nd:=sc_z.nd
 repeat' gp_on
theorem ok_t {c_j c_z:List T->R T}(O_j:Q_j P w base cl tx 1 c_j)(O_z:Q_z P w base cl tx 2 c_z):Q_t P w base cl tx 3 (λts=>zg (b_t c_j c_z (en0 2 ts))):=by
 refine Z6 tx.C_t.F z0k rfl (λcdv A outer s H E Y hy hr=> ?_) (λts h=>rfl);have nd:=z0k.nd
 repeat' gp_on
 refine Zf (zP ["part"] N_t (zd s_t) (by rfl) (by rfl) (by decide+kernel) (by rfl) ?_ (λ_ _ _ _ _ _=>zn (show aK (["part"]:List Str) by decide+kernel) (by rfl) (.inl (by rfl)) (.inr (by rfl))) (zA 0) (zB 0) (λY' hy' _ _ _ _ _ _=> ?_) (λY' hy' _ _ _ _ _ _ _ hp' => ?_))
 repeat' gp_on
 refine Jb (i:=1) (zP ["choice"] N_t (zd s_t) (by rfl) (by rfl) (by decide+kernel) (by rfl) ?_ (λ_ _ _ _ _ _=>zn (show aK (["choice"]:List Str) by decide+kernel) (by rfl) (.inl (by rfl)) (.inr (by rfl))) (zA 0) (zB 0) (λY' hy' _ _ _ _ _ _=> ?_) (λY' hy' _ _ _ _ _ _ _ hp' => ?_)) z0k.nd (by rfl) (.inl (by rfl)) (by rfl)
 repeat' gp_on
theorem ok_b {j:Nat}(hj:3<=j){c_17 c_b c_t c_15:List T->R T}(O_17:z0u P w base cl tx 2 c_17)(O_b:Q_b P w base cl tx j c_b)(O_t:Q_t P w base cl tx 3 c_t)(O_15:gA P w base cl tx j c_15):Q_b P w base cl tx (j+1) (λts=>zg (b_b c_17 c_b c_t c_15 (en0 2 ts))):=by
 refine Z6 tx.C_b.F sc_b rfl (λcdv A outer s H E Y hy hr=> ?_) (λts h=>rfl);have nd:=sc_b.nd
 repeat' gp_on
theorem z0A {j:Nat}(hj:3<=j){c_j c_b:List T->R T}(O_j:Q_j P w base cl tx 1 c_j)(O_b:Q_b P w base cl tx j c_b):gA P w base cl tx (j+1) (λts=>zg (gh c_j c_b (en0 2 ts))):=by
 refine Z6 tx.C_15.F KH rfl (λcdv A outer s H E Y hy hr=> ?_) (λts h=>rfl);have nd:=KH.nd
 repeat' gp_on
 refine Zf (zP ["part","levels"] N_15 (zd z0l) (by rfl) (by rfl) (by decide+kernel) (by rfl) ?_ (λ_ _ _ _ _ _=>zn (show aK (["part","levels"]:List Str) by decide+kernel) (by rfl) (.inl (by rfl)) (.inr (by rfl))) (zA 0) (zB 0) (λY' hy' _ _ _ _ _ _=> ?_) (λY' hy' _ _ _ _ _ _ _ hp' => ?_))
 repeat' gp_on
theorem ok_1 {c_b:List T->R T}(O_b:Q_b P w base cl tx 23 c_b):Q_1 P w base cl tx 24 (λts=>zg (b_1 c_b (en0 1 ts))):=by
 obtain⟨u_DEEPEST,c_DEEPEST⟩:=tx.c_DEEPEST;refine Z6 tx.C_1.F sc_1 rfl (λcdv A outer s H E Y hy hr=> ?_) (λts h=>rfl);have nd:=sc_1.nd
 repeat' gp_on
theorem ok_l {c_1:List T->R T}(xq:Tq K mg base cl)(O_1:Q_1 P w base cl tx 24 c_1):Q_l P w base cl tx 25 (λts=>zg (b_l c_1 (en0 1 ts))):=by
 refine uK tx.C_l.F sc_l rfl (λcdv A outer s H E Y hy hE hr=> ?_) (λts h=>rfl);have nd:=sc_l.nd
 repeat' gp_on
theorem z0B:z0v P w base cl tx 1 (λts=>zg (gj  (en0 4 ts))):=by
 refine Z6 tx.C_13.F KI rfl (λcdv A outer s H E Y hy hr=> ?_) (λts h=>rfl);have nd:=KI.nd
 repeat' gp_on
theorem ok_v:Q_v P w base cl tx 1 (λts=>zg (b_v  (en0 1 ts))):=by
 refine Z6 tx.C_v.F sc_v rfl (λcdv A outer s H E Y hy hr=> ?_) (λts h=>rfl);have nd:=sc_v.nd
 repeat' gp_on
 refine Zf (zP ["choice"] N_v (zd s_v) (by rfl) (by rfl) (by decide+kernel) (by rfl) ?_ (λ_ _ _ _ _ _=>zn (show aK (["choice"]:List Str) by decide+kernel) (by rfl) (.inl (by rfl)) (.inr (by rfl))) (zA 0) (zB 0) (λY' hy' _ _ _ _ _ _=> ?_) (λY' hy' _ _ _ _ _ _ _ hp' => ?_))
 repeat' gp_on
theorem ok_x {c_v:List T->R T}(O_v:Q_v P w base cl tx 1 c_v):Q_x P w base cl tx 2 (λts=>zg (b_x c_v (en0 4 ts))):=by
 refine Z6 tx.C_x.F z0m rfl (λcdv A outer s H E Y hy hr=> ?_) (λts h=>rfl);have nd:=z0m.nd
 repeat' gp_on
 refine Jb (i:=3) (zP ["choice","words"] N_x (zd s_x) (by rfl) (by rfl) (by decide+kernel) (by rfl) ?_ (λ_ _ _ _ _ _=>zn (show aK (["choice","words"]:List Str) by decide+kernel) (by rfl) (.inl (by rfl)) (.inr (by rfl))) (zA 0) (zB 0) (λY' hy' _ _ _ _ _ _=> ?_) (λY' hy' _ _ _ _ _ _ _ hp' => ?_)) z0m.nd (by rfl) (.inl (by rfl)) (by rfl)
 repeat' gp_on
theorem ok_y:Q_y P w base cl tx 1 (λts=>zg (b_y  (en0 2 ts))):=by
 refine Z6 tx.C_y.F sc_y rfl (λcdv A outer s H E Y hy hr=> ?_) (λts h=>rfl);have nd:=sc_y.nd
 repeat' gp_on
theorem ok_5 {j:Nat}(hj:2<=j){c_y c_14 c_13 c_x c_18:List T->R T}(O_y:Q_y P w base cl tx 1 c_y)(O_14:gB P w base cl tx j c_14)(O_13:z0v P w base cl tx 1 c_13)(O_x:Q_x P w base cl tx 2 c_x)(O_18:gC P w base cl tx j c_18):Q_5 P w base cl tx (j+1) (λts=>zg (b_5 c_y c_14 c_13 c_x c_18 (en0 2 ts))):=by
 refine Z6 tx.C_5.F sc_5 rfl (λcdv A outer s H E Y hy hr=> ?_) (λts h=>rfl);have nd:=sc_5.nd
 repeat' gp_on
theorem z0C {j:Nat}(hj:2<=j){c_5:List T->R T}(O_5:Q_5 P w base cl tx j c_5):gB P w base cl tx (j+1) (λts=>zg (gm c_5 (en0 3 ts))):=by
 refine Z6 tx.C_14.F X0 rfl (λcdv A outer s H E Y hy hr=> ?_) (λts h=>rfl);have nd:=X0.nd
 repeat' gp_on
 refine Jb (i:=2) (zP ["one","other"] N_14 (zd z0n) (by rfl) (by rfl) (by decide+kernel) (by rfl) ?_ (λ_ _ _ _ _ _=>wf (by rfl) (Zj (zn (show aK (["one","other"]:List Str) by decide+kernel) (by rfl) (.inl (by rfl)) (.inr (by rfl))) (Zj (zn (show aK (["one","other"]:List Str) by decide+kernel) (by rfl) (.inl (by rfl)) (.inr (by rfl))) jP))) (jH _ 0 1) (jI 0 1) (λY' hy' _ _ _ _ _ _=> ?_) (λY' hy' _ _ _ _ _ _ _ hp' => ?_)) X0.nd (by rfl) (.inl (by rfl)) (by rfl)
 repeat' gp_on
theorem z0D {j:Nat}(hj:2<=j){c_5:List T->R T}(O_5:Q_5 P w base cl tx j c_5):gC P w base cl tx (j+1) (λts=>zg (gp c_5 (en0 5 ts))):=by
 refine Z6 tx.C_18.F KJ rfl (λcdv A outer s H E Y hy hr=> ?_) (λts h=>rfl);have nd:=KJ.nd
 repeat' gp_on
theorem ok_c {c_l c_5:List T->R T}(O_l:Q_l P w base cl tx 25 c_l)(O_5:Q_5 P w base cl tx 22 c_5):Q_c P w base cl tx 26 (λts=>zg (b_c c_l c_5 (en0 2 ts))):=by
 refine uK tx.C_c.F sc_c rfl (λcdv A outer s H E Y hy hE hr=> ?_) (λts h=>rfl);have nd:=sc_c.nd
 repeat' gp_on
theorem ok_4 {j:Nat}(hj:0<=j){c_n c_12:List T->R T}(O_n:Q_n P w base cl tx j c_n)(O_12:gD P w base cl tx j c_12):Q_4 P w base cl tx (j+1) (λts=>zg (b_4 c_n c_12 (en0 1 ts))):=by
 refine Z6 tx.C_4.F sc_4 rfl (λcdv A outer s H E Y hy hr=> ?_) (λts h=>rfl);have nd:=sc_4.nd
 repeat' gp_on
theorem ok_n {j:Nat}(hj:0<=j){c_4:List T->R T}(O_4:Q_4 P w base cl tx j c_4):Q_n P w base cl tx (j+1) (λts=>zg (b_n c_4 (en0 3 ts))):=by
 refine Z6 tx.C_n.F sc_n rfl (λcdv A outer s H E Y hy hr=> ?_) (λts h=>rfl);have nd:=sc_n.nd
 repeat' gp_on
theorem z0E {j:Nat}(hj:0<=j){c_n:List T->R T}(O_n:Q_n P w base cl tx j c_n):gD P w base cl tx (j+1) (λts=>zg (X7 c_n (en0 2 ts))):=by
 refine Z6 tx.C_12.F KK rfl (λcdv A outer s H E Y hy hr=> ?_) (λts h=>rfl);have nd:=KK.nd
 repeat' gp_on
 refine Zf (zP ["each","kind"] N_12 (zd z0o) (by rfl) (by rfl) (by decide+kernel) (by rfl) ?_ (λ_ _ _ _ _ _=>zn (show aK (["each","kind"]:List Str) by decide+kernel) (by rfl) (.inl (by rfl)) (.inr (by rfl))) (zA 0) (zB 0) (λY' hy' _ _ _ _ _ _=> ?_) (λY' hy' _ _ _ _ _ _ _ hp' => ?_))
 repeat' gp_on
theorem ok_p {c_4 c_c:List T->R T}(O_4:Q_4 P w base cl tx 20 c_4)(O_c:Q_c P w base cl tx 26 c_c):Q_p P w base cl tx 27 (λts=>zg (b_p c_4 c_c (en0 3 ts))):=by
 refine uK tx.C_p.F sc_p rfl (λcdv A outer s H E Y hy hE hr=> ?_) (λts h=>rfl);have nd:=sc_p.nd
 repeat' gp_on
theorem ok_o {c_c:List T->R T}(O_c:Q_c P w base cl tx 26 c_c):Q_o P w base cl tx 27 (λts=>zg (b_o c_c (en0 2 ts))):=by
 refine uK tx.C_o.F sc_o rfl (λcdv A outer s H E Y hy hE hr=> ?_) (λts h=>rfl);have nd:=sc_o.nd
 repeat' gp_on
theorem ok_6 {c_c c_p c_o:List T->R T}{c_9:Nat->R T}(xq:Tq K mg base cl)(O_9:Q_9 P w base cl tx 1 c_9)(O_c:Q_c P w base cl tx 26 c_c)(O_p:Q_p P w base cl tx 27 c_p)(O_o:Q_o P w base cl tx 27 c_o):Q_6 P w base cl tx 28 (λts=>zg (b_6 c_9 c_c c_p c_o (en0 6 ts))):=by
 refine Z6 tx.C_6.F z0p rfl (λcdv A outer s H E Y hy hr=> ?_) (λts h=>rfl);have nd:=z0p.nd
 repeat' gp_on
 refine GL (i:=5) (k:=3) (ok:=okX) (by rfl) (by rfl) z0p.nd (by rfl) (by rfl) (by rfl) (by rfl) (by decide) (by rfl) xq.m_WorthError (hy ▸ xq.e_WorthError) (λE' pn xe hp=> ?_)
 repeat' gp_on
theorem ok_d:Q_d P w base cl tx 1 (λts=>zg (b_d  (en0 1 ts))):=by
 refine Z6 tx.C_d.F sc_d rfl (λcdv A outer s H E Y hy hr=> ?_) (λts h=>rfl);have nd:=sc_d.nd
 repeat' gp_on
 refine Zf (zP ["_law_text","_law_worth"] N_d (zd s_d) (by rfl) (by rfl) (by decide+kernel) (by rfl) ?_ (λ_ _ _ _ _ _=>wf (by rfl) (Zj (zn (show aK (["_law_text","_law_worth"]:List Str) by decide+kernel) (by rfl) (.inl (by rfl)) (.inr (by rfl))) (Zj (zn (show aK (["_law_text","_law_worth"]:List Str) by decide+kernel) (by rfl) (.inl (by rfl)) (.inr (by rfl))) jP))) (jH _ 0 1) (jI 0 1) (λY' hy' _ _ _ _ _ _=> ?_) (λY' hy' _ _ _ _ _ _ _ hp' => ?_))
 repeat' gp_on
 refine Zf (zP ["_law_worth"] N_d (zd s_d) (by rfl) (by rfl) (by decide+kernel) (by rfl) ?_ (λ_ _ _ _ _ _=>zn (show aK (["_law_worth"]:List Str) by decide+kernel) (by rfl) (.inl (by rfl)) (.inr (by rfl))) (zA 0) (zB 0) (λY' hy' _ _ _ _ _ _=> ?_) (λY' hy' _ _ _ _ _ _ _ hp' => ?_))
 repeat' gp_on
theorem ok_r {c_1 c_2 c_3 c_6 c_d:List T->R T}(O_1:Q_1 P w base cl tx 24 c_1)(O_2:Q_2 P w base cl tx 2 c_2)(O_3:Q_3 P w base cl tx 9 c_3)(O_6:Q_6 P w base cl tx 28 c_6)(O_d:Q_d P w base cl tx 1 c_d):Q_r P w base cl tx 29 (λts=>zg (b_r c_1 c_2 c_3 c_6 c_d (en0 9 ts))):=by
 refine Z6 tx.C_r.F gz rfl (λcdv A outer s H E Y hy hr=> ?_) (λts h=>rfl);have nd:=gz.nd
 repeat' gp_on
 refine Jb (i:=1) (zP ["_law_k","_law_script"] N_r (zd s_r) (by rfl) (by rfl) (by decide+kernel) (by rfl) ?_ (λ_ _ _ _ _ _=>zn (show aK (["_law_k","_law_script"]:List Str) by decide+kernel) (by rfl) (.inl (by rfl)) (.inr (by rfl))) (zA 0) (zB 0) (λY' hy' _ _ _ _ _ _=> ?_) (λY' hy' _ _ _ _ _ _ _ hp' => ?_)) gz.nd (by rfl) (.inl (by rfl)) (by rfl)
 repeat' gp_on
 refine Jb (i:=5) (zP ["_law_worth","_law_many"] N_r (zd s_r) (by rfl) (by rfl) (by decide+kernel) (by rfl) ?_ (λ_ _ _ _ _ _=>zn (show aK (["_law_worth","_law_many"]:List Str) by decide+kernel) (by rfl) (.inl (by rfl)) (.inr (by rfl))) (zA 0) (zB 0) (λY' hy' _ _ _ _ _ _=> ?_) (λY' hy' _ _ _ _ _ _ _ hp' => ?_)) gz.nd (by rfl) (.inl (by rfl)) (by rfl)
 repeat' gp_on
theorem ok_0 {c_1 c_2 c_3 c_8 c_u c_a c_10 c_6 c_h c_d c_r:List T->R T}(O_1:Q_1 P w base cl tx 24 c_1)(O_2:Q_2 P w base cl tx 2 c_2)(O_3:Q_3 P w base cl tx 9 c_3)(O_8:Q_8 P w base cl tx 17 c_8)(O_u:Q_u P w base cl tx 18 c_u)(O_a:Q_a P w base cl tx 13 c_a)(O_10:z0t P w base cl tx 41 c_10)(O_6:Q_6 P w base cl tx 28 c_6)(O_h:Q_h P w base cl tx 12 c_h)(O_d:Q_d P w base cl tx 1 c_d)(O_r:Q_r P w base cl tx 29 c_r):Q_0 P w base cl tx 42 (λts=>zg (b_0 c_1 c_2 c_3 c_8 c_u c_a c_10 c_6 c_h c_d c_r (en0 15 ts))):=by
 refine Z6 tx.C_0.F z0q rfl (λcdv A outer s H E Y hy hr=> ?_) (λts h=>rfl);have nd:=z0q.nd
 repeat' gp_on
 refine Jb (i:=6) (zP ["_law_worth","_law_yours"] N_0 (zd s_0) (by rfl) (by rfl) (by decide+kernel) (by rfl) ?_ (λ_ _ _ _ _ _=>zn (show aK (["_law_worth","_law_yours"]:List Str) by decide+kernel) (by rfl) (.inl (by rfl)) (.inr (by rfl))) (zA 0) (zB 0) (λY' hy' _ _ _ _ _ _=> ?_) (λY' hy' _ _ _ _ _ _ _ hp' => ?_)) z0q.nd (by rfl) (.inl (by rfl)) (by rfl)
 repeat' gp_on
 refine Zf (zP ["_law_what","_law_one","_law_bad"] N_0 (zd s_0) (by rfl) (by rfl) (by decide+kernel) (by rfl) ?_ (λ_ _ _ _ _ _=>zn (show aK (["_law_what","_law_one","_law_bad"]:List Str) by decide+kernel) (by rfl) (.inl (by rfl)) (.inr (by rfl))) (zA 0) (zB 0) (λY' hy' _ _ _ _ _ _=> ?_) (λY' hy' _ _ _ _ _ _ _ hp' => ?_))
 repeat' gp_on
 refine Zf (zP ["_law_what","_law_one","_law_bad"] N_0 (zd s_0) (by rfl) (by rfl) (by decide+kernel) (by rfl) ?_ (λ_ _ _ _ _ _=>zn (show aK (["_law_what","_law_one","_law_bad"]:List Str) by decide+kernel) (by rfl) (.inl (by rfl)) (.inr (by rfl))) (zA 0) (zB 0) (λY' hy' _ _ _ _ _ _=> ?_) (λY' hy' _ _ _ _ _ _ _ hp' => ?_))
 repeat' gp_on
end
theorem ZO {P:Program}{w:World}{K:ai}{mg:Str->Option Value}{base:Heap}{CX:CXT}{cl:Nat->Value}{k n:Nat}{f:Addr}{fd:FuncData}{ps:List Str}(hn:n=ps.length):Zh P w K mg base CX k f fd ps (spP cl n (λ_=> .bad)):=
 ⟨λvs H Q E h=>by rw[← hn];exact spP.len vs H Q E h,λA outer s H args us vs Q E _ _ _ _ ⟨B,ts,_,_,_,q⟩=>q.elim⟩
section
variable {P:Program}{w:World}{K:ai}{mg:Str->Option Value}{base:Heap}{cl:Nat->Value}{tx:Tx K mg}
theorem KL (xq:Tq K mg base cl):Q_0 P w base cl tx 42 f_0:=by
 have O_16:z0r P w base cl tx 1 kS:=z0w;have O_2:Q_2 P w base cl tx 2 f_2:=ok_2 O_16;have O_w:Q_w P w base cl tx 3 f_w:=ok_w O_2;have O_k:Q_k P w base cl tx 4 f_k:=ok_k O_2 O_w;have R_g:∀n:Nat,Q_g P w base cl tx (4+n) (S_g n 0):=by
  intro n
  induction n with
  | zero=>exact ZO rfl
  | succ n ih=>
   exact ok_g (j:=4+n) (by omega) O_2 O_k ih
 have O_g:Q_g P w base cl tx 12 (f_g 8):=(R_g 8);have O_f:Q_f P w base cl tx 1 f_f:=ok_f;have R_3:∀n:Nat,Q_3 P w base cl tx (1+n) (S_3 n 0):=by
  intro n
  induction n with
  | zero=>exact ZO rfl
  | succ n ih=>
   exact ok_3 (j:=1+n) (by omega) ih O_f
 have O_3:Q_3 P w base cl tx 9 (f_3 8):=(R_3 8);have R_8:∀n:Nat,Q_8 P w base cl tx (9+n) (S_8 n 0):=by
  intro n
  induction n with
  | zero=>exact ZO rfl
  | succ n ih=>
   exact ok_8 (j:=9+n) (by omega) O_3 ih
 have O_8:Q_8 P w base cl tx 17 (f_8 8):=(R_8 8);have O_u:Q_u P w base cl tx 18 f_u:=ok_u O_g O_8;have R_h:∀n:Nat,Q_h P w base cl tx (4+n) (S_h n 0):=by
  intro n
  induction n with
  | zero=>exact ZO rfl
  | succ n ih=>
   exact ok_h (j:=4+n) (by omega) O_2 O_k ih
 have O_h:Q_h P w base cl tx 12 (f_h 8):=(R_h 8);have R_i:∀n:Nat,Q_i P w base cl tx (0+n) (S_i n 0):=by
  intro n
  induction n with
  | zero=>exact ZO rfl
  | succ n ih=>
   exact ok_i (j:=0+n) (by omega) ih
 have O_i:Q_i P w base cl tx 40 (f_i 40):=(R_i 40);have O_11:z0s P w base cl tx 1 X5:=z0x;have R_e:∀n:Nat,Q_e P w base cl tx (0+n) (S_e n 0):=by
  intro n
  induction n with
  | zero=>exact ZO rfl
  | succ n ih=>
   exact ok_e (j:=0+n) (by omega) ih
 have O_e:Q_e P w base cl tx 40 (f_e 40):=(R_e 40);have O_10:z0t P w base cl tx 41 X6:=z0y O_2 O_i O_11 O_e;have O_m:Q_m P w base cl tx 1 f_m:=ok_m;have O_s:Q_s P w base cl tx 1 f_s:=ok_s;have R_a:∀n:Nat,Q_a P w base cl tx (1+n) (S_a n 0):=by
  intro n
  induction n with
  | zero=>exact ZO rfl
  | succ n ih=>
   exact ok_a (j:=1+n) (by omega) O_m O_s ih
 have O_a:Q_a P w base cl tx 13 (f_a 12):=(R_a 12);have O_9:Q_9 P w base cl tx 1 f_9:=ok_9 xq;have O_q:Q_q P w base cl tx 1 f_q:=ok_q;have O_17:z0u P w base cl tx 2 gf:=z0z O_q;have O_j:Q_j P w base cl tx 1 f_j:=ok_j;have O_7:Q_7 P w base cl tx 1 f_7:=ok_7;have O_z:Q_z P w base cl tx 2 f_z:=ok_z O_q O_j O_7;have O_t:Q_t P w base cl tx 3 f_t:=ok_t O_j O_z;have R_b:∀n:Nat,Q_b P w base cl tx (3+n) (S_b n 0)/\gA P w base cl tx (3+n) (S_b n 1):=by
  intro n
  induction n with
  | zero=>exact⟨ZO rfl,ZO rfl⟩
  | succ n ih=>
   exact⟨ok_b (j:=3+n) (by omega) O_17 ih.1 O_t ih.2,z0A (j:=3+n) (by omega) O_j ih.1⟩
 have O_b:Q_b P w base cl tx 23 (f_b 20):=(R_b 20).1;have O_15:gA P w base cl tx 23 (f_15 20):=(R_b 20).2;have O_1:Q_1 P w base cl tx 24 f_1:=ok_1 O_b;have O_l:Q_l P w base cl tx 25 f_l:=ok_l xq O_1;have O_13:z0v P w base cl tx 1 kT:=z0B;have O_v:Q_v P w base cl tx 1 f_v:=ok_v;have O_x:Q_x P w base cl tx 2 f_x:=ok_x O_v;have O_y:Q_y P w base cl tx 1 f_y:=ok_y;have R_5:∀n:Nat,Q_5 P w base cl tx (2+n) (S_5 n 0)/\gB P w base cl tx (2+n) (S_5 n 1)/\gC P w base cl tx (2+n) (S_5 n 2):=by
  intro n
  induction n with
  | zero=>exact⟨ZO rfl,ZO rfl,ZO rfl⟩
  | succ n ih=>
   exact⟨ok_5 (j:=2+n) (by omega) O_y ih.2.1 O_13 O_x ih.2.2,z0C (j:=2+n) (by omega) ih.1,z0D (j:=2+n) (by omega) ih.1⟩
 have O_5:Q_5 P w base cl tx 22 (f_5 20):=(R_5 20).1;have O_14:gB P w base cl tx 22 (f_14 20):=(R_5 20).2.1;have O_18:gC P w base cl tx 22 (f_18 20):=(R_5 20).2.2;have O_c:Q_c P w base cl tx 26 f_c:=ok_c O_l O_5;have R_4:∀n:Nat,Q_4 P w base cl tx (0+n) (S_4 n 0)/\Q_n P w base cl tx (0+n) (S_4 n 1)/\gD P w base cl tx (0+n) (S_4 n 2):=by
  intro n
  induction n with
  | zero=>exact⟨ZO rfl,ZO rfl,ZO rfl⟩
  | succ n ih=>
   exact⟨ok_4 (j:=0+n) (by omega) ih.2.1 ih.2.2,ok_n (j:=0+n) (by omega) ih.1,z0E (j:=0+n) (by omega) ih.2.1⟩
 have O_4:Q_4 P w base cl tx 20 (f_4 20):=(R_4 20).1;have O_n:Q_n P w base cl tx 20 (f_n 20):=(R_4 20).2.1;have O_12:gD P w base cl tx 20 (f_12 20):=(R_4 20).2.2;have O_p:Q_p P w base cl tx 27 f_p:=ok_p O_4 O_c;have O_o:Q_o P w base cl tx 27 f_o:=ok_o O_c;have O_6:Q_6 P w base cl tx 28 f_6:=ok_6 xq O_9 O_c O_p O_o;have O_d:Q_d P w base cl tx 1 f_d:=ok_d;have O_r:Q_r P w base cl tx 29 f_r:=ok_r O_1 O_2 O_3 O_6 O_d;have O_0:Q_0 P w base cl tx 42 f_0:=ok_0 O_1 O_2 O_3 O_8 O_u O_a O_10 O_6 O_h O_d O_r;exact O_0
end
def vX:List Str:=["NoKind","NoWorth","NoRule","TooMany","Ended","NoText","NoBack"]
def clK (K:ai)(c:Nat):Value:=match bZ K mainGlobals (vX.getD c "") with
 | some (some v)=>v
 | _=> .none
theorem KM {K:ai}{c:Nat}{x:Str}{q:Addr}(hx:vX.getD c ""=x)(h:bZ K mainGlobals x=some (some (.ref q))):clK K c= .ref q:=by unfold clK;rw[hx,h]
def z0F:List Nat:=[0,1,2,3,4,5]
def qw (p:Nat->Bool):Bool:=z0F.all p
theorem KN {c:Nat}(h:okX c=true):c∈z0F:=by
 have h:c < 6:=of_decide_eq_true h;unfold z0F;simp;omega
theorem j2 {p:Nat->Bool}(h:qw p=true){c:Nat}(hc:okX c=true):p c=true:=aJ.mp h c (KN hc)
def X1 (K:ai)(v:Value):Bool:=match v with
 | .ref C=>dn K (.ref C) "__getattribute__" == some (some (.builtin "BaseException.__getattribute__")) && (dn K (.ref C) "__getattr__" == some none && (dn K (.ref C) "__class__" == some (some (.builtin "object.__class__")) && (i6 K (.builtin "object.__class__") "__get__" == some (some (.builtin "getset_descriptor.__get__")) && (iD K (.builtin "object.__class__") == some true && (fW K C (.type "object") == some true && (fW K C (.type "BaseException") == some true && (PySem.W.clsIn K C).isSome))))))
 | _=>false
theorem QQ {K:ai}{v:Value}(h:X1 K v=true):∃C,v= .ref C/\PySem.W.XCls K C:=by
 unfold X1 at h;split at h
 ·rename_i C;simp only[af,beq_iff_eq]at h;obtain⟨h1,h2,h3,h4,h5,h6,h7,h8⟩:=h;exact⟨C,rfl,h1,h2,h3,h4,h5,h6,h7,h8⟩
 ·cases h
theorem KO {K:ai}{base:Heap}{mg:Str->Option Value}{x:Str}{C:Addr}{bmB:List Value}{newId:String}(KB:K.In base)(hb:mg x=some (.ref C))(h:fY K C bmB newId=true):OwnCls x C bmB newId mg base:=by
 unfold fY at h;split at h
 ·rename_i dd cd sl hC;split at h
  ·rename_i C1 bm a0 a1 a2 a3 m a5 hm hs;simp only[af,beq_iff_eq,eP]at h;obtain⟨⟨⟨⟨⟨h1,h2⟩,h3⟩,h4⟩,h5⟩,h6⟩:=h;subst h1 h2;cases cd with
   | mk nm bs mro ns qn hd sn sub ab col del=>
    dsimp only at hm h3 h5 h6;subst hm h3;obtain rfl:sl= #[a0,a1,a2,a3,some (.builtin m),a5]:=by
     cases sl;simp only at hs;rw[hs]
    exact⟨hb,bm,ns,nm,qn,bs,hd,sn,sub,ab,col,dd,a0,a1,a2,a3,a5,_,KB _ _ hC,.of_isNs (PySem.W.isNs_of_in KB h5),PySem.W.nsMap_none_of_in KB h5 h6,PySem.W.tail_of_in KB h4⟩
  ·cases h
 ·cases h
theorem fn1 {K:ai}{h:Heap}{mg:Str->Option Value}{f:Addr}{od an:Option Addr}{sl:Array (Option Value)}{oc kV dc pm cd ct:Value}{x:Str}{st:Stmt}{ps:List Str}(X:K.In h)(G:h.Ns mainGlobals mg)(e:bZ K mainGlobals x=some (some (.ref f)))(l:K.lookup f=some ⟨oc,od,.func (bX x x (j8 st) (Zw st) (zd st) .none kV dc pm an cd ct),sl⟩)(g:dX K cd x=true)(k:bL K (.ref f)=true)
  (hb:∀F:Fun K x x st f (bX x x (j8 st) (Zw st) (zd st) .none kV dc pm an cd ct),L2.Binds K (bX x x (j8 st) (Zw st) (zd st) .none kV dc pm an cd ct) ps []):Fn K mg x st ps f (bX x x (j8 st) (Zw st) (zd st) .none kV dc pm an cd ct):=
 have F:=XM (st:=st) l g k
 ⟨F,hb F,c6 X G e⟩
theorem fin_ {l:PySem.W.OpenLaw}{w:World}{K:ai}{h:Heap}{mg:Str->Option Value}{fa:Addr}(X:K.In h)(G:h.Ns mainGlobals mg)(hfa:mg "law"=some (.ref fa))(tx:Tx K mg)(hB:∀(s:Shared) (v:Value),BindsTo s tx.d_0 ⟨[v],[]⟩ [("_law_script",v)]){q_Ended q_NoKind q_NoRule q_NoText q_NoWorth q_TooMany q_WorthError:Addr}(n_Ended:bZ K mainGlobals "Ended"=some (some (.ref q_Ended)))(n_NoKind:bZ K mainGlobals "NoKind"=some (some (.ref q_NoKind)))(n_NoRule:bZ K mainGlobals "NoRule"=some (some (.ref q_NoRule)))(n_NoText:bZ K mainGlobals "NoText"=some (some (.ref q_NoText)))(n_NoWorth:bZ K mainGlobals "NoWorth"=some (some (.ref q_NoWorth)))(n_TooMany:bZ K mainGlobals "TooMany"=some (some (.ref q_TooMany)))(n_WorthError:bZ K mainGlobals "WorthError"=some (some (.ref q_WorthError)))(b_K:qw (λc=>X1 K (clK K c))=true)(b_e_WorthError:qw (λc=>PySem.W.exmOne K (clK K c) (.ref q_WorthError) == some true)=true)(b_o_NoKind:fY K q_NoKind bmVE "ValueError.__new__"=true)(b_t_Ended:qw (λc=>aN K (clK K c) (.ref q_Ended) == some (JI c))=true)(b_t_NoKind:qw (λc=>aN K (clK K c) (.ref q_NoKind) == some (jS c))=true)(b_t_NoRule:qw (λc=>aN K (clK K c) (.ref q_NoRule) == some (jT c))=true)(b_t_NoText:qw (λc=>aN K (clK K c) (.ref q_NoText) == some (jU c))=true)(b_t_NoWorth:qw (λc=>aN K (clK K c) (.ref q_NoWorth) == some (jx c))=true)(b_t_TooMany:qw (λc=>aN K (clK K c) (.ref q_TooMany) == some (jy c))=true)(b_t_ValueError:qw (λc=>aN K (clK K c) (.type "ValueError") == some (ZV c))=true):∃fd:FuncData,(∀(s:Shared) (v:Value),BindsTo s fd ⟨[v],[]⟩ [("_law_script",v)])/\∀base:Heap,K.In base->base.Ns mainGlobals mg->Zh l.prog w K mg base CX0 42 fa fd ["_law_script"] (spP (clK K) 1 f_0):=by
 have e:=hfa.symm.trans tx.C_0.m;cases e;exact⟨tx.d_0,hB,λbase KB _=>KL ⟨q_Ended,q_NoKind,q_NoRule,q_NoText,q_NoWorth,q_TooMany,q_WorthError,⟨λc hc=>QQ (j2 b_K hc)⟩,(λc hc=>beq_iff_eq.mp (j2 b_e_WorthError hc)),(KM (x:="NoKind") rfl n_NoKind),(c6 X G n_Ended),(c6 X G n_NoKind),(c6 X G n_NoRule),(c6 X G n_NoText),(c6 X G n_NoWorth),(c6 X G n_TooMany),(c6 X G n_WorthError),(KO KB (c6 X G n_NoKind) b_o_NoKind),(λc hc=>beq_iff_eq.mp (j2 b_t_Ended hc)),(λc hc=>beq_iff_eq.mp (j2 b_t_NoKind hc)),(λc hc=>beq_iff_eq.mp (j2 b_t_NoRule hc)),(λc hc=>beq_iff_eq.mp (j2 b_t_NoText hc)),(λc hc=>beq_iff_eq.mp (j2 b_t_NoWorth hc)),(λc hc=>beq_iff_eq.mp (j2 b_t_TooMany hc)),(λc hc=>beq_iff_eq.mp (j2 b_t_ValueError hc))⟩⟩
def uy (K:ai):Bool:=K.all λp=> !(p.2.cls == Value.type "list")
theorem X2 {K:ai}(h:uy K=true){a:Addr}{o:Obj}(e:K.lookup a=some o)(c:o.cls=Value.type "list"):False:=by
 have hm:(a,o)∈K:=by
  clear h
  induction K with
  | nil=>cases e
  | cons p r ih=>
   obtain⟨b,u⟩:=p
   by_cases hb:a=b
   ·subst hb;have e' :some u=some o:=by simpa[aS] using e
    cases e';exact ah
   ·have e' :r.lookup a=some o:=by rw[aS,(beq_eq_false_iff_ne.mpr hb)]at e;exact e
    exact ae _ (ih e')
 have:=aJ.mp h _ hm;rw[c]at this;simp at this
theorem KP {cl:Nat->Value}{K:ai}{H:Hp}{a:Addr}{ns:List Int}(hL:f_0 [.fz (ns.map T.int)]= .ok (.bl true))(hK:uy K=true)(hO:KR H)(hS:SqL K H a (ns.map V.int)):spP cl 1 f_0 [.ref a] H (λv _=>v= .bl true) λ_ _ _=>False:=by
 have scrR:∀ns:List Int,zH H (ns.map V.int) (ns.map T.int):=λns=>by
  induction ns with
  | nil=>exact .nil
  | cons n r ih=>exact .cons (.int n) ih
 rcases hS with (h | ⟨o,h⟩) | ⟨o,its,n,e,c,_⟩
 ·rcases hO a with z | ⟨ob,xs,z⟩ <;> (rw[h]at z;cases z)
 ·refine⟨H,[.fz (ns.map T.int)],rfl,zw.refl H,.cons (.fz h (scrR ns)) .nil, ?_⟩;rw[hL];intro v H' _ r;cases r;rfl
 ·exact(X2 hK e c).elim
theorem walk {l:PySem.W.OpenLaw}{q:Program}{loose:List Str}{XP:(Str->Option Value)->Heap->Prop}{YP:World->Heap->Prop}{d:DefRec}{K:Params->ai}(hn:l.most=some 63)(hdf:d.params.defaults=[])
  (hL:∀ns:List Int,ns.length<=63->f_0 [.fz (ns.map T.int)]= .ok (.bl true)) (hK:∀p,uy (K p)=true)
  (hY:∀(w:World) (h:Heap),YP w h->(K w.params).In h)
  (F:∀(w:World) (mg:Str->Option Value) (fa:Addr) (h:Heap),(K w.params).In h->h.Ns mainGlobals mg->mg d.name=some (.ref fa)->
   ∃fd:FuncData,(∀(s:Shared) (u:Value),BindsTo s fd ⟨[u],[]⟩ [("_law_script",u)])/\∀base:Heap,(K w.params).In base->base.Ns mainGlobals mg->Zh l.prog w (K w.params) mg base CX0 42 fa fd ["_law_script"] (spP (clK (K w.params)) 1 f_0)):
  PySem.W.WalkO q loose XP YP l.row.toRowW d [] (λf vs=>iK f vs):=
 L2.walk_of (n:=63) (k:=42) (x:="_law_script") (CX:=λw=>CX0) (sp:=λw=>spP (clK (K w.params)) 1 f_0) hn (by decide) hdf ⟨rfl,by decide,by decide,rfl⟩ hY F (λw H a ns hl hO hS=>KP (hL ns hl) (hK w.params) hO hS) λ_ _ _ _ _ z=>z
end G
namespace PySem.W.Fast
def tw12727665581718213555:=0
def tw3710741466794280329:=0
def tw18416705495098003907:=0
def tw3252319862799107525:=0
def tw5428461051725705687:=0
def tw4366462854182467591:=0
def tw9157074364918248780:=0
def tw1204171251606014173:=0
def tw12260443935120248795:=0
def tw7336392170237551934:=0
def tw5281034773044912045:=0
def tw16907108302814253583:=0
def tw18108468690927230123:=0
def tw1555058907475477919:=0
def tw10914361209553127838:=0
def tw4376661233365252600:=0
def tw15355892642524734952:=0
def tw6455643129956230251:=0
def tw17293575524249262147:=0
def tw5133908741261933774:=0
def tw4926836781748300934:=0
def tw15627432874744265392:=0
def tw1417876634945399482:=0
def tw3971532299831347780:=0
def tw14240511310149790313:=0
def tw6482222200066486037:=0
def tw8187846446425700862:=0
def tw17580937286764910619:=0
def tw12023503910677647465:=0
def tw12139355535384426779:=0
def tw17719224048096157563:=0
def tw16857164607859102319:=0
def tw3379420071727257500:=0
def tw6735684045064710611:=0
def tw12101976851428435387:=0
def tw6732007615817391489:=0
def tw10140361708441944373:=0
def tw2945068906865573366:=0
def tw14359244786140106223:=0
def tw5579863266731718106:=0
def tw11891342960013060223:=0
def tw17272004398748640168:=0
def tw10910921740627368117:=0
def tw11399440222966707893:=0
def tw15404686927162555257:=0
def tw14094423777489009336:=0
def tw4858577785969741460:=0
def tw10782610082392490822:=0
def tw5488355587258399012:=0
def tw9317229955692904207:=0
def tw2911737442598826992:=0
def tw9610023860943875866:=0
def tw12866381890849302010:=0
def tw11864771685570027901:=0
def tw10958267156439574838:=0
def tw18282082007185835861:=0
def tw3040993255084701725:=0
def tw18374551728289550101:=0
def tw11141684792351230041:=0
def tw2073746236710524207:=0
def tw17890241950294510446:=0
def tw14744851684932401288:=0
def tw5829506205530226140:=0
def tw3302146195605816165:=0
def tw3408754500290630388:=0
def tw13009666068608674398:=0
def tw4683318157739957520:=0
def tw13196225841738585463:=0
def tw14653061027268622806:=0
def tw7198931945574472830:=0
def tw269105453142669171:=0
def tw354858090315858181:=0
def tw3918766204177190997:=0
def tw17204755810077039034:=0
def tw8347315111164650545:=0
def tw15190057977092236227:=0
def tw5420030227894279745:=0
def tw11697851852506418332:=0
def tw8279754677912254147:=0
def tw721220878051985667:=0
def tw11805636240077555676:=0
def tw5897426517485318096:=0
def tw850689417850358869:=0
def tw4423460730850432628:=0
def tw18202175027570994720:=0
def tw14632831443182200483:=0
def tw8355718869657722680:=0
def tw16117556612154416997:=0
def tw4999505864061098791:=0
def tw16246158811585549178:=0
def tw3471717088041220734:=0
def tw9634032291983897731:=0
def tw10505964656570689220:=0
def tw303869460070187639:=0
def tw16225027384476282767:=0
def tw9830390311509289120:=0
def tw16954288849098231940:=0
def tw287995392149679541:=0
def tw8029424435594460466:=0
def tw2084564702716428121:=0
def tw11995572864877393038:=0
def tw755560906946615690:=0
def tw15044470734424955468:=0
def tw1628244904943722748:=0
def tw5404526839661015085:=0
def tw7230696156150271349:=0
def tw4580408088031847924:=0
def tw14980282518190179224:=0
def tw5611778528375645772:=0
def tw18369772405804744391:=0
def tw10423760204112612704:=0
def tw12078120246852380593:=0
def tw12540708181056753737:=0
def tw6402609956810518797:=0
def tw5323144571512729123:=0
def tw16035103591468140900:=0
def tw11234514819618258324:=0
def tw13136253219611538505:=0
def tw9254178086907862208:=0
def tw15168921643749134691:=0
def tw11812386255015417203:=0
def tw17033984391437549664:=0
def tw12301659387429165079:=0
def tw14695779169608470951:=0
def tw17154346163419199236:=0
def tw10406053384002969764:=0
def tw1968632927188577321:=0
def tw18300689454489711092:=0
def tw11969452451907197225:=0
def tw17828505690147733650:=0
def tw15334045086688979200:=0
def tw12777664539496550093:=0
def tw13610557018013636387:=0
def tw14734147283130094431:=0
def tw14748589104492004844:=0
def tw1593939075202089004:=0
def tw13697433974957941065:=0
def tw5780704523154566829:=0
def tw1736970672600550391:=0
def tw6834157758275077007:=0
def tw8133161249894700414:=0
def tw12383686932798599043:=0
def tw6760025426645856610:=0
def tw4789584604253260606:=0
def tw11639740326929160998:=0
def tw18288753141191059117:=0
def tw6125981510179677532:=0
def tw4139509153793168174:=0
def tw14888601964867884688:=0
def tw11676474489116493661:=0
def tw2742778260143302597:=0
def tw2966913775849580298:=0
def tw17625896077510860:=0
end PySem.W.Fast
open PySem PySem.W PyProof.Rows
set_option maxRecDepth 100000 in
set_option maxHeartbeats 0 in
theorem PySem.Challenge.cw_worthkinds_k30_whole_common_holds : PySem.Challenge.rw_worthkinds_k30_whole_common.Holds := by
 w_on; o_law; k_head; (case hw=>w_witness2)
 k_fill
 refine G.walk (l:=PySem.Challenge.rw_worthkinds_k30_whole_common) rfl rfl G.law_ok ?nl (fun w h Y=>PySem.W.kIn_of Y) ?F
 case nl=>intro p; kernel_rfl
 case F=>
  intro w mg fa h KX G0 hmg
  obtain ⟨a0,d0,C0⟩:∃ a d,G.Fn _ mg "_law_cell" G.s_16 ["_law_script","_law_k"] a d:=by
   refine' ⟨_,_,G.fn1 KX G0 ?e ?l ?g ?k (fun F=>F.binds (ps:=["_law_script","_law_k"]) fun _ _ _ _ _ _ us hl=>match us,hl with | [_,_],_=>rfl)⟩
   (case e|l|g|k=>k_is)
  obtain ⟨a1,d1,C1⟩:∃ a d,G.Fn _ mg "_law_pick" G.s_2 ["_law_script","_law_k","_law_many"] a d:=by
   refine' ⟨_,_,G.fn1 KX G0 ?e ?l ?g ?k (fun F=>F.binds (ps:=["_law_script","_law_k","_law_many"]) fun _ _ _ _ _ _ us hl=>match us,hl with | [_,_,_],_=>rfl)⟩
   (case e|l|g|k=>k_is)
  obtain ⟨a2,d2,C2⟩:∃ a d,G.Fn _ mg "_law_word_of" G.s_w ["_law_script","_law_at_here"] a d:=by
   refine' ⟨_,_,G.fn1 KX G0 ?e ?l ?g ?k (fun F=>F.binds (ps:=["_law_script","_law_at_here"]) fun _ _ _ _ _ _ us hl=>match us,hl with | [_,_],_=>rfl)⟩
   (case e|l|g|k=>k_is)
  obtain ⟨a3,d3,C3⟩:∃ a d,G.Fn _ mg "_law_leaf_kind" G.s_k ["_law_script","_law_at_here"] a d:=by
   refine' ⟨_,_,G.fn1 KX G0 ?e ?l ?g ?k (fun F=>F.binds (ps:=["_law_script","_law_at_here"]) fun _ _ _ _ _ _ us hl=>match us,hl with | [_,_],_=>rfl)⟩
   (case e|l|g|k=>k_is)
  obtain ⟨a4,d4,C4⟩:∃ a d,G.Fn _ mg "_law_kind" G.s_g ["_law_script","_law_at_here","_law_deep"] a d:=by
   refine' ⟨_,_,G.fn1 KX G0 ?e ?l ?g ?k (fun F=>F.binds (ps:=["_law_script","_law_at_here","_law_deep"]) fun _ _ _ _ _ _ us hl=>match us,hl with | [_,_,_],_=>rfl)⟩
   (case e|l|g|k=>k_is)
  obtain ⟨a5,d5,C5⟩:∃ a d,G.Fn _ mg "_law_rows_of" G.s_f ["_law_lists"] a d:=by
   refine' ⟨_,_,G.fn1 KX G0 ?e ?l ?g ?k (fun F=>F.binds (ps:=["_law_lists"]) fun _ _ _ _ _ _ us hl=>match us,hl with | [_],_=>rfl)⟩
   (case e|l|g|k=>k_is)
  obtain ⟨a6,d6,C6⟩:∃ a d,G.Fn _ mg "_law_all" G.s_3 ["_law_kind_here"] a d:=by
   refine' ⟨_,_,G.fn1 KX G0 ?e ?l ?g ?k (fun F=>F.binds (ps:=["_law_kind_here"]) fun _ _ _ _ _ _ us hl=>match us,hl with | [_],_=>rfl)⟩
   (case e|l|g|k=>k_is)
  obtain ⟨a7,d7,C7⟩:∃ a d,G.Fn _ mg "_law_size" G.s_8 ["_law_kind_here"] a d:=by
   refine' ⟨_,_,G.fn1 KX G0 ?e ?l ?g ?k (fun F=>F.binds (ps:=["_law_kind_here"]) fun _ _ _ _ _ _ us hl=>match us,hl with | [_],_=>rfl)⟩
   (case e|l|g|k=>k_is)
  obtain ⟨a8,d8,C8⟩:∃ a d,G.Fn _ mg "_law_small" G.s_u ["_law_script","_law_at_here","_law_most"] a d:=by
   refine' ⟨_,_,G.fn1 KX G0 ?e ?l ?g ?k (fun F=>F.binds (ps:=["_law_script","_law_at_here","_law_most"]) fun _ _ _ _ _ _ us hl=>match us,hl with | [_,_,_],_=>rfl)⟩
   (case e|l|g|k=>k_is)
  obtain ⟨a9,d9,C9⟩:∃ a d,G.Fn _ mg "_law_near" G.s_h ["_law_script","_law_at_here","_law_kind_here"] a d:=by
   refine' ⟨_,_,G.fn1 KX G0 ?e ?l ?g ?k (fun F=>F.binds (ps:=["_law_script","_law_at_here","_law_kind_here"]) fun _ _ _ _ _ _ us hl=>match us,hl with | [_,_,_],_=>rfl)⟩
   (case e|l|g|k=>k_is)
  obtain ⟨a10,d10,C10⟩:∃ a d,G.Fn _ mg "_law_places" G.s_i ["_law_thing"] a d:=by
   refine' ⟨_,_,G.fn1 KX G0 ?e ?l ?g ?k (fun F=>F.binds (ps:=["_law_thing"]) fun _ _ _ _ _ _ us hl=>match us,hl with | [_],_=>rfl)⟩
   (case e|l|g|k=>k_is)
  obtain ⟨a11,d11,C11⟩:∃ a d,G.Fn _ mg "_law_at" G.s_11 ["_law_thing","_law_place"] a d:=by
   refine' ⟨_,_,G.fn1 KX G0 ?e ?l ?g ?k (fun F=>F.binds (ps:=["_law_thing","_law_place"]) fun _ _ _ _ _ _ us hl=>match us,hl with | [_,_],_=>rfl)⟩
   (case e|l|g|k=>k_is)
  obtain ⟨a12,d12,C12⟩:∃ a d,G.Fn _ mg "_law_put" G.s_e ["_law_thing","_law_place","_law_new"] a d:=by
   refine' ⟨_,_,G.fn1 KX G0 ?e ?l ?g ?k (fun F=>F.binds (ps:=["_law_thing","_law_place","_law_new"]) fun _ _ _ _ _ _ us hl=>match us,hl with | [_,_,_],_=>rfl)⟩
   (case e|l|g|k=>k_is)
  obtain ⟨a13,d13,C13⟩:∃ a d,G.Fn _ mg "_law_spoilt_thing" G.s_10 ["_law_script","_law_at_here","_law_thing"] a d:=by
   refine' ⟨_,_,G.fn1 KX G0 ?e ?l ?g ?k (fun F=>F.binds (ps:=["_law_script","_law_at_here","_law_thing"]) fun _ _ _ _ _ _ us hl=>match us,hl with | [_,_,_],_=>rfl)⟩
   (case e|l|g|k=>k_is)
  obtain ⟨a14,d14,C14⟩:∃ a d,G.Fn _ mg "_law_whole" G.s_m ["_law_thing","_law_low","_law_high"] a d:=by
   refine' ⟨_,_,G.fn1 KX G0 ?e ?l ?g ?k (fun F=>F.binds (ps:=["_law_thing","_law_low","_law_high"]) fun _ _ _ _ _ _ us hl=>match us,hl with | [_,_,_],_=>rfl)⟩
   (case e|l|g|k=>k_is)
  obtain ⟨a15,d15,C15⟩:∃ a d,G.Fn _ mg "_law_is_word" G.s_s ["_law_thing"] a d:=by
   refine' ⟨_,_,G.fn1 KX G0 ?e ?l ?g ?k (fun F=>F.binds (ps:=["_law_thing"]) fun _ _ _ _ _ _ us hl=>match us,hl with | [_],_=>rfl)⟩
   (case e|l|g|k=>k_is)
  obtain ⟨a16,d16,C16⟩:∃ a d,G.Fn _ mg "_law_is_kind" G.s_a ["_law_thing","_law_deep"] a d:=by
   refine' ⟨_,_,G.fn1 KX G0 ?e ?l ?g ?k (fun F=>F.binds (ps:=["_law_thing","_law_deep"]) fun _ _ _ _ _ _ us hl=>match us,hl with | [_,_],_=>rfl)⟩
   (case e|l|g|k=>k_is)
  obtain ⟨a17,d17,C17⟩:∃ a d,G.Fn _ mg "_law_word" G.s_9 ["_law_kept"] a d:=by
   refine' ⟨_,_,G.fn1 KX G0 ?e ?l ?g ?k (fun F=>F.binds (ps:=["_law_kept"]) fun _ _ _ _ _ _ us hl=>match us,hl with | [_],_=>rfl)⟩
   (case e|l|g|k=>k_is)
  obtain ⟨a18,d18,C18⟩:∃ a d,G.Fn _ mg "is_whole" G.s_q ["thing"] a d:=by
   refine' ⟨_,_,G.fn1 KX G0 ?e ?l ?g ?k (fun F=>F.binds (ps:=["thing"]) fun _ _ _ _ _ _ us hl=>match us,hl with | [_],_=>rfl)⟩
   (case e|l|g|k=>k_is)
  obtain ⟨a19,d19,C19⟩:∃ a d,G.Fn _ mg "is_span" G.s_17 ["low","high","least","most"] a d:=by
   refine' ⟨_,_,G.fn1 KX G0 ?e ?l ?g ?k (fun F=>F.binds (ps:=["low","high","least","most"]) fun _ _ _ _ _ _ us hl=>match us,hl with | [_,_,_,_],_=>rfl)⟩
   (case e|l|g|k=>k_is)
  obtain ⟨a20,d20,C20⟩:∃ a d,G.Fn _ mg "is_tuple_of" G.s_j ["thing","least","most"] a d:=by
   refine' ⟨_,_,G.fn1 KX G0 ?e ?l ?g ?k (fun F=>F.binds (ps:=["thing","least","most"]) fun _ _ _ _ _ _ us hl=>match us,hl with | [_,_,_],_=>rfl)⟩
   (case e|l|g|k=>k_is)
  obtain ⟨a21,d21,C21⟩:∃ a d,G.Fn _ mg "is_word" G.s_7 ["thing"] a d:=by
   refine' ⟨_,_,G.fn1 KX G0 ?e ?l ?g ?k (fun F=>F.binds (ps:=["thing"]) fun _ _ _ _ _ _ us hl=>match us,hl with | [_],_=>rfl)⟩
   (case e|l|g|k=>k_is)
  obtain ⟨a22,d22,C22⟩:∃ a d,G.Fn _ mg "is_choice" G.s_z ["thing"] a d:=by
   refine' ⟨_,_,G.fn1 KX G0 ?e ?l ?g ?k (fun F=>F.binds (ps:=["thing"]) fun _ _ _ _ _ _ us hl=>match us,hl with | [_],_=>rfl)⟩
   (case e|l|g|k=>k_is)
  obtain ⟨a23,d23,C23⟩:∃ a d,G.Fn _ mg "are_choices" G.s_t ["thing"] a d:=by
   refine' ⟨_,_,G.fn1 KX G0 ?e ?l ?g ?k (fun F=>F.binds (ps:=["thing"]) fun _ _ _ _ _ _ us hl=>match us,hl with | [_],_=>rfl)⟩
   (case e|l|g|k=>k_is)
  obtain ⟨a24,d24,C24⟩:∃ a d,G.Fn _ mg "is_kind_within" G.s_b ["thing","levels"] a d:=by
   refine' ⟨_,_,G.fn1 KX G0 ?e ?l ?g ?k (fun F=>F.binds (ps:=["thing","levels"]) fun _ _ _ _ _ _ us hl=>match us,hl with | [_,_],_=>rfl)⟩
   (case e|l|g|k=>k_is)
  obtain ⟨a25,d25,C25⟩:∃ a d,G.Fn _ mg "are_kinds_within" G.z0l ["thing","levels"] a d:=by
   refine' ⟨_,_,G.fn1 KX G0 ?e ?l ?g ?k (fun F=>F.binds (ps:=["thing","levels"]) fun _ _ _ _ _ _ us hl=>match us,hl with | [_,_],_=>rfl)⟩
   (case e|l|g|k=>k_is)
  obtain ⟨a26,d26,C26⟩:∃ a d,G.Fn _ mg "is_kind" G.s_1 ["thing"] a d:=by
   refine' ⟨_,_,G.fn1 KX G0 ?e ?l ?g ?k (fun F=>F.binds (ps:=["thing"]) fun _ _ _ _ _ _ us hl=>match us,hl with | [_],_=>rfl)⟩
   (case e|l|g|k=>k_is)
  obtain ⟨a27,d27,C27⟩:∃ a d,G.Fn _ mg "need_kind" G.s_l ["kind"] a d:=by
   refine' ⟨_,_,G.fn1 KX G0 ?e ?l ?g ?k (fun F=>F.binds (ps:=["kind"]) fun _ _ _ _ _ _ us hl=>match us,hl with | [_],_=>rfl)⟩
   (case e|l|g|k=>k_is)
  obtain ⟨a28,d28,C28⟩:∃ a d,G.Fn _ mg "common_whole" G.s_13 ["one","other"] a d:=by
   refine' ⟨_,_,G.fn1 KX G0 ?e ?l ?g ?k (fun F=>F.binds (ps:=["one","other"]) fun _ _ _ _ _ _ us hl=>match us,hl with | [_,_],_=>rfl)⟩
   (case e|l|g|k=>k_is)
  obtain ⟨a29,d29,C29⟩:∃ a d,G.Fn _ mg "words_of_pick" G.s_v ["kind"] a d:=by
   refine' ⟨_,_,G.fn1 KX G0 ?e ?l ?g ?k (fun F=>F.binds (ps:=["kind"]) fun _ _ _ _ _ _ us hl=>match us,hl with | [_],_=>rfl)⟩
   (case e|l|g|k=>k_is)
  obtain ⟨a30,d30,C30⟩:∃ a d,G.Fn _ mg "common_pick" G.s_x ["one","other"] a d:=by
   refine' ⟨_,_,G.fn1 KX G0 ?e ?l ?g ?k (fun F=>F.binds (ps:=["one","other"]) fun _ _ _ _ _ _ us hl=>match us,hl with | [_,_],_=>rfl)⟩
   (case e|l|g|k=>k_is)
  obtain ⟨a31,d31,C31⟩:∃ a d,G.Fn _ mg "kinds_of_parts" G.s_y ["kind","length"] a d:=by
   refine' ⟨_,_,G.fn1 KX G0 ?e ?l ?g ?k (fun F=>F.binds (ps:=["kind","length"]) fun _ _ _ _ _ _ us hl=>match us,hl with | [_,_],_=>rfl)⟩
   (case e|l|g|k=>k_is)
  obtain ⟨a32,d32,C32⟩:∃ a d,G.Fn _ mg "common_kind" G.s_5 ["one","other"] a d:=by
   refine' ⟨_,_,G.fn1 KX G0 ?e ?l ?g ?k (fun F=>F.binds (ps:=["one","other"]) fun _ _ _ _ _ _ us hl=>match us,hl with | [_,_],_=>rfl)⟩
   (case e|l|g|k=>k_is)
  obtain ⟨a33,d33,C33⟩:∃ a d,G.Fn _ mg "common_row" G.z0n ["one_kinds","other_kinds"] a d:=by
   refine' ⟨_,_,G.fn1 KX G0 ?e ?l ?g ?k (fun F=>F.binds (ps:=["one_kinds","other_kinds"]) fun _ _ _ _ _ _ us hl=>match us,hl with | [_,_],_=>rfl)⟩
   (case e|l|g|k=>k_is)
  obtain ⟨a34,d34,C34⟩:∃ a d,G.Fn _ mg "common_many" G.s_18 ["one","other"] a d:=by
   refine' ⟨_,_,G.fn1 KX G0 ?e ?l ?g ?k (fun F=>F.binds (ps:=["one","other"]) fun _ _ _ _ _ _ us hl=>match us,hl with | [_,_],_=>rfl)⟩
   (case e|l|g|k=>k_is)
  obtain ⟨a35,d35,C35⟩:∃ a d,G.Fn _ mg "both" G.s_c ["one","other"] a d:=by
   refine' ⟨_,_,G.fn1 KX G0 ?e ?l ?g ?k (fun F=>F.binds (ps:=["one","other"]) fun _ _ _ _ _ _ us hl=>match us,hl with | [_,_],_=>rfl)⟩
   (case e|l|g|k=>k_is)
  obtain ⟨a36,d36,C36⟩:∃ a d,G.Fn _ mg "count_of" G.s_4 ["kind"] a d:=by
   refine' ⟨_,_,G.fn1 KX G0 ?e ?l ?g ?k (fun F=>F.binds (ps:=["kind"]) fun _ _ _ _ _ _ us hl=>match us,hl with | [_],_=>rfl)⟩
   (case e|l|g|k=>k_is)
  obtain ⟨a37,d37,C37⟩:∃ a d,G.Fn _ mg "count_of_parts" G.s_n ["kinds"] a d:=by
   refine' ⟨_,_,G.fn1 KX G0 ?e ?l ?g ?k (fun F=>F.binds (ps:=["kinds"]) fun _ _ _ _ _ _ us hl=>match us,hl with | [_],_=>rfl)⟩
   (case e|l|g|k=>k_is)
  obtain ⟨a38,d38,C38⟩:∃ a d,G.Fn _ mg "count_shorter" G.z0o ["kind","length"] a d:=by
   refine' ⟨_,_,G.fn1 KX G0 ?e ?l ?g ?k (fun F=>F.binds (ps:=["kind","length"]) fun _ _ _ _ _ _ us hl=>match us,hl with | [_,_],_=>rfl)⟩
   (case e|l|g|k=>k_is)
  obtain ⟨a39,d39,C39⟩:∃ a d,G.Fn _ mg "is_within" G.s_p ["one","other"] a d:=by
   refine' ⟨_,_,G.fn1 KX G0 ?e ?l ?g ?k (fun F=>F.binds (ps:=["one","other"]) fun _ _ _ _ _ _ us hl=>match us,hl with | [_,_],_=>rfl)⟩
   (case e|l|g|k=>k_is)
  obtain ⟨a40,d40,C40⟩:∃ a d,G.Fn _ mg "are_apart" G.s_o ["one","other"] a d:=by
   refine' ⟨_,_,G.fn1 KX G0 ?e ?l ?g ?k (fun F=>F.binds (ps:=["one","other"]) fun _ _ _ _ _ _ us hl=>match us,hl with | [_,_],_=>rfl)⟩
   (case e|l|g|k=>k_is)
  obtain ⟨a41,d41,C41⟩:∃ a d,G.Fn _ mg "_law_tried" G.s_6 ["_law_what","_law_one","_law_other"] a d:=by
   refine' ⟨_,_,G.fn1 KX G0 ?e ?l ?g ?k (fun F=>F.binds (ps:=["_law_what","_law_one","_law_other"]) fun _ _ _ _ _ _ us hl=>match us,hl with | [_,_,_],_=>rfl)⟩
   (case e|l|g|k=>k_is)
  obtain ⟨a42,d42,C42⟩:∃ a d,G.Fn _ mg "_law_sorted" G.s_d ["_law_worths"] a d:=by
   refine' ⟨_,_,G.fn1 KX G0 ?e ?l ?g ?k (fun F=>F.binds (ps:=["_law_worths"]) fun _ _ _ _ _ _ us hl=>match us,hl with | [_],_=>rfl)⟩
   (case e|l|g|k=>k_is)
  obtain ⟨a43,d43,C43⟩:∃ a d,G.Fn _ mg "_law_are_rows_common" G.s_r ["_law_script"] a d:=by
   refine' ⟨_,_,G.fn1 KX G0 ?e ?l ?g ?k (fun F=>F.binds (ps:=["_law_script"]) fun _ _ _ _ _ _ us hl=>match us,hl with | [_],_=>rfl)⟩
   (case e|l|g|k=>k_is)
  obtain ⟨a44,d44,C44,hB⟩:∃ a d,G.Fn _ mg "law" G.s_0 ["_law_script"] a d/\∀ (s:PySem.Shared) (v:PySem.Value),BindsTo s d ⟨[v],[]⟩ [("_law_script",v)]:=by
   refine' ⟨_,_,G.fn1 KX G0 ?e ?l ?g ?k (fun F=>F.binds (ps:=["_law_script"]) fun _ _ _ _ _ _ us hl=>match us,hl with | [_],_=>rfl),fun s v=> .of_eq rfl⟩
   (case e|l|g|k=>k_is)
  refine' G.fin_ KX G0 hmg ⟨a0,d0,C0,a1,d1,C1,a2,d2,C2,a3,d3,C3,a4,d4,C4,a5,d5,C5,a6,d6,C6,a7,d7,C7,a8,d8,C8,a9,d9,C9,a10,d10,C10,a11,d11,C11,a12,d12,C12,a13,d13,C13,a14,d14,C14,a15,d15,C15,a16,d16,C16,a17,d17,C17,a18,d18,C18,a19,d19,C19,a20,d20,C20,a21,d21,C21,a22,d22,C22,a23,d23,C23,a24,d24,C24,a25,d25,C25,a26,d26,C26,a27,d27,C27,a28,d28,C28,a29,d29,C29,a30,d30,C30,a31,d31,C31,a32,d32,C32,a33,d33,C33,a34,d34,C34,a35,d35,C35,a36,d36,C36,a37,d37,C37,a38,d38,C38,a39,d39,C39,a40,d40,C40,a41,d41,C41,a42,d42,C42,a43,d43,C43,a44,d44,C44,PySem.W.mg_none_of KX G0 (by k_is),PySem.W.mg_none_of KX G0 (by k_is),PySem.W.mg_none_of KX G0 (by k_is),PySem.W.mg_none_of KX G0 (by k_is),PySem.W.mg_none_of KX G0 (by k_is),PySem.W.mg_none_of KX G0 (by k_is),PySem.W.mg_none_of KX G0 (by k_is),PySem.W.mg_none_of KX G0 (by k_is),PySem.W.mg_none_of KX G0 (by k_is),PySem.W.mg_none_of KX G0 (by k_is),PySem.W.mg_none_of KX G0 (by k_is),PySem.W.mg_none_of KX G0 (by k_is),PySem.W.mg_none_of KX G0 (by k_is),PySem.W.mg_none_of KX G0 (by k_is),PySem.W.mg_none_of KX G0 (by k_is),PySem.W.mg_none_of KX G0 (by k_is),PySem.W.mg_none_of KX G0 (by k_is),⟨_,PySem.W.mg_of KX G0 (by k_is),_,rfl⟩⟩ hB ?n0 ?n1 ?n2 ?n3 ?n4 ?n5 ?n6 ?b0 ?b1 ?b2 ?b3 ?b4 ?b5 ?b6 ?b7 ?b8 ?b9
  (case n0|n1|n2|n3|n4|n5|n6=>k_is)
  (case b0|b1|b2|b3|b4|b5|b6|b7|b8|b9=>kernel_rfl)
